/- PgK, PgL, PgM (joined). -/
import Derived.Shelf.Abstract
import Derived.Test.YtfplgfodoiiobaaGreatDoorD15
open Option renaming none→O,some→M
open Go.Value renaming int→I,slice→Z,pointer→U
open Go.IntKind renaming i64→V
open Go.Obj renaming cells→C
open Go.Ending renaming returned→G
open Go renaming World→F,Value→Y,Calls→H
open Go.Proofs.Tryz renaming prog→K
open Go.Proofs.Tryz
namespace Go.Proofs.YtfplgfodoiiobaaGreatDoor
set_option maxHeartbeats 4000000
set_option maxRecDepth 100000
open Go.RowKit
abbrev AdH:=@List.getElem_take
abbrev AaH:=@decide_eq_true
variable {w w':F}{rs:List FR}{ps:Nat->Addr}{db k:Nat}{s:Sc}{fv:Y}
def qJ (r:FR):Bool:=r.f.2.1.size==0
theorem IZ {r:FR}(h:gP w r):H K 261 #[U (M ⟨r.b,0,O⟩)] w fun e w'=>e=G (.bool (qJ r))/\w'=w:=by
 obtain⟨-,f1,-⟩:=gQ h.1;obtain⟨ao,cap,e,-⟩:=bI.form h.2;have hz:r.f.2.1.data.toList.length=r.f.2.1.size:=rfl;rw[e,hz]at f1;have HE:Hid (qJ r=(r.f.2.1.size==0)):=rfl;generalize r.f.2.1.size=z at f1 HE;clear e hz h;cases z with
 |zero=>
  go_enter func261,ntmps261;go_wp2_with fail;go_ret;rw[HE.out];exact⟨rfl,rfl⟩
 |succ z=>
  have hz:¬((z:Int)+1=0):=by omega
  go_enter func261,ntmps261;go_wp2_with fail;go_ret;rw[HE.out];refine⟨?_,rfl⟩;simp
  first|done|omega
def CF (rs:List FR):Int:=match rs.findIdx? qJ with
 |some i=>(i:Int)
 |none=> -1
theorem za {g cap:Nat}(hc:∀(i:Nat) (r:FR),rs[i]?=M r->w.cell? ⟨g,i,O⟩=M r.p)(hf:∀r∈rs,gP w r)(hl:rs.length<=1000000):
 H K 268 #[Z (M ⟨g,0,O⟩) rs.length cap,.func (.func 261) #[] #[]] w fun e w'=>e=G (I V (CF rs))/\w'=w:=by
 have HC:Hid (∀(i:Nat) (r:FR),rs[i]?=M r->w.cell? ⟨g,i,O⟩=M r.p):=hc;have HF:Hid (∀r∈rs,gP w r):=hf;clear hc hf;go_enter func268,ntmps268;go_wp2_with fail
 go_loop [5,8] (fun _ i=> ∃k:Nat,k<=rs.length/\i=I V (k:Int)/\Hid (∀j r,j<k->rs[j]?=M r->qJ r=false)) (fun _ i=>rs.length-(intOf i).toNat)
 case atStart=>exact⟨0,Aap _,rfl,fun j r hj=>by omega⟩
 case round=>
  obtain⟨k,hk,rfl,HN⟩:=hrel;by_cases bP:k<rs.length
  ·obtain⟨r,hr⟩:∃r,rs[k]?=M r:=⟨_,Aag bP⟩;have c1:=HC.out _ r hr;unfold FR.p at c1;have fT:=IZ (HF.out r (Aai hr));have HR:Hid (rs[k]?=M r):=hr;clear hr;have i1:(0:Int)<=(k:Int):=(by omega);have i2:(k:Int)<(rs.length:Int):=(by omega);cases hg:qJ r with
   |true=>
    rw[hg]at fT
    have HE:Hid (CF rs=(k:Int)):=by
     show _=_;unfold CF
     have:rs.findIdx? qJ=M k:=by
      rw[Abp];obtain⟨q1,q2⟩:=Aae.1 HR.out;exact⟨q1,by rw[q2,hg],fun j hj=>by simpa using HN.out j _ hj (Aag (by omega))⟩
     rw[this]
    clear hg;go_wp2_with (go_at_call 261;refine fT.mono ?_;rintro e w ⟨rfl,rfl⟩);go_ret;rw[HE.out];exact⟨rfl,rfl⟩
   |false=>
    rw[hg]at fT;have HG:Hid (qJ r=false):=hg;clear hg;go_wp2_with (go_at_call 261;refine fT.mono ?_;rintro e w ⟨rfl,rfl⟩)
    go_round
    case rel=>exact⟨k+1,by omega,by go_num,fun j q hj hq=>by
     by_cases sw:j=k
     ·subst sw;rw[HR.out]at hq;cases hq;exact HG.out
     ·exact HN.out j q (by omega) hq⟩
    case measure=>simp[intOf];omega
  ·have HE:Hid (CF rs= -1):=by
    show _=_;unfold CF
    have:rs.findIdx? qJ=O:=by
     rw[AbT];intro r hr;obtain⟨j,hj,rfl⟩:=Abh hr;exact HN.out j _ (by omega) (Aag hj)
    rw[this]
   go_wp2_with fail;go_ret;rw[HE.out];exact⟨rfl,rfl⟩
def DelAt (wr:F)(g cap:Nat)(rs:List FR)(i j:Nat):Prop:=∃aS,wr.heap[g]?=M (C aS 155 (0,0))/\aS.size=cap/\aS.toList.take i=((rs.take j).filter (fun r=>!qJ r)).map FR.p/\∀t r,j<=t->rs[t]?=M r->aS.toList[t]?=M r.p
theorem Ba {r:FR}(h:rs[k]?=M r)(p:FR->Bool):(rs.take (k+1)).filter p=(rs.take k).filter p++(if p r then [r]else []):=by
 obtain⟨bP,he⟩:=Aae.1 h;rw[Aau bP,AcQ,he];simp[List.filter_cons]
theorem YH {ao:Option Addr}{cap:Nat}{fn:Y}:
 H K 268 #[Z ao 0 cap,fn] w fun e w'=>e=G (I V (-1))/\w'=w:=by
 go_enter func268,ntmps268;go_wp2_with fail
 go_loop [5,8] (fun _ i=>i=I V 0) (fun _ _=>0)
 case atStart=>rfl
 case round=>
  subst hrel;go_wp2_with fail;go_ret;exact⟨rfl,rfl⟩
def Po (rs:List FR):List FR:=rs.filter (fun r=>!qJ r)
def CG (w w':F)(v v':Y)(rs:List FR):Prop:=iA w' v' (Po rs)/\v'.ownBlock=v.ownBlock/\Fr w w' (fun b=>v.ownBlock=M b)/\w'.os=w.os/\w'.tape=w.tape/\w'.output=w.output
theorem PS {v:Y}(h:iA w v rs)(hf:∀r∈rs,gP w r)(hl:rs.length<=1000000):
 H K 260 #[v,.func (.func 261) #[] #[]] w fun e w'=> ∃v',e=G v'/\CG w w' v v' rs:=by
 have HO:Hid (iA w v rs):=h;obtain⟨ao,cap,rfl,iI,hm,gL,iU⟩:=iA.form h;cases ao with
 |none=>
  obtain⟨rfl,rfl⟩:=gL rfl;have hI:H K 268 #[Z O 0 0,.func (.func 261) #[] #[]] w fun e w'=>e=G (I V (-1))/\w'=w:=YH;clear h iU gL hf;go_enter func260,ntmps260;go_wp2_with fail;refine hI.mono ?_;rintro e w ⟨rfl,rfl⟩;go_wp2_with fail;go_ret;exact⟨_,rfl,HO.out,rfl,Fr.refl _ _,rfl,rfl,rfl⟩
 |some a=>
  obtain⟨g,aS,rfl,hg,hcs,Vv,hc⟩:=iU a rfl;have hI:=za (cap:=cap) hc hf hl;have HF:Hid (∀r∈rs,gP w r):=hf;have TH:aS.toList.length=cap:=by simpa using hcs
  cases he:rs.findIdx? qJ with
  |none=>
   have e1:CF rs= -1:=(by unfold CF;rw[he]);rw[e1]at hI
   have HK:Hid (Po rs=rs):=by
    show _=_;unfold Po;rw[AbS];intro r hr;rw[AbT]at he;rw[he r hr];rfl
   clear h iU gL hf hc Vv he e1;go_enter func260,ntmps260;go_wp2_with fail;refine hI.mono ?_;rintro e w ⟨rfl,rfl⟩;go_wp2_with fail;go_ret;exact⟨_,rfl,by unfold CG;rw[HK.out];exact⟨HO.out,rfl,Fr.refl _ _,rfl,rfl,rfl⟩⟩
  |some i0=>
   have e1:CF rs=(i0:Int):=(by unfold CF;rw[he]);rw[e1]at hI;obtain⟨hi0,hgone,hbef⟩:=Abp.1 he
   have hK0:(rs.take (i0+1)).filter (fun r=>!qJ r)=rs.take i0:=by
    rw[Ba (Aag hi0),hgone];simp only[Bool.not_true,AaD,if_false,AcP];rw[AbS];intro r hr;obtain⟨j,hj,rfl⟩:=Abh hr;have rz:j<i0:=(by simp at hj;omega);have:=hbef j rz;rw[AdH];simpa using this
   have HD0:Hid (DelAt w g cap rs i0 (i0+1)):=by
    refine⟨aS,hg,hcs,?_,fun t r ht hr=>?_⟩
    ·rw[hK0,AbB,<-Vv,AcI,Ady (by omega)]
    ·have:=hc t r hr;rw[(iG hg t).1]at this;exact this
   have HL0:Hid (((rs.take (i0+1)).filter (fun r=>!qJ r)).length=i0):=(by show _=_;rw[hK0,Aaw];omega);have hi1:((i0:Int)== -1)=false:=(by rw[Aat];omega);have htyg:w.heap[g]?=M (C aS 155 (0,0)):=hg;clear h iU gL hf hc Vv he e1 hgone hbef hK0 hg;go_enter func260,ntmps260;go_wp2_with fail;refine hI.mono ?_;rintro e w ⟨rfl,rfl⟩;go_wp2_with fail
   go_loopw [5,6,7] (fun s5 s6 _ wr=> ∃i j:Nat,s5=I V (i:Int)/\s6=I V (j:Int)/\i<j/\j<=rs.length/\Hid (((rs.take j).filter (fun r=>!qJ r)).length=i)/\Hid (DelAt wr g cap rs i j)/\Hid (Og w wr g)) (fun _ s6 _ _=>rs.length-(intOf s6).toNat)
   case atStart=>exact⟨i0,i0+1,rfl,by go_num,by omega,by omega,HL0,HD0,Og.refl w g⟩
   case round=>
    obtain⟨i,j,rfl,rfl,hij,hj,HL,HD,HG⟩:=hrel;by_cases bP:j<rs.length
    ·obtain⟨r,hr⟩:∃r,rs[j]?=M r:=⟨_,Aag bP⟩;have HR:Hid (rs[j]?=M r):=hr;obtain⟨sG,g1,g2,g3,g4⟩:=HD.out;have c1:wr.cell? ⟨g,j,O⟩=M r.p:=(iG g1 j).1.trans (g4 j r (Aak _) hr);have c2:∃u,wr.cell? ⟨g,i,O⟩=M u:=⟨sG.toList[i]'(by simp;omega),by rw[(iG g1 i).1];exact Aag _⟩;obtain⟨u,c2⟩:=c2;have c3:wr.frozen? ⟨g,i,O⟩=false:=(iG g1 i).2
     have Zf:gP wr r:=by
      have hq:=HF.out r (Aai hr);refine hq.fr HG.out.1 (fun e=>aZ hq.1 htyg (by decide) e) (fun k hk e=>?_);obtain⟨c,Rf,hc⟩:=bI.ty hq.2 hk;exact aZ hc htyg (by decide) e
     have fT:=IZ Zf;unfold FR.p at c1;have i1:(0:Int)<=(j:Int):=(by omega);have i2:(j:Int)<(rs.length:Int):=(by omega);have i3:(0:Int)<=(i:Int):=(by omega);have i4:(i:Int)<(rs.length:Int):=(by omega);clear hr g1 g2 g3 g4 Zf;cases Zg:qJ r with
     |true=>
      rw[Zg]at fT
      have HN:Hid ((rs.take (j+1)).filter (fun r=>!qJ r)=(rs.take j).filter (fun r=>!qJ r)):=by
       show _=_;rw[Ba HR.out,Zg];simp
      clear Zg;go_wp2_with (go_at_call 261;refine fT.mono ?_;rintro e wr ⟨rfl,rfl⟩);go_roundw
      case rel=>
       obtain⟨sG,g1,g2,g3,g4⟩:=HD.out;exact⟨i,j+1,rfl,by go_num,by omega,by omega,by show _=_;rw[HN.out];exact HL.out,⟨sG,g1,g2,by rw[HN.out];exact g3,fun t q ht hq=>g4 t q (by omega) hq⟩,HG⟩
      case measure=>simp[intOf];omega
     |false=>
      rw[Zg]at fT
      have HN:Hid ((rs.take (j+1)).filter (fun r=>!qJ r)=(rs.take j).filter (fun r=>!qJ r)++ [r]):=by
       show _=_;rw[Ba HR.out,Zg];simp
      clear Zg;go_wp2_with (go_at_call 261;refine fT.mono ?_;rintro e wr ⟨rfl,rfl⟩);go_roundw
      case rel=>
       obtain⟨sG,g1,g2,g3,g4⟩:=HD.out;have PN:sG.toList.length=cap:=(by simpa using g2);refine⟨i+1,j+1,by go_num,by go_num,by omega,by omega,?_,?_,HG.out.set⟩
       ·show _=_;rw[HN.out,Aah,HL.out];rfl
       ·refine⟨sG.setIfInBounds i r.p,Aaj _ g i sG _ _ g1,by simpa using g2,?_,fun t q ht hq=>?_⟩
        ·have e0:(sG.setIfInBounds i r.p).toList=sG.toList.set i r.p:=(by simp);rw[e0,(Zb sG.toList i r.p 0 (by omega)).1,g3,HN.out,Abb];rfl
        ·have e0:(sG.setIfInBounds i r.p).toList=sG.toList.set i r.p:=(by simp);rw[e0,Acd,Aaa (by omega)];exact g4 t q (by omega) hq
      case measure=>simp[intOf];omega
    ·obtain rfl:j=rs.length:=by omega
     obtain⟨sG,g1,g2,g3,g4⟩:=HD.out;have PN:sG.toList.length=cap:=by simpa using g2
     have UF:∀ty,(Builtin.clear_ #[135] ty #[Z (M ⟨g,i,O⟩) (rs.length-i) (cap-i)]).run K wr= .ok (.tuple #[]) (wr.setCells g i (List.replicate (rs.length-i) (U O))):=
      fun ty=>Lib.run_clear_slice wr _ _ ty _ underlying135 IW rfl rfl g _ _ _ (by omega) (fun t ht=>by rw[(iG g1 _).1];simp;rw[g2];omega) (fun t ht=>(iG g1 _).2)
     obtain⟨Nk,k1,k2⟩:=jS g 155 (List.replicate (rs.length-i) (U O)) i wr sG g1 (by rw[AcR,g2];omega);have jY:=Og.cells g (List.replicate (rs.length-i) (U O)) i HG.out
     have ze:Hid (CG w (wr.setCells g i (List.replicate (rs.length-i) (U O))) (Z (M ⟨g,0,O⟩) rs.length cap) (Z (M ⟨g,0,O⟩) i cap) rs):=by
      have e0:Po rs=(rs.take rs.length).filter (fun r=>!qJ r):=(by rw[Acl];rfl);have e1:(Po rs).length=i:=(by rw[e0];exact HL.out);refine⟨⟨by simp,Aab ⟨g,cap,Nk,by rw[e1],Aap _,k1,by rw[e1];omega,hm,?_,?_⟩⟩,rfl,jY.1.mono fun b e=>by rw[e];rfl,jY.2⟩
      ·have:Nk.toList.length=cap:=(by rw[k2];simp;omega);simpa using this
      ·rw[e1,Adp,k2,AaJ,Adc (by rw[Aaw,PN];omega),g3,e0]
     generalize wr.setCells g i (List.replicate (rs.length-i) (U O))=w9 at UF ze;have i3:(0:Int)<=(i:Int):=(by omega);have i4:(i:Int)<=(rs.length:Int):=(by omega);have i5:¬cap=i:=(by omega);have i6:i<=cap:=(by omega);have i7:i<=rs.length:=(by omega);clear g1 g2 g3 g4 k1 k2 jY;go_wp2_with fail;go_ret;exact⟨_,rfl,ze.out⟩
def PU (w wr:F)(db:Nat)(s:Sc)(fv:Y)(rs:List FR)(k:Nat)(done:List FR):Prop:=
 done.length=k/\plain done=((plain rs).take k).map (gG s.one s.rest)/\aU wr db s fv (done++rs.drop k)/\Dk w wr (DX db fv rs) (DX db fv (done++rs.drop k))
theorem zk {one rest:Int}{f:bC}(h:okF f)(h1:0<=one)(h2:0<=rest):0<=tH one rest f/\tH one rest f<=(f.2.1.size:Int):=by
 unfold okF at h;unfold tH;split<;>split at* <;>omega
theorem lose_pg (h:aU w db s fv rs)(hl:rs.length<=1000000)(kP:∀f∈plain rs,okF f)(h1:0<=s.one)(h2:0<=s.rest)(h3:s.one<=9223372036854775807)(h4:s.rest<=9223372036854775807):
 H K 250 #[U (M ⟨db,0,O⟩)] w fun e w'=>e=G (.tuple #[])/\∃dV dP,aU w' db s dV dP/\plain dP=((plain rs).map (gG s.one s.rest)).filter (fun f=>f.2.1.size !=0)/\Dk w w' (DX db fv rs) (DX db dV dP):=by
 obtain⟨-,c1,-⟩:=dJ h.1;obtain⟨ao,cap,rfl,iI,hm,gL,iU⟩:=iA.form h.2.1;have HS:Hid (PU w w db s (Z ao rs.length cap) rs 0 []):=⟨rfl,by simp[plain],by simpa using h,by simpa using Dk.refl w _⟩;have HK:Hid (∀f∈plain rs,okF f):=kP;clear h iU kP;go_enter func250,ntmps250;go_wp2_with fail
 go_loopw [3,4,10] (fun _ _ i wr=> ∃(k:Nat) (done:List FR),i=I V (k:Int)/\k<=rs.length/\Hid (PU w wr db s (Z ao rs.length cap) rs k done)) (fun _ _ i _=>rs.length-(intOf i).toNat)
 case atStart=>exact⟨0,[],rfl,Aap _,HS⟩
 case round=>
  obtain⟨k,done,rfl,hk,HL⟩:=hrel;obtain⟨q1,q2,q3,q4⟩:=HL.out;by_cases bP:k<rs.length
  ·obtain⟨r,hr⟩:∃r,rs[k]?=M r:=⟨_,Aag bP⟩
   have UD:(done++rs.drop k)[k]?=M r:=by
    rw[AaR (by omega),q1,AcS,AcB,Nat.add_zero,hr]
   have Zf:=q3.2.2.1 r (Aai UD);obtain⟨ao2,Nc,q5,hcap2,BR,hnil2,hrow2⟩:=iA.form q3.2.1;cases ao with
   |none=>obtain⟨rfl,-⟩:=gL rfl;simp at bP
   |some a=>
    injection q5 with e1 e2 e3;subst e1;clear e2 e3;obtain⟨g,aS,rfl,-,-,-,hc⟩:=hrow2 a rfl;have d1:=hc k r UD;unfold FR.p at d1;obtain⟨d0,d2,d3,df⟩:=gQ Zf.1;obtain⟨nI,kX,q6,-⟩:=bI.form Zf.2;have hz:r.f.2.1.data.toList.length=r.f.2.1.size:=rfl;rw[q6,hz]at d2;obtain⟨-,-,-,-,-,-,e6,e7,-⟩:=dJ q3.1;have YI:okF r.f:=HK.out _ (Aai (jU hr));have hb:=zk YI h1 h2;obtain⟨n,hn⟩:=AbA hb.1
    have HC:Hid (∀W:F,aL wr W->H K 237 #[U (M ⟨r.b,0,O⟩),I V (tH s.one s.rest r.f)] W fun e w'=>e=G (.tuple #[])/\∃done',PU w w' db s (Z (M ⟨g,0,O⟩) rs.length cap) rs (k+1) done'):=fun W hW=>by
     rw[hn];refine(UE (n:=n) (⟨(hW.block _ (aM Zf.1)).trans Zf.1,Zf.2.aN hW⟩:gP W r) (by omega) (by unfold okF at YI;omega)).mono ?_;rintro e w' ⟨rfl,v',hF,jY,CJ⟩;refine⟨rfl,done++ [(r.b,v',gG s.one s.rest r.f)],?_⟩;have UF:gG s.one s.rest r.f=(r.f.1,r.f.2.1.extract 0 n,(n:Int)):=(by unfold gG;rw[hn];rfl);rw[UF];obtain⟨p1,p2⟩:=(q3.aN hW).Ky (r':=(r.b,v',(r.f.1,r.f.2.1.extract 0 n,(n:Int)))) UD rfl (jY.1.mono fun b e=>Aac e) jY.2 hF (Aab CJ)
     have hset:(done++rs.drop k).set k (r.b,v',(r.f.1,r.f.2.1.extract 0 n,(n:Int)))=(done++ [(r.b,v',(r.f.1,r.f.2.1.extract 0 n,(n:Int)))])++rs.drop (k+1):=by
      rw[AbV _ _ (by omega),q1,AcS,AaJ];congr 1;rw[AaQ bP];rfl
     rw[hset]at p1 p2;refine⟨by simp[q1],?_,p1,(q4.aN hW).trans p2⟩;have:plain (done++ [(r.b,v',(r.f.1,r.f.2.1.extract 0 n,(n:Int)))])=plain done++ [(r.f.1,r.f.2.1.extract 0 n,(n:Int))]:=(by simp[plain,FR.f]);rw[this,q2,<-UF,Aau (by rw[bN];exact bP),Abb]
     have kR:(plain rs)[k]'(by rw[bN];exact bP)=r.f:=by
      have:=jU hr;exact(Aae.1 this).2
     rw[kR];rfl
    have i1:(0:Int)<=(k:Int):=(by omega);have i2:(k:Int)<(rs.length:Int):=(by omega);unfold okF at YI
    have HN1:Hid (tH s.one s.rest r.f=r.f.2.2+min (if r.f.1=1 then s.one else s.rest) ((r.f.2.1.size:Int)-r.f.2.2)):=by
     show _=_;unfold tH;split<;>split<;>omega
    clear hr UD Zf hrow2 hc df q1 q2 q3 q4 hnil2 hcap2 BR HL HS gL hn hb q6 hz;have z1:IntKind.i64.wrap ((r.f.2.1.size:Int)-r.f.2.2)=(r.f.2.1.size:Int)-r.f.2.2:=(by rw[AaE];omega);by_cases YJ:r.f.1=1
    ·have ho:(r.f.1==1)=true:=(by simp[YJ]);rw[Aad YJ]at HN1;have z2:IntKind.i64.wrap (r.f.2.2+min s.one ((r.f.2.1.size:Int)-r.f.2.2))=tH s.one s.rest r.f:=(by rw[HN1.out,AaE];omega);clear YJ;go_upto_region 6 with fail;have G0:=aL.refl wr
     go_region_with (first|(go_at_call 237;refine(HC.out _ (by repeat (first|assumption|refine aL.drew ?_))).mono ?_;rintro e w5 ⟨rfl,dn,hL⟩))
     all_goals go_wp2_with fail
     all_goals go_roundw
     all_goals first
      |(case rel=>exact⟨k+1,dn,by go_num,by omega,hL⟩)
      |(case measure=>simp[intOf];omega)
    ·have ho:(r.f.1==1)=false:=(by simp[YJ]);rw[Aaa YJ]at HN1;have z2:IntKind.i64.wrap (r.f.2.2+min s.rest ((r.f.2.1.size:Int)-r.f.2.2))=tH s.one s.rest r.f:=(by rw[HN1.out,AaE];omega);clear YJ;go_upto_region 6 with fail;have G0:=aL.refl wr
     go_region_with (first|(go_at_call 237;refine(HC.out _ (by repeat (first|assumption|refine aL.drew ?_))).mono ?_;rintro e w5 ⟨rfl,dn,hL⟩))
     all_goals go_wp2_with fail
     all_goals go_roundw
     all_goals first
      |(case rel=>exact⟨k+1,dn,by go_num,by omega,hL⟩)
      |(case measure=>simp[intOf];omega)
  ·obtain rfl:k=rs.length:=by omega
   have hdk:done++rs.drop rs.length=done:=(by simp);rw[hdk]at q3 q4;obtain⟨-,c1',-⟩:=dJ q3.1;have hDF:=PS q3.2.1 q3.2.2.1 (by omega);have HD:Hid (aU wr db s (Z ao rs.length cap) done):=q3;have HK4:Hid (Dk w wr (DX db (Z ao rs.length cap) rs) (DX db (Z ao rs.length cap) done)):=q4
   have HP:Hid (plain done=(plain rs).map (gG s.one s.rest)):=by
    show _=_;rw[q2,Aaq (by rw[bN];omega)]
   have Kv:=q3.1;clear q1 q2 q3 q4 HL HS gL hdk;go_wp2_with fail;refine hDF.mono ?_;rintro e w2 ⟨v2,rfl,p1,p2,p3,p4⟩;have vo:Hid (iA w2 v2 (Po done)):=p1;obtain⟨Vw,xQ,rfl,-⟩:=iA.form p1
   have hdb2:w2.heap[db]?=M (jE s (Z ao rs.length cap)):=p3.at Kv (fun e=>by
    obtain⟨c,hc⟩:=jK HD.out.2.1 e;exact aZ Kv hc (by decide) rfl)
   obtain⟨-,k1,-,-,-,-,-,-,kf⟩:=dJ hdb2;have kf1:=kf 1;clear p1 kf;go_wp2_with fail;go_end0;obtain⟨r1,r2⟩:=HD.out.setRow p3 p4 vo.out p2 (Aby) rfl;refine⟨rfl,_,Po done,r1,?_,HK4.out.trans r2⟩;rw[<-HP.out];unfold Po plain;rw[List.filter_map];congr 1
def jH (p:Addr):Y:= .iface 358 (U (M p))
def Wv (w:F)(ps:Nat->Addr):Prop:=(∀k,k<5->w.heap[k]?=M (C #[jH (ps k)] 88 (0,0)))/\∀i j,i<5->j<5->ps i=ps j->i=j
theorem Wv.cell (h:Wv w ps)(hk:k<5):w.cell? ⟨k,0,O⟩=M (jH (ps k)):=by simp[World.cell?,h.1 k hk]
theorem Wv.fr {X:Nat->Prop}(h:Wv w ps)(hF:Fr w w' X)(hX:∀b aS,w.heap[b]?=M (C aS 88 (0,0))->¬X b):Wv w' ps:=⟨fun k hk=>hF.at (h.1 k hk) (hX _ _ (h.1 k hk)),h.2⟩
theorem Wv.aN (h:Wv w ps)(hg:aL w w'):Wv w' ps:=h.fr (Fr.cZ hg (fun _=>False)) (fun _ _ _=>id)
def Kz (w:F)(ps:Nat->Addr)(v:Y)(k:Nat):Prop:=∃b nm num,v= .iface 290 (U (M ⟨b,0,O⟩))/\w.heap[b]?=M (C #[.string nm,I V num,jH (ps k)] 292 (0,0))
theorem Kz.fr {X:Nat->Prop}{v:Y}(h:Kz w ps v k)(hF:Fr w w' X)(hX:∀b aS,w.heap[b]?=M (C aS 292 (0,0))->¬X b):Kz w' ps v k:=by
 obtain⟨b,nm,num,e,hb⟩:=h;exact⟨b,nm,num,e,hF.at hb (hX _ _ hb)⟩
theorem aU.other (h:aU w db s fv rs){b:Nat}{aS:Array Y}{t:TypeId}{f:Nat×Nat}(hb:w.heap[b]?=M (C aS t f))(h1:t≠137)(h2:t≠155)(h3:t≠157)(h4:t≠5):¬DX db fv rs b:=fun hx=>(h.ty hx).ne hb h1 h2 h3 h4 rfl
theorem Tz (s:Sc)(hn:0<=s.after):Dr s.jL s.after=(s.jL && decide (s.after<=0)):=by
 unfold Dr;cases s.jL with
 |false=>rfl
 |true=>
  simp only[Bool.true_and];by_cases h:s.after=0
  ·rw[h];rfl
  ·rw[Aat.2 h,AaN (by omega)]
theorem JA {nm:ByteArray}{num:Int}{g:Nat}{lb:Array Y}{R:F->Prop}(h:aU w db s fv rs)(ha:0<=s.after)(ru:s.after<=9223372036854775807)(eg:∀(args:Array Y) (w:F),(callFunc g args).run K w= .ok (.enter g args) w)
 (hs:(dI s (plain rs)).1=true)(PV:∀w1,aU w1 db (dI s (plain rs)).2.1 fv rs->Og w w1 db->H K g lb w1 fun e w2=>e=G (.tuple #[])/\R w2):
 H K 211 #[U (M ⟨db,0,O⟩),.string nm,I V num,.func (.func g) #[] lb] w fun e w'=>e=G .nilIface/\R w':=by
 obtain⟨c0,c1,c2,c3,c4,c5,c6,c7,cf⟩:=dJ h.1;have hN:=BU c4 c5 cf ha ru;have HD:Hid (aU w db s fv rs):=h;have HO:Hid (∀w1,aU w1 db (dI s (plain rs)).2.1 fv rs->Og w w1 db->H K g lb w1 fun e w2=>e=G (.tuple #[])/\R w2):=PV;clear PV c0 c1 c2 c3 c6 c7 cf h;cases UI:s.jL with
 |false=>
  have e1:Dr s.jL s.after=false:=by rw[UI];rfl
  have e2:(dI s (plain rs)).2.1=s:=by unfold dI;rw[Aad UI]
  rw[e1,UI]at hN;rw[e2]at HO;have fT:=HO.out w HD.out (Og.refl w db);simp only[AaD,if_false]at hN;clear e1 e2 UI c4 hs HO;go_enter func211,ntmps211;go_wp2_with (first|(go_at_call 249;refine hN.mono ?_;rintro e w ⟨rfl,rfl⟩)|(go_at_fn g;refine fT.mono ?_;rintro e w2 ⟨rfl,hR⟩));go_ret;exact⟨rfl,hR⟩
 |true=>
  have hpos:0<s.after:=by
   unfold dI at hs;rw[Aaa (by rw[UI];simp)]at hs;split at hs
   ·assumption
   ·cases hs
  have e1:Dr s.jL s.after=false:=by rw[Tz s ha,UI,AaN (by omega)];rfl
  have e2:(dI s (plain rs)).2.1= { s with after:=s.after-1 }:=by unfold dI;rw[Aaa (by rw[UI];simp),Aad hpos]
  rw[e1,UI]at hN;rw[e2]at HO;have fT:=HO.out _ (HD.out.set (Yz (s.after-1) HD.out.1)) (Og.refl w db).set;simp only[AaD,if_false,if_true]at hN;clear e1 e2 UI c4 c5 hs HO;go_enter func211,ntmps211;go_wp2_with (first|(go_at_call 249;refine hN.mono ?_;rintro e w1 ⟨rfl,rfl⟩)|(go_at_fn g;refine fT.mono ?_;rintro e w2 ⟨rfl,hR⟩));go_ret;exact⟨rfl,hR⟩
def PW (w w':F)(ps:Nat->Addr)(db:Nat)(s:Sc)(fv:Y)(rs:List FR)(v:Y):Prop:=
 Kz w' ps v 2/\∃dV dP,aU w' db (dI s (plain rs)).2.1 dV dP/\plain dP=(dI s (plain rs)).2.2/\Dk w w' (DX db fv rs) (DX db dV dP)
theorem UJ {nm:ByteArray}{num:Int}{fn:Y}(h:aU w db s fv rs)(hG:Wv w ps)(ha:0<=s.after)(ru:s.after<=9223372036854775807)(hl:rs.length<=1000000)(kP:∀f∈plain rs,okF f)(lC:(plain rs).Pairwise (fun a b=>a.1<b.1))
 (h1:0<=s.one)(h2:0<=s.rest)(h3:s.one<=9223372036854775807)(h4:s.rest<=9223372036854775807)(hs:(dI s (plain rs)).1=false):
 H K 211 #[U (M ⟨db,0,O⟩),.string nm,I V num,fn] w fun e w'=> ∃v,e=G v/\PW w w' ps db s fv rs v:=by
 obtain⟨c0,c1,c2,c3,c4,c5,c6,c7,cf⟩:=dJ h.1;have hN:=BU c4 c5 cf ha ru
 have UI:s.jL=true:=by
  unfold dI at hs;cases e:s.jL with
  |true=>rfl
  |false=>rw[Aad e]at hs;cases hs
 have hz:s.after<=0:=by
  unfold dI at hs;rw[Aaa (by rw[UI];simp)]at hs;split at hs
  ·cases hs
  ·omega
 have e1:Dr s.jL s.after=true:=by rw[Tz s ha,UI,AaH (by omega)];rfl
 have HE:Hid (dI s (plain rs)=(false,{ s with jL:=false,aX:=false },rQ ((plain rs).map (gG s.one s.rest)))):=by
  show _=_;unfold dI;rw[Aaa (by rw[UI];simp),Aaa (by omega)]
 have HLay:Hid (rQ ((plain rs).map (gG s.one s.rest))=((plain rs).map (gG s.one s.rest)).filter (fun f=>f.2.1.size !=0)):=by
  show _=_;refine xY ?_;rw[Adl];exact lC
 rw[e1]at hN;simp only[if_true]at hN;have yN:aU (w.setCell ⟨db,4,O⟩ (.bool false)) db { s with jL:=false } fv rs:=h.set (Yy false h.1);have hX:∀b aS,w.heap[b]?=M (C aS 88 (0,0))->¬b=db:=fun b aS hb=>aZ hb h.1 (by decide)
 have YK:Wv (w.setCell ⟨db,4,O⟩ (.bool false)) ps:=hG.fr (Fr.set w ⟨db,4,O⟩ _) hX;have hLo:=lose_pg yN hl kP h1 h2 h3 h4;have HK1:Hid (Dk w (w.setCell ⟨db,4,O⟩ (.bool false)) (DX db fv rs) (DX db fv rs)):=Dk.Ph (Fr.set w ⟨db,4,O⟩ _) ⟨rfl,rfl,rfl⟩ (Aac rfl);have HD1:Hid (aU (w.setCell ⟨db,4,O⟩ (.bool false)) db { s with jL:=false } fv rs):=yN;have yJ:Hid (Wv (w.setCell ⟨db,4,O⟩ (.bool false)) ps):=YK;clear h hG c0 c1 c2 c3 c4 c5 c6 c7 cf hs UI hz e1 lC kP yN hX YK;go_enter func211,ntmps211;go_wp2_with (go_at_call 249;refine hN.mono ?_;rintro e w1 ⟨rfl,rfl⟩);refine hLo.mono ?_;rintro e w2 ⟨rfl,dV,dP,vY,hp2,YL⟩;have Ww:Wv w2 ps:=yJ.out.fr YL.1 (fun b aS hb=>HD1.out.other hb (by decide) (by decide) (by decide) (by decide));have cs:=Ww.cell (k:=2) (by omega);have HD2:Hid (aU w2 db { s with jL:=false } dV dP):=vY;have JB:Hid (plain dP=((plain rs).map (gG s.one s.rest)).filter (fun f=>f.2.1.size !=0)):=hp2;clear vY hp2;unfold jH at cs;go_wp2_with fail;go_ret;refine⟨_,rfl,⟨w2.heap.size,nm,num,rfl,?_⟩,dV,dP,?_,?_,?_⟩
 ·exact Aaf w2 _
 ·rw[HE.out];exact HD2.out.aN (aP _ _)
 ·rw[HE.out,JB.out,HLay.out]
 ·exact(HK1.out.trans YL).aN (aP _ _)
end Go.Proofs.YtfplgfodoiiobaaGreatDoor
