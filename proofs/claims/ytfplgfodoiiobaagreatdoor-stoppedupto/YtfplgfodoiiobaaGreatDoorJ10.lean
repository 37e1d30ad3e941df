/- PgK, PgL, PgM (joined). -/
import Derived.Shelf.Abstract
import Derived.Test.YtfplgfodoiiobaaGreatDoorJ09
open Option renaming none→O,some→M
open Go.Value renaming int→I,slice→Z,pointer→U
open Go.IntKind renaming i64→V
open Go.Obj renaming cells→C
open Go.Ending renaming returned→G
open Go renaming World→F,Value→Y,Calls→H
open Go.Proofs.Tryz renaming prog→K
namespace Go.Proofs.YtfplgfodoiiobaaGreatDoor
set_option maxHeartbeats 4000000
set_option maxRecDepth 100000
open Go.RowKit
variable {w:F}{rs:List FR}{db:Nat}{s:Sc}{fv:Y}{ps:Nat->Addr}
def oC (r:FR):Bool:=r.f.2.1.size==0
theorem FH {r:FR}(h:fG w r):H K 261 #[U (M ⟨r.b,0,O⟩)] w fun e w'=>e=G (.bool (oC r))/\w'=w:=by
 obtain⟨-,f1,-⟩:=fH h.1;obtain⟨ao,cap,e,-⟩:=bC.form h.2;have hz:r.f.2.1.data.toList.length=r.f.2.1.size:=rfl;rw[e,hz]at f1;have HE:Hid (oC r=(r.f.2.1.size==0)):=rfl;generalize r.f.2.1.size=z at f1 HE;clear e hz h;cases z with
 |zero=>
  go_enter Tryz.func261,Tryz.ntmps261
  go_wp2_with fail
  go_ret;rw[HE.out];exact⟨rfl,rfl⟩
 |succ z=>
  have hz:¬((z:Int)+1=0):=by omega
  go_enter Tryz.func261,Tryz.ntmps261
  go_wp2_with fail
  go_ret;rw[HE.out];refine⟨?_,rfl⟩;simp
  first|done|omega
def Zf (rs:List FR):Int:=match rs.findIdx? oC with
 |some i=>(i:Int)
 |none=> -1
theorem ng {g cap:Nat}(hc:∀(i:Nat) (r:FR),rs[i]?=M r->w.cell? ⟨g,i,O⟩=M r.p)(hf:∀r∈rs,fG w r)(hl:rs.length<=1000000):
 H K 268 #[Z (M ⟨g,0,O⟩) rs.length cap,.func (.func 261) #[] #[]] w fun e w'=>e=G (I V (Zf rs))/\w'=w:=by
 have HC:Hid (∀(i:Nat) (r:FR),rs[i]?=M r->w.cell? ⟨g,i,O⟩=M r.p):=hc;have HF:Hid (∀r∈rs,fG w r):=hf;clear hc hf;go_enter Tryz.func268,Tryz.ntmps268
 go_wp2_with fail
 go_loop [5,8] (fun _ i=> ∃k:Nat,k<=rs.length/\i=I V (k:Int)/\Hid (∀j r,j<k->rs[j]?=M r->oC r=false)) (fun _ i=>rs.length-(intOf i).toNat)
 case atStart=>exact⟨0,Nat.zero_le _,rfl,fun j r hj=>by omega⟩
 case round=>
  obtain⟨k,hk,rfl,HN⟩:=hrel;by_cases bV:k<rs.length
  ·obtain⟨r,hr⟩:∃r,rs[k]?=M r:=⟨_,List.getElem?_eq_getElem bV⟩;have c1:=HC.out _ r hr;unfold FR.p at c1;have eP:=FH (HF.out r (List.mem_of_getElem? hr));have HR:Hid (rs[k]?=M r):=hr;clear hr;have i1:(0:Int)<=(k:Int):=by omega
   have i2:(k:Int)<(rs.length:Int):=by omega
   cases hg:oC r with
   |true=>
    rw[hg]at eP
    have HE:Hid (Zf rs=(k:Int)):=by
     show _=_;unfold Zf
     have:rs.findIdx? oC=M k:=by
      rw[List.findIdx?_eq_some_iff_getElem];obtain⟨q1,q2⟩:=List.getElem?_eq_some_iff.1 HR.out;exact⟨q1,by rw[q2,hg],fun j hj=>by simpa using HN.out j _ hj (List.getElem?_eq_getElem (by omega))⟩
     rw[this]
    clear hg
    go_wp2_with (go_at_call 261;refine eP.mono ?_;rintro e w ⟨rfl,rfl⟩)
    go_ret;rw[HE.out];exact⟨rfl,rfl⟩
   |false=>
    rw[hg]at eP;have HG:Hid (oC r=false):=hg;clear hg
    go_wp2_with (go_at_call 261;refine eP.mono ?_;rintro e w ⟨rfl,rfl⟩)
    go_round
    case rel=>exact⟨k+1,by omega,by go_num,fun j q hj hq=>by
     by_cases hjk:j=k
     ·subst hjk;rw[HR.out]at hq;cases hq;exact HG.out
     ·exact HN.out j q (by omega) hq⟩
    case measure=>simp[intOf];omega
  ·have HE:Hid (Zf rs= -1):=by
    show _=_;unfold Zf
    have:rs.findIdx? oC=O:=by
     rw[List.findIdx?_eq_none_iff];intro r hr;obtain⟨j,hj,rfl⟩:=List.getElem_of_mem hr;exact HN.out j _ (by omega) (List.getElem?_eq_getElem hj)
    rw[this]
   go_wp2_with fail
   go_ret;rw[HE.out];exact⟨rfl,rfl⟩
def DelAt (wr:F)(g cap:Nat)(rs:List FR)(i j:Nat):Prop:=∃aT,wr.heap[g]?=M (C aT 155 (0,0))/\aT.size=cap/\aT.toList.take i=((rs.take j).filter (fun r=>!oC r)).map FR.p/\∀t r,j<=t->rs[t]?=M r->aT.toList[t]?=M r.p
theorem xK {k:Nat}{r:FR}(h:rs[k]?=M r)(p:FR->Bool):(rs.take (k+1)).filter p=(rs.take k).filter p++(if p r then [r]else []):=by
 obtain⟨bV,he⟩:=List.getElem?_eq_some_iff.1 h;rw[List.take_succ_eq_append_getElem bV,List.filter_append,he];simp[List.filter_cons]
theorem WU {ao:Option Addr}{cap:Nat}{fn:Y}:
 H K 268 #[Z ao 0 cap,fn] w fun e w'=>e=G (I V (-1))/\w'=w:=by
 go_enter Tryz.func268,Tryz.ntmps268
 go_wp2_with fail
 go_loop [5,8] (fun _ i=>i=I V 0) (fun _ _=>0)
 case atStart=>rfl
 case round=>
  subst hrel
  go_wp2_with fail
  go_ret;exact⟨rfl,rfl⟩
def Lf (rs:List FR):List FR:=rs.filter (fun r=>!oC r)
def Zg (w w':F)(v v':Y)(rs:List FR):Prop:=fM w' v' (Lf rs)/\v'.ownBlock=v.ownBlock/\Fr w w' (fun b=>v.ownBlock=M b)/\w'.os=w.os/\w'.tape=w.tape/\w'.output=w.output
theorem OL {v:Y}(h:fM w v rs)(hf:∀r∈rs,fG w r)(hl:rs.length<=1000000):
 H K 260 #[v,.func (.func 261) #[] #[]] w fun e w'=> ∃v',e=G v'/\Zg w w' v v' rs:=by
 have HO:Hid (fM w v rs):=h;obtain⟨ao,cap,rfl,gX,hm,gJ,gL⟩:=fM.form h;cases ao with
 |none=>
  obtain⟨rfl,rfl⟩:=gJ rfl;have hI:H K 268 #[Z O 0 0,.func (.func 261) #[] #[]] w fun e w'=>e=G (I V (-1))/\w'=w:=WU
  clear h gL gJ hf;go_enter Tryz.func260,Tryz.ntmps260
  go_wp2_with fail
  refine hI.mono ?_;rintro e w ⟨rfl,rfl⟩
  go_wp2_with fail
  go_ret;exact⟨_,rfl,HO.out,rfl,Fr.refl _ _,rfl,rfl,rfl⟩
 |some a=>
  obtain⟨g,aT,rfl,hg,hcs,Yr,hc⟩:=gL a rfl;have hI:=ng (cap:=cap) hc hf hl;have HF:Hid (∀r∈rs,fG w r):=hf;have SS:aT.toList.length=cap:=by simpa using hcs
  cases he:rs.findIdx? oC with
  |none=>
   have e1:Zf rs= -1:=by unfold Zf;rw[he]
   rw[e1]at hI
   have HK:Hid (Lf rs=rs):=by
    show _=_;unfold Lf;rw[List.filter_eq_self];intro r hr;rw[List.findIdx?_eq_none_iff]at he;rw[he r hr];rfl
   clear h gL gJ hf hc Yr he e1;go_enter Tryz.func260,Tryz.ntmps260
   go_wp2_with fail
   refine hI.mono ?_;rintro e w ⟨rfl,rfl⟩
   go_wp2_with fail
   go_ret;exact⟨_,rfl,by unfold Zg;rw[HK.out];exact⟨HO.out,rfl,Fr.refl _ _,rfl,rfl,rfl⟩⟩
  |some i0=>
   have e1:Zf rs=(i0:Int):=by unfold Zf;rw[he]
   rw[e1]at hI;obtain⟨hi0,hgone,hbef⟩:=List.findIdx?_eq_some_iff_getElem.1 he
   have hK0:(rs.take (i0+1)).filter (fun r=>!oC r)=rs.take i0:=by
    rw[xK (List.getElem?_eq_getElem hi0),hgone];simp only[Bool.not_true,Bool.false_eq_true,if_false,List.append_nil];rw[List.filter_eq_self];intro r hr;obtain⟨j,hj,rfl⟩:=List.getElem_of_mem hr;have hj':j<i0:=by simp at hj;omega
    have:=hbef j hj';rw[List.getElem_take];simpa using this
   have HD0:Hid (DelAt w g cap rs i0 (i0+1)):=by
    refine⟨aT,hg,hcs,?_,fun t r ht hr=>?_⟩
    ·rw[hK0,List.map_take,<-Yr,List.take_take,Nat.min_eq_left (by omega)]
    ·have:=hc t r hr;rw[(fV hg t).1]at this;exact this
   have HL0:Hid (((rs.take (i0+1)).filter (fun r=>!oC r)).length=i0):=by show _=_;rw[hK0,List.length_take];omega
   have hi1:((i0:Int)== -1)=false:=by rw[beq_eq_false_iff_ne];omega
   have htyg:w.heap[g]?=M (C aT 155 (0,0)):=hg;clear h gL gJ hf hc Yr he e1 hgone hbef hK0 hg;go_enter Tryz.func260,Tryz.ntmps260
   go_wp2_with fail
   refine hI.mono ?_;rintro e w ⟨rfl,rfl⟩
   go_wp2_with fail
   go_loopw [5,6,7] (fun s5 s6 _ wr=> ∃i j:Nat,s5=I V (i:Int)/\s6=I V (j:Int)/\i<j/\j<=rs.length/\Hid (((rs.take j).filter (fun r=>!oC r)).length=i)/\Hid (DelAt wr g cap rs i j)/\Hid (Og w wr g)) (fun _ s6 _ _=>rs.length-(intOf s6).toNat)
   case atStart=>exact⟨i0,i0+1,rfl,by go_num,by omega,by omega,HL0,HD0,Og.refl w g⟩
   case round=>
    obtain⟨i,j,rfl,rfl,hij,hj,HL,HD,HG⟩:=hrel;by_cases bV:j<rs.length
    ·obtain⟨r,hr⟩:∃r,rs[j]?=M r:=⟨_,List.getElem?_eq_getElem bV⟩;have HR:Hid (rs[j]?=M r):=hr;obtain⟨pX,g1,g2,g3,g4⟩:=HD.out;have c1:wr.cell? ⟨g,j,O⟩=M r.p:=(fV g1 j).1.trans (g4 j r (Nat.le_refl _) hr);have c2:∃u,wr.cell? ⟨g,i,O⟩=M u:=⟨pX.toList[i]'(by simp;omega),by rw[(fV g1 i).1];exact List.getElem?_eq_getElem _⟩;obtain⟨u,c2⟩:=c2;have c3:wr.frozen? ⟨g,i,O⟩=false:=(fV g1 i).2
     have Wl:fG wr r:=by
      have hq:=HF.out r (List.mem_of_getElem? hr);refine hq.fr HG.out.1 (fun e=>aW hq.1 htyg (by decide) e) (fun k hk e=>?_);obtain⟨c,Nj,hc⟩:=bC.ty hq.2 hk;exact aW hc htyg (by decide) e
     have eP:=FH Wl;unfold FR.p at c1;have i1:(0:Int)<=(j:Int):=by omega
     have i2:(j:Int)<(rs.length:Int):=by omega
     have i3:(0:Int)<=(i:Int):=by omega
     have i4:(i:Int)<(rs.length:Int):=by omega
     clear hr g1 g2 g3 g4 Wl;cases hgn:oC r with
     |true=>
      rw[hgn]at eP
      have HN:Hid ((rs.take (j+1)).filter (fun r=>!oC r)=(rs.take j).filter (fun r=>!oC r)):=by
       show _=_;rw[xK HR.out,hgn];simp
      clear hgn
      go_wp2_with (go_at_call 261;refine eP.mono ?_;rintro e wr ⟨rfl,rfl⟩)
      go_roundw
      case rel=>
       obtain⟨pX,g1,g2,g3,g4⟩:=HD.out;exact⟨i,j+1,rfl,by go_num,by omega,by omega,by show _=_;rw[HN.out];exact HL.out,⟨pX,g1,g2,by rw[HN.out];exact g3,fun t q ht hq=>g4 t q (by omega) hq⟩,HG⟩
      case measure=>simp[intOf];omega
     |false=>
      rw[hgn]at eP
      have HN:Hid ((rs.take (j+1)).filter (fun r=>!oC r)=(rs.take j).filter (fun r=>!oC r)++ [r]):=by
       show _=_;rw[xK HR.out,hgn];simp
      clear hgn
      go_wp2_with (go_at_call 261;refine eP.mono ?_;rintro e wr ⟨rfl,rfl⟩)
      go_roundw
      case rel=>
       obtain⟨pX,g1,g2,g3,g4⟩:=HD.out;have OH:pX.toList.length=cap:=by simpa using g2
       refine⟨i+1,j+1,by go_num,by go_num,by omega,by omega,?_,?_,HG.out.set⟩
       ·show _=_;rw[HN.out,List.length_append,HL.out];rfl
       ·refine⟨pX.setIfInBounds i r.p,heap_setCell_same _ g i pX _ _ g1,by simpa using g2,?_,fun t q ht hq=>?_⟩
        ·have e0:(pX.setIfInBounds i r.p).toList=pX.toList.set i r.p:=by simp
         rw[e0,(Vz pX.toList i r.p 0 (by omega)).1,g3,HN.out,List.map_append];rfl
        ·have e0:(pX.setIfInBounds i r.p).toList=pX.toList.set i r.p:=by simp
         rw[e0,List.getElem?_set,if_neg (by omega)];exact g4 t q (by omega) hq
      case measure=>simp[intOf];omega
    ·obtain rfl:j=rs.length:=by omega
     obtain⟨pX,g1,g2,g3,g4⟩:=HD.out;have OH:pX.toList.length=cap:=by simpa using g2
     have hcr:∀ty,(Builtin.clear_ #[135] ty #[Z (M ⟨g,i,O⟩) (rs.length-i) (cap-i)]).run K wr= .ok (.tuple #[]) (wr.setCells g i (List.replicate (rs.length-i) (U O))):=
      fun ty=>Lib.run_clear_slice wr _ _ ty _ Tryz.underlying135 FC rfl rfl g _ _ _ (by omega) (fun t ht=>by rw[(fV g1 _).1];simp;rw[g2];omega) (fun t ht=>(fV g1 _).2)
     obtain⟨Jd,k1,k2⟩:=iH g 155 (List.replicate (rs.length-i) (U O)) i wr pX g1 (by rw[List.length_replicate,g2];omega);have iV:=Og.cells g (List.replicate (rs.length-i) (U O)) i HG.out
     have ni:Hid (Zg w (wr.setCells g i (List.replicate (rs.length-i) (U O))) (Z (M ⟨g,0,O⟩) rs.length cap) (Z (M ⟨g,0,O⟩) i cap) rs):=by
      have e0:Lf rs=(rs.take rs.length).filter (fun r=>!oC r):=by rw[List.take_length];rfl
      have e1:(Lf rs).length=i:=by rw[e0];exact HL.out
      refine⟨⟨by simp,Or.inr ⟨g,cap,Jd,by rw[e1],Nat.zero_le _,k1,by rw[e1];omega,hm,?_,?_⟩⟩,rfl,iV.1.mono fun b e=>by rw[e];rfl,iV.2⟩
      ·have:Jd.toList.length=cap:=by rw[k2];simp;omega
       simpa using this
      ·rw[e1,Nat.mul_one,k2,List.append_assoc,List.take_left' (by rw[List.length_take,OH];omega),g3,e0]
     generalize wr.setCells g i (List.replicate (rs.length-i) (U O))=w9 at hcr ni;have i3:(0:Int)<=(i:Int):=by omega
     have i4:(i:Int)<=(rs.length:Int):=by omega
     have i5:¬cap=i:=by omega
     have i6:i<=cap:=by omega
     have i7:i<=rs.length:=by omega
     clear g1 g2 g3 g4 k1 k2 iV
     go_wp2_with fail
     go_ret;exact⟨_,rfl,ni.out⟩
def OM (w wr:F)(db:Nat)(s:Sc)(fv:Y)(rs:List FR)(k:Nat)(done:List FR):Prop:=
 done.length=k/\plain done=((plain rs).take k).map (jV s.one s.rest)/\aP wr db s fv (done++rs.drop k)/\Dk w wr (DX db fv rs) (DX db fv (done++rs.drop k))
theorem nu {one rest:Int}{f:bF}(h:okF f)(h1:0<=one)(h2:0<=rest):0<=wC one rest f/\wC one rest f<=(f.2.1.size:Int):=by
 unfold okF at h;unfold wC;split<;>split at* <;>omega
theorem lose_pg (h:aP w db s fv rs)(hl:rs.length<=1000000)(kR:∀f∈plain rs,okF f)(h1:0<=s.one)(h2:0<=s.rest)(h3:s.one<=9223372036854775807)(h4:s.rest<=9223372036854775807):
 H K 250 #[U (M ⟨db,0,O⟩)] w fun e w'=>e=G (.tuple #[])/\∃dN dH,aP w' db s dN dH/\plain dH=((plain rs).map (jV s.one s.rest)).filter (fun f=>f.2.1.size !=0)/\Dk w w' (DX db fv rs) (DX db dN dH):=by
 obtain⟨-,c1,-⟩:=bW h.1;obtain⟨ao,cap,rfl,gX,hm,gJ,gL⟩:=fM.form h.2.1;have HS:Hid (OM w w db s (Z ao rs.length cap) rs 0 []):=⟨rfl,by simp[plain],by simpa using h,by simpa using Dk.refl w _⟩;have HK:Hid (∀f∈plain rs,okF f):=kR;clear h gL kR;go_enter Tryz.func250,Tryz.ntmps250
 go_wp2_with fail
 go_loopw [3,4,10] (fun _ _ i wr=> ∃(k:Nat) (done:List FR),i=I V (k:Int)/\k<=rs.length/\Hid (OM w wr db s (Z ao rs.length cap) rs k done)) (fun _ _ i _=>rs.length-(intOf i).toNat)
 case atStart=>exact⟨0,[],rfl,Nat.zero_le _,HS⟩
 case round=>
  obtain⟨k,done,rfl,hk,HL⟩:=hrel;obtain⟨q1,q2,q3,q4⟩:=HL.out;by_cases bV:k<rs.length
  ·obtain⟨r,hr⟩:∃r,rs[k]?=M r:=⟨_,List.getElem?_eq_getElem bV⟩
   have hrk:(done++rs.drop k)[k]?=M r:=by
    rw[List.getElem?_append_right (by omega),q1,Nat.sub_self,List.getElem?_drop,Nat.add_zero,hr]
   have Wl:=q3.2.2.1 r (List.mem_of_getElem? hrk);obtain⟨ao2,Mi,q5,hcap2,hm2,hnil2,hrow2⟩:=fM.form q3.2.1;cases ao with
   |none=>obtain⟨rfl,-⟩:=gJ rfl;simp at bV
   |some a=>
    injection q5 with e1 e2 e3;subst e1;clear e2 e3;obtain⟨g,aT,rfl,-,-,-,hc⟩:=hrow2 a rfl;have d1:=hc k r hrk;unfold FR.p at d1;obtain⟨d0,d2,d3,df⟩:=fH Wl.1;obtain⟨yI,kJ,q6,-⟩:=bC.form Wl.2;have hz:r.f.2.1.data.toList.length=r.f.2.1.size:=rfl;rw[q6,hz]at d2;obtain⟨-,-,-,-,-,-,e6,e7,-⟩:=bW q3.1;have WV:okF r.f:=HK.out _ (List.mem_of_getElem? (iK hr));have hb:=nu WV h1 h2;obtain⟨n,hn⟩:=Int.eq_ofNat_of_zero_le hb.1
    have HC:Hid (∀W:F,aJ wr W->H K 237 #[U (M ⟨r.b,0,O⟩),I V (wC s.one s.rest r.f)] W fun e w'=>e=G (.tuple #[])/\∃done',OM w w' db s (Z (M ⟨g,0,O⟩) rs.length cap) rs (k+1) done'):=fun W hW=>by
     rw[hn];refine(TF (n:=n) (⟨(hW.block _ (aK Wl.1)).trans Wl.1,Wl.2.aM hW⟩:fG W r) (by omega) (by unfold okF at WV;omega)).mono ?_;rintro e w' ⟨rfl,v',hF,iV,Zh⟩;refine⟨rfl,done++ [(r.b,v',jV s.one s.rest r.f)],?_⟩;have hcr:jV s.one s.rest r.f=(r.f.1,r.f.2.1.extract 0 n,(n:Int)):=by unfold jV;rw[hn];rfl
     rw[hcr];obtain⟨p1,p2⟩:=(q3.aM hW).Fz (r':=(r.b,v',(r.f.1,r.f.2.1.extract 0 n,(n:Int)))) hrk rfl (iV.1.mono fun b e=>Or.inl e) iV.2 hF (Or.inr Zh)
     have hset:(done++rs.drop k).set k (r.b,v',(r.f.1,r.f.2.1.extract 0 n,(n:Int)))=(done++ [(r.b,v',(r.f.1,r.f.2.1.extract 0 n,(n:Int)))])++rs.drop (k+1):=by
      rw[List.set_append_right _ _ (by omega),q1,Nat.sub_self,List.append_assoc];congr 1;rw[List.drop_eq_getElem_cons bV];rfl
     rw[hset]at p1 p2;refine⟨by simp[q1],?_,p1,(q4.aM hW).trans p2⟩;have:plain (done++ [(r.b,v',(r.f.1,r.f.2.1.extract 0 n,(n:Int)))])=plain done++ [(r.f.1,r.f.2.1.extract 0 n,(n:Int))]:=by simp[plain,FR.f]
     rw[this,q2,<-hcr,List.take_succ_eq_append_getElem (by rw[bE];exact bV),List.map_append]
     have jL:(plain rs)[k]'(by rw[bE];exact bV)=r.f:=by
      have:=iK hr;exact(List.getElem?_eq_some_iff.1 this).2
     rw[jL];rfl
    have i1:(0:Int)<=(k:Int):=by omega
    have i2:(k:Int)<(rs.length:Int):=by omega
    unfold okF at WV
    have HN1:Hid (wC s.one s.rest r.f=r.f.2.2+min (if r.f.1=1 then s.one else s.rest) ((r.f.2.1.size:Int)-r.f.2.2)):=by
     show _=_;unfold wC;split<;>split<;>omega
    clear hr hrk Wl hrow2 hc df q1 q2 q3 q4 hnil2 hcap2 hm2 HL HS gJ hn hb q6 hz;have z1:IntKind.i64.wrap ((r.f.2.1.size:Int)-r.f.2.2)=(r.f.2.1.size:Int)-r.f.2.2:=by rw[IntKind.wrap_i64];omega
    by_cases WW:r.f.1=1
    ·have ho:(r.f.1==1)=true:=by simp[WW]
     rw[if_pos WW]at HN1;have z2:IntKind.i64.wrap (r.f.2.2+min s.one ((r.f.2.1.size:Int)-r.f.2.2))=wC s.one s.rest r.f:=by rw[HN1.out,IntKind.wrap_i64];omega
     clear WW
     go_upto_region 6 with fail
     have G0:=aJ.refl wr
     go_region_with (first|(go_at_call 237;refine(HC.out _ (by repeat (first|assumption|refine aJ.drew ?_))).mono ?_;rintro e w5 ⟨rfl,dn,hL⟩))
     all_goals go_wp2_with fail
     all_goals go_roundw
     all_goals first
      |(case rel=>exact⟨k+1,dn,by go_num,by omega,hL⟩)
      |(case measure=>simp[intOf];omega)
    ·have ho:(r.f.1==1)=false:=by simp[WW]
     rw[if_neg WW]at HN1;have z2:IntKind.i64.wrap (r.f.2.2+min s.rest ((r.f.2.1.size:Int)-r.f.2.2))=wC s.one s.rest r.f:=by rw[HN1.out,IntKind.wrap_i64];omega
     clear WW
     go_upto_region 6 with fail
     have G0:=aJ.refl wr
     go_region_with (first|(go_at_call 237;refine(HC.out _ (by repeat (first|assumption|refine aJ.drew ?_))).mono ?_;rintro e w5 ⟨rfl,dn,hL⟩))
     all_goals go_wp2_with fail
     all_goals go_roundw
     all_goals first
      |(case rel=>exact⟨k+1,dn,by go_num,by omega,hL⟩)
      |(case measure=>simp[intOf];omega)
  ·obtain rfl:k=rs.length:=by omega
   have ZX:done++rs.drop rs.length=done:=by simp
   rw[ZX]at q3 q4;obtain⟨-,c1',-⟩:=bW q3.1;have hDF:=OL q3.2.1 q3.2.2.1 (by omega);have HD:Hid (aP wr db s (Z ao rs.length cap) done):=q3;have HK4:Hid (Dk w wr (DX db (Z ao rs.length cap) rs) (DX db (Z ao rs.length cap) done)):=q4
   have HP:Hid (plain done=(plain rs).map (jV s.one s.rest)):=by
    show _=_;rw[q2,List.take_of_length_le (by rw[bE];omega)]
   have Le:=q3.1;clear q1 q2 q3 q4 HL HS gJ ZX
   go_wp2_with fail
   refine hDF.mono ?_;rintro e w2 ⟨v2,rfl,p1,p2,p3,p4⟩;have HF2:Hid (fM w2 v2 (Lf done)):=p1;obtain⟨oh,uY,rfl,-⟩:=fM.form p1
   have hdb2:w2.heap[db]?=M (iN s (Z ao rs.length cap)):=p3.at Le (fun e=>by
    obtain⟨c,hc⟩:=kV HD.out.2.1 e;exact aW Le hc (by decide) rfl)
   obtain⟨-,k1,-,-,-,-,-,-,kf⟩:=bW hdb2;have kf1:=kf 1;clear p1 kf
   go_wp2_with fail
   go_end0;obtain⟨r1,r2⟩:=HD.out.setRow p3 p4 HF2.out p2 (List.filter_sublist) rfl;refine⟨rfl,_,Lf done,r1,?_,HK4.out.trans r2⟩;rw[<-HP.out];unfold Lf plain;rw[List.filter_map];congr 1
def gY (p:Addr):Y:= .iface 358 (U (M p))
def Ud (w:F)(ps:Nat->Addr):Prop:=(∀k,k<5->w.heap[k]?=M (C #[gY (ps k)] 88 (0,0)))/\∀i j,i<5->j<5->ps i=ps j->i=j
theorem Ud.cell (h:Ud w ps){k:Nat}(hk:k<5):w.cell? ⟨k,0,O⟩=M (gY (ps k)):=by simp[World.cell?,h.1 k hk]
theorem Ud.fr {w':F}{X:Nat->Prop}(h:Ud w ps)(hF:Fr w w' X)(hX:∀b aT,w.heap[b]?=M (C aT 88 (0,0))->¬X b):Ud w' ps:=⟨fun k hk=>hF.at (h.1 k hk) (hX _ _ (h.1 k hk)),h.2⟩
theorem Ud.aM {w':F}(h:Ud w ps)(hg:aJ w w'):Ud w' ps:=h.fr (Fr.dO hg (fun _=>False)) (fun _ _ _=>id)
def Wm (w:F)(ps:Nat->Addr)(v:Y)(k:Nat):Prop:=∃b nm num,v= .iface 290 (U (M ⟨b,0,O⟩))/\w.heap[b]?=M (C #[.string nm,I V num,gY (ps k)] 292 (0,0))
theorem aP.other (h:aP w db s fv rs){b:Nat}{aT:Array Y}{t:TypeId}{f:Nat×Nat}(hb:w.heap[b]?=M (C aT t f))(h1:t≠137)(h2:t≠155)(h3:t≠157)(h4:t≠5):¬DX db fv rs b:=fun hx=>(h.ty hx).ne hb h1 h2 h3 h4 rfl
theorem Pp (s:Sc)(hn:0<=s.after):zP s.eG s.after=(s.eG && decide (s.after<=0)):=by
 unfold zP;cases s.eG with
 |false=>rfl
 |true=>
  simp only[Bool.true_and];by_cases h:s.after=0
  ·rw[h];rfl
  ·rw[beq_eq_false_iff_ne.2 h,decide_eq_false (by omega)]
theorem FI {nm:ByteArray}{num:Int}{g:Nat}{lb:Array Y}{R:F->Prop}(h:aP w db s fv rs)(ha:0<=s.after)(FJ:s.after<=9223372036854775807)(eg:∀(args:Array Y) (w:F),(callFunc g args).run K w= .ok (.enter g args) w)
 (hs:(dF s (plain rs)).1=true)(Pq:∀w1,aP w1 db (dF s (plain rs)).2.1 fv rs->Og w w1 db->H K g lb w1 fun e w2=>e=G (.tuple #[])/\R w2):
 H K 211 #[U (M ⟨db,0,O⟩),.string nm,I V num,.func (.func g) #[] lb] w fun e w'=>e=G .nilIface/\R w':=by
 obtain⟨c0,c1,c2,c3,c4,c5,c6,c7,cf⟩:=bW h.1;have hN:=Zd c4 c5 cf ha FJ;have HD:Hid (aP w db s fv rs):=h;have HO:Hid (∀w1,aP w1 db (dF s (plain rs)).2.1 fv rs->Og w w1 db->H K g lb w1 fun e w2=>e=G (.tuple #[])/\R w2):=Pq;clear Pq c0 c1 c2 c3 c6 c7 cf h;cases FK:s.eG with
 |false=>
  have e1:zP s.eG s.after=false:=by rw[FK];rfl
  have e2:(dF s (plain rs)).2.1=s:=by unfold dF;rw[if_pos FK]
  rw[e1,FK]at hN;rw[e2]at HO;have eP:=HO.out w HD.out (Og.refl w db);simp only[Bool.false_eq_true,if_false]at hN;clear e1 e2 FK c4 hs HO;go_enter Tryz.func211,Tryz.ntmps211
  go_wp2_with (first|(go_at_call 249;refine hN.mono ?_;rintro e w ⟨rfl,rfl⟩)|(go_at_fn g;refine eP.mono ?_;rintro e w2 ⟨rfl,hR⟩))
  go_ret;exact⟨rfl,hR⟩
 |true=>
  have hpos:0<s.after:=by
   unfold dF at hs;rw[if_neg (by rw[FK];simp)]at hs;split at hs
   ·assumption
   ·cases hs
  have e1:zP s.eG s.after=false:=by rw[Pp s ha,FK,decide_eq_false (by omega)];rfl
  have e2:(dF s (plain rs)).2.1= { s with after:=s.after-1 }:=by unfold dF;rw[if_neg (by rw[FK];simp),if_pos hpos]
  rw[e1,FK]at hN;rw[e2]at HO;have eP:=HO.out _ (HD.out.set (WO (s.after-1) HD.out.1)) (Og.refl w db).set;simp only[Bool.false_eq_true,if_false,if_true]at hN;clear e1 e2 FK c4 c5 hs HO;go_enter Tryz.func211,Tryz.ntmps211
  go_wp2_with (first|(go_at_call 249;refine hN.mono ?_;rintro e w1 ⟨rfl,rfl⟩)|(go_at_fn g;refine eP.mono ?_;rintro e w2 ⟨rfl,hR⟩))
  go_ret;exact⟨rfl,hR⟩
def OO (w w':F)(ps:Nat->Addr)(db:Nat)(s:Sc)(fv:Y)(rs:List FR)(v:Y):Prop:=
 Wm w' ps v 2/\∃dN dH,aP w' db (dF s (plain rs)).2.1 dN dH/\plain dH=(dF s (plain rs)).2.2/\Dk w w' (DX db fv rs) (DX db dN dH)
theorem TJ {nm:ByteArray}{num:Int}{fn:Y}(h:aP w db s fv rs)(hG:Ud w ps)(ha:0<=s.after)(FJ:s.after<=9223372036854775807)(hl:rs.length<=1000000)(kR:∀f∈plain rs,okF f)(jH:(plain rs).Pairwise (fun a b=>a.1<b.1))
 (h1:0<=s.one)(h2:0<=s.rest)(h3:s.one<=9223372036854775807)(h4:s.rest<=9223372036854775807)(hs:(dF s (plain rs)).1=false):
 H K 211 #[U (M ⟨db,0,O⟩),.string nm,I V num,fn] w fun e w'=> ∃v,e=G v/\OO w w' ps db s fv rs v:=by
 obtain⟨c0,c1,c2,c3,c4,c5,c6,c7,cf⟩:=bW h.1;have hN:=Zd c4 c5 cf ha FJ
 have FK:s.eG=true:=by
  unfold dF at hs;cases e:s.eG with
  |true=>rfl
  |false=>rw[if_pos e]at hs;cases hs
 have hz:s.after<=0:=by
  unfold dF at hs;rw[if_neg (by rw[FK];simp)]at hs;split at hs
  ·cases hs
  ·omega
 have e1:zP s.eG s.after=true:=by rw[Pp s ha,FK,decide_eq_true (by omega)];rfl
 have HE:Hid (dF s (plain rs)=(false,{ s with eG:=false,aS:=false },Cx ((plain rs).map (jV s.one s.rest)))):=by
  show _=_;unfold dF;rw[if_neg (by rw[FK];simp),if_neg (by omega)]
 have HLay:Hid (Cx ((plain rs).map (jV s.one s.rest))=((plain rs).map (jV s.one s.rest)).filter (fun f=>f.2.1.size !=0)):=by
  show _=_;refine vG ?_;rw[List.pairwise_map];exact jH
 rw[e1]at hN;simp only[if_true]at hN;have Nk:aP (w.setCell ⟨db,4,O⟩ (.bool false)) db { s with eG:=false } fv rs:=h.set (WN false h.1);have hX:∀b aT,w.heap[b]?=M (C aT 88 (0,0))->¬b=db:=fun b aT hb=>aW hb h.1 (by decide)
 have hG1:Ud (w.setCell ⟨db,4,O⟩ (.bool false)) ps:=hG.fr (Fr.set w ⟨db,4,O⟩ _) hX;have hLo:=lose_pg Nk hl kR h1 h2 h3 h4;have HK1:Hid (Dk w (w.setCell ⟨db,4,O⟩ (.bool false)) (DX db fv rs) (DX db fv rs)):=Dk.Ld (Fr.set w ⟨db,4,O⟩ _) ⟨rfl,rfl,rfl⟩ (Or.inl rfl);have HD1:Hid (aP (w.setCell ⟨db,4,O⟩ (.bool false)) db { s with eG:=false } fv rs):=Nk;have qQ:Hid (Ud (w.setCell ⟨db,4,O⟩ (.bool false)) ps):=hG1;clear h hG c0 c1 c2 c3 c4 c5 c6 c7 cf hs FK hz e1 jH kR Nk hX hG1;go_enter Tryz.func211,Tryz.ntmps211
 go_wp2_with (go_at_call 249;refine hN.mono ?_;rintro e w1 ⟨rfl,rfl⟩)
 refine hLo.mono ?_;rintro e w2 ⟨rfl,dN,dH,hD2,hp2,WX⟩;have ZY:Ud w2 ps:=qQ.out.fr WX.1 (fun b aT hb=>HD1.out.other hb (by decide) (by decide) (by decide) (by decide));have cs:=ZY.cell (k:=2) (by omega);have HD2:Hid (aP w2 db { s with eG:=false } dN dH):=hD2;have ol:Hid (plain dH=((plain rs).map (jV s.one s.rest)).filter (fun f=>f.2.1.size !=0)):=hp2;clear hD2 hp2;unfold gY at cs
 go_wp2_with fail
 go_ret;refine⟨_,rfl,⟨w2.heap.size,nm,num,rfl,?_⟩,dN,dH,?_,?_,?_⟩
 ·exact heap_alloc_new w2 _
 ·rw[HE.out];exact HD2.out.aM (aU _ _)
 ·rw[HE.out,ol.out,HLay.out]
 ·exact(HK1.out.trans WX).aM (aU _ _)
end Go.Proofs.YtfplgfodoiiobaaGreatDoor
