/- LgE (joined). -/
import Derived.Test.YtfplgfodoiiobaaGreatDoorJ24
open Option renaming none→O,some→M
open Go.Value renaming int→I,pointer→U
open Go.IntKind renaming i64→V
open Go.Obj renaming cells→C
open Go.Ending renaming returned→G
open Go renaming World→F,Value→Y,Calls→H
open Go.Proofs.Tryz renaming prog→K
namespace Go.Proofs.YtfplgfodoiiobaaGreatDoor
set_option maxHeartbeats 2000000
set_option maxRecDepth 100000
open Go.RowKit
variable {ep n:Int}{w:F}{ps:Nat->Addr}{lp db k:Nat}{fv:Y}{rs:List FR}{s s':Sc}{bZ:List bE}
def uP (w wr:F)(ps:Nat->Addr)(lp db:Nat)(ep:Int)(fv:Y)(rs:List FR)(s':Sc)(bZ:List bE):Prop:=
 wr.heap[lp]?=M (gT db ep)/\Gl wr ps/\∃dI dH,aS wr db s' dI dH/\plain dH=bZ/\Dk w wr (DX db fv rs) (DX db dI dH)
theorem uP.aM {wr w':F}(h:uP w wr ps lp db ep fv rs s' bZ)(hg:aK wr w'):uP w w' ps lp db ep fv rs s' bZ:=by
 obtain⟨a,b,dI,dH,c,d,e⟩:=h;exact⟨(hg.block _ (aL a)).trans a,b.aM hg,dI,dH,c.aM hg,d,e.Ba hg⟩
theorem uP.start (h:aS w db s fv rs)(hL:w.heap[lp]?=M (gT db ep))(hG:Gl w ps):uP w w ps lp db ep fv rs s (plain rs):=
 ⟨hL,hG,fv,rs,h,rfl,Dk.refl _ _⟩
def BB (wr w':F):Prop:=∀(b:Nat) (aQ:Array Y) (t:TypeId) (f:Nat×Nat),wr.heap[b]?=M (C aQ t f)->t≠137->t≠155->t≠157->t≠5->w'.heap[b]?=M (C aQ t f)
theorem uP.res {wr:F}(h:uP w wr ps lp db ep fv rs s' bZ):∃dI dH,aS wr db s' dI dH/\plain dH=bZ/\∀(w':F) (v:Y) (r:Bool×Sc×List bE),oP wr w' ps db dI dH v r->uP w w' ps lp db ep fv rs r.2.1 r.2.2/\Zv w' ps v r.1/\BB wr w':=by
 obtain⟨a,b,dI,dH,c,d,e⟩:=h;refine⟨dI,dH,c,d,?_⟩;rintro w' v r ⟨fv2,wo,c2,d2,e2,f2⟩;exact⟨⟨e2.1.at a (c.other a (by decide) (by decide) (by decide) (by decide)),b.dk c e2,fv2,wo,c2,d2,e.trans e2⟩,f2,fun bb aQ t f hb h1 h2 h3 h4=>e2.1.at hb (c.other hb h1 h2 h3 h4)⟩
theorem IU (h:aS w db s fv rs)(hL:w.heap[lp]?=M (gT db ep))(hG:Gl w ps)(hO:lY 1000 s (plain rs)):
 H K 128 #[U (M ⟨lp,0,O⟩),I V n,I V (k:Int)] w fun e w'=> ∃v,e=G v/\oP w w' ps db fv rs v (bW s (plain rs) n (k:Int)):=by
 have hl:rs.length<=1000:=by have:=hO.len;rw[bG]at this;exact this
 have hlen:=Aa (n:=n) h hO.inv.sort.1 (by omega);obtain⟨c0,-⟩:=fF hL;by_cases h1:(aN (plain rs) n).size<=k
 ·have HE:Hid (oP w w ps db fv rs .nilIface (bW s (plain rs) n (k:Int))):=by
   have e:bW s (plain rs) n (k:Int)=(true,s,plain rs):=by unfold bW;rw[if_pos (by omega)]
   rw[e];exact⟨fv,rs,h,rfl,Dk.refl _ _,Or.inl ⟨rfl,rfl⟩⟩
  have Qm:((aN (plain rs) n).size:Int)<=(k:Int):=by omega
  clear h hL hG hO;go_enter Tryz.func128,Tryz.ntmps128
  go_wp2_with (go_at_call 124;refine hlen.mono ?_;rintro e w ⟨rfl,rfl⟩)
  go_ret;exact⟨_,rfl,HE.out⟩
 ·have Qm:¬((aN (plain rs) n).size:Int)<=(k:Int):=by omega
  by_cases h2:k=0
  ·have hR:Hid (H K 127 #[U (M ⟨db,0,O⟩),I V n] w fun e w'=> ∃v,e=G v/\oP w w' ps db fv rs v (bW s (plain rs) n (k:Int))):=by
    rw[h2];exact Hf h hG.sM hO.dN hO.Fx hO.inv hl
   have h2':((k:Int)==0)=true:=by rw[beq_iff_eq];omega
   clear h hL hG hO;generalize (aN (plain rs) n).size=z at*;go_enter Tryz.func128,Tryz.ntmps128
   go_wp2_with (first|(go_at_call 124;refine hlen.mono ?_;rintro e w ⟨rfl,rfl⟩)|(go_at_call 127;refine hR.out.mono ?_;rintro e w5 ⟨v,rfl,hv⟩))
   go_ret;exact⟨_,rfl,hv⟩
  ·have hR:Hid (H K 194 #[U (M ⟨db,0,O⟩),I V n,I V (k:Int)] w fun e w'=> ∃v,e=G v/\oP w w' ps db fv rs v (bW s (plain rs) n (k:Int))):=cut_pg h hG.sM hO.dN hO.Fx hO.inv hl (by omega) (by omega);have h2':((k:Int)==0)=false:=by rw[beq_eq_false_iff_ne];omega
   clear h hL hG hO;generalize (aN (plain rs) n).size=z at*;go_enter Tryz.func128,Tryz.ntmps128
   go_wp2_with (first|(go_at_call 124;refine hlen.mono ?_;rintro e w ⟨rfl,rfl⟩)|(go_at_call 194;refine hR.out.mono ?_;rintro e w5 ⟨v,rfl,hv⟩))
   go_ret;exact⟨_,rfl,hv⟩
def vQ (fs:List bE)(ep:Int):List Int:=(fs.map (fun f=>f.1)).filter (fun n=>n !=1 && n !=2 && n !=10+ep)
def nX (s:Sc)(fs:List bE)(ep j b:Int):Int×Sc×List bE:=
 if (gH s fs (vQ fs ep)).1=false then (10,(gH s fs (vQ fs ep)).2)else
 if (bW (gH s fs (vQ fs ep)).2.1 (gH s fs (vQ fs ep)).2.2 (10+ep) j).1=false then (10,(bW (gH s fs (vQ fs ep)).2.1 (gH s fs (vQ fs ep)).2.2 (10+ep) j).2)else
 (if (bW (bW (gH s fs (vQ fs ep)).2.1 (gH s fs (vQ fs ep)).2.2 (10+ep) j).2.1 (bW (gH s fs (vQ fs ep)).2.1 (gH s fs (vQ fs ep)).2.2 (10+ep) j).2.2 1 b).1 then 0 else 10,(bW (bW (gH s fs (vQ fs ep)).2.1 (gH s fs (vQ fs ep)).2.2 (10+ep) j).2.1 (bW (gH s fs (vQ fs ep)).2.1 (gH s fs (vQ fs ep)).2.2 (10+ep) j).2.2 1 b).2)
def Al (s:Sc)(fs:List bE)(ep:Int)(ns:List Int)(k:Nat)(s':Sc)(bZ:List bE):Prop:=gH s fs (ns.filter (fun n=>n !=1 && n !=2 && n !=10+ep))=gH s' bZ ((ns.drop k).filter (fun n=>n !=1 && n !=2 && n !=10+ep))
theorem Al.skip {fs:List bE}{ns:List Int}(h:Al s fs ep ns k s' bZ)(hk:ns[k]?=M n)(hn:n=1\/n=2\/n=10+ep):Al s fs ep ns (k+1) s' bZ:=by
 obtain⟨bS,he⟩:=List.getElem?_eq_some_iff.1 hk;unfold Al at h ⊢;rw[h,List.drop_eq_getElem_cons bS,he,List.filter_cons_of_neg];rcases hn with rfl|rfl|rfl<;>simp
theorem Al.step {fs:List bE}{ns:List Int}(h:Al s fs ep ns k s' bZ)(hk:ns[k]?=M n)(h1:n≠1)(h2:n≠2)(h3:n≠10+ep):((bW s' bZ n 0).1=true->Al s fs ep ns (k+1) (bW s' bZ n 0).2.1 (bW s' bZ n 0).2.2)/\((bW s' bZ n 0).1=false->gH s fs (ns.filter (fun n=>n !=1 && n !=2 && n !=10+ep))=bW s' bZ n 0):=by
 obtain⟨bS,he⟩:=List.getElem?_eq_some_iff.1 hk;unfold Al at h ⊢;rw[h,List.drop_eq_getElem_cons bS,he,List.filter_cons_of_pos (by simp[h1,h2,h3])];refine⟨fun e=>?_,fun e=>?_⟩
 ·conv=>lhs;unfold gH
  simp only;rw[if_pos e]
 ·conv=>lhs;unfold gH
  simp only;rw[if_neg (by rw[e];simp)]
theorem xk {j b:Nat}(h:aS w db s fv rs)(hL:w.heap[lp]?=M (gT db ep))(hG:Gl w ps)(hO:lY 1000 s (plain rs))(uO:0<=ep)(Bb:ep<=1000):
 H K 83 #[U (M ⟨lp,0,O⟩),I V (j:Int),I V (b:Int)] w fun e w'=> ∃v,e=G v/\kL w w' ps db fv rs 1 v (nX s (plain rs) ep (j:Int) (b:Int)):=by
 have hl:rs.length<=1000:=by have:=hO.len;rw[bG]at this;exact this
 have hN:=GU h (by omega);obtain⟨c0,-⟩:=fF hL;have HS:Hid (uP w w ps lp db ep fv rs s (plain rs)):=uP.start h hL hG;have HJ:Hid (∀W s' bZ,uP w W ps lp db ep fv rs s' bZ->H K 88 #[U (M ⟨lp,0,O⟩)] W fun e w'=>e=G (I V (10+ep))/\w'=W):=fun W s' bZ hW=>mP hW.1 uO (by omega)
 have HRm:Hid (∀W s' bZ n,uP w W ps lp db ep fv rs s' bZ->lY 1000 s' bZ->H K 127 #[U (M ⟨db,0,O⟩),I V n] W fun e w'=> ∃v,e=G v/\uP w w' ps lp db ep fv rs (bW s' bZ n 0).2.1 (bW s' bZ n 0).2.2/\Zv w' ps v (bW s' bZ n 0).1/\BB W w'):=fun W s' bZ n hW kV=>by
  have Vg:=hW.2.1;obtain⟨dI,dH,k1,rfl,k3⟩:=hW.res;refine(Hf k1 Vg.sM kV.dN kV.Fx kV.inv (by have:=kV.len;rw[bG]at this;exact this)).mono ?_;rintro e w' ⟨v,rfl,hr⟩;exact⟨v,rfl,k3 w' v _ hr⟩
 have HSh:Hid (∀W s' bZ n (k:Nat),uP w W ps lp db ep fv rs s' bZ->lY 1000 s' bZ->H K 128 #[U (M ⟨lp,0,O⟩),I V n,I V (k:Int)] W fun e w'=> ∃v,e=G v/\uP w w' ps lp db ep fv rs (bW s' bZ n (k:Int)).2.1 (bW s' bZ n (k:Int)).2.2/\Zv w' ps v (bW s' bZ n (k:Int)).1):=fun W s' bZ n k hW kV=>by
  have Vg:=hW.2.1;have hLW:=hW.1;obtain⟨dI,dH,k1,rfl,k3⟩:=hW.res;refine(IU k1 hLW Vg kV).mono ?_;rintro e w' ⟨v,rfl,hr⟩;exact⟨v,rfl,(k3 w' v _ hr).1,(k3 w' v _ hr).2.1⟩
 have HLg:Hid (∀W s' bZ v (ok:Bool) D,uP w W ps lp db ep fv rs s' bZ->Zv W ps v ok->1<=D->kL w W ps db fv rs D v (if ok then 0 else 10,s',bZ)):=fun W s' bZ v ok D hW hv hD=>by
  obtain⟨-,-,dI,dH,a,b,c⟩:=hW;refine⟨dI,dH,a,b,c,?_⟩;rcases hv.rP with h|⟨d,k,h1,h2⟩
  ·exact Or.inl h
  ·exact Or.inr ⟨d,k,by omega,h2⟩
 generalize hns:(plain rs).map (fun f=>f.1)=ns at hN;have HNS:Hid ((plain rs).map (fun f=>f.1)=ns):=hns;have hnl:ns.length<=1000:=by rw[<-hns,List.length_map,bG];exact hl
 have HOK:Hid (lY 1000 s (plain rs)):=hO;clear h hL hG hO hns;go_enter Tryz.func83,Tryz.ntmps83
 go_upto_region 2 with(go_at_call 126;refine hN.mono ?_;rintro e w1 ⟨v1,rfl,cZ,jH⟩;obtain⟨nao,ncap,rfl,hnr,-,hnn,-⟩:=nM.form cZ)
 have HRow:Hid (∀k n,ns[k]?=M n->∃g off aQ,nao=M ⟨g,off,O⟩/\w1.heap[g]?=M (C aQ 3 (0,0))/\aQ[off+k]?=M (I V n)):=fun k n hk=>by
  obtain⟨bS,he⟩:=List.getElem?_eq_some_iff.1 hk;rcases cZ.2 with⟨e,e2⟩|⟨g,cap,aQ,e,-,hh,h4,-,h6,h7⟩
  ·omega
  ·cases e
   refine⟨g,0,aQ,rfl,hh,?_⟩;have h8:(ns.map (Value.int V))[k]?=M (I V n):=by rw[List.getElem?_map,hk];rfl
   rw[<-h7,List.getElem?_take]at h8;rw[Nat.zero_add];split at h8
   ·simpa using h8
   ·cases h8
 have HS1:Hid (uP w w1 ps lp db ep fv rs s (plain rs)):=HS.out.aM jH;clear hN hnr cZ jH HS c0 hnn
 go_loopw [8,9,17,22] (fun _ _ i _ wr=> ∃(k:Nat) (s':Sc) (bZ:List bE),k<=ns.length/\i=I V (k:Int)/\Hid (Al s (plain rs) ep ns k s' bZ)/\Hid (uP w wr ps lp db ep fv rs s' bZ)/\Hid (lY 1000 s' bZ)/\Hid (∀(g:Nat) (aQ:Array Y),w1.heap[g]?=M (Obj.cells aQ 3 (0,0))->wr.heap[g]?=M (Obj.cells aQ 3 (0,0)))) (fun _ _ i _ _=>ns.length-(intOf i).toNat)
 case atStart=>exact⟨0,s,plain rs,Nat.zero_le _,rfl,(by show Al _ _ _ _ _ _ _;unfold Al;rw[List.drop_zero]),HS1,HOK,fun _ _ h=>h⟩
 case round=>
  obtain⟨k,s',bZ,hk,rfl,HT,HW,HK,HR⟩:=hrel;by_cases bS:k<ns.length
  ·obtain⟨n,hn⟩:∃n,ns[k]?=M n:=⟨_,List.getElem?_eq_getElem bS⟩;obtain⟨g,off,aQ,rfl,hg,QM⟩:=HRow.out k n hn;have hcell:wr.cell? ⟨g,off+k,O⟩=M (I V n):=by simp[World.cell?,HR.out g aQ hg,QM]
   have i1:(0:Int)<=(k:Int):=by omega
   have i2:(k:Int)<(ns.length:Int):=by omega
   obtain⟨c0,-⟩:=fF HW.out.1;have hj:=HJ.out wr s' bZ HW.out;by_cases e1:n=1
   ·have xh:Hid (Al s (plain rs) ep ns (k+1) s' bZ):=HT.out.skip hn (Or.inl e1);subst e1;clear hn hg QM
    go_wp2_with fail
    go_roundw
    case rel=>exact⟨k+1,s',bZ,by omega,by go_num,xh,HW,HK,HR⟩
    case measure=>simp[intOf];omega
   ·by_cases e2:n=2
    ·have xh:Hid (Al s (plain rs) ep ns (k+1) s' bZ):=HT.out.skip hn (Or.inr (Or.inl e2));subst e2;clear hn hg QM
     go_wp2_with fail
     go_roundw
     case rel=>exact⟨k+1,s',bZ,by omega,by go_num,xh,HW,HK,HR⟩
     case measure=>simp[intOf];omega
    ·have e1':(n==1)=false:=beq_eq_false_iff_ne.2 e1;have e2':(n==2)=false:=beq_eq_false_iff_ne.2 e2;by_cases e3:n=10+ep
     ·have xh:Hid (Al s (plain rs) ep ns (k+1) s' bZ):=HT.out.skip hn (Or.inr (Or.inr e3));have e3':(n==10+ep)=true:=beq_iff_eq.2 e3;clear hn hg QM e3
      go_wp2_with (go_at_call 88;refine hj.mono ?_;rintro e wr ⟨rfl,rfl⟩)
      go_roundw
      case rel=>exact⟨k+1,s',bZ,by omega,by go_num,xh,HW,HK,HR⟩
      case measure=>simp[intOf];omega
     ·have e3':(n==10+ep)=false:=beq_eq_false_iff_ne.2 e3;obtain⟨t1,t2⟩:=HT.out.step hn e1 e2 e3;have hrm:=HRm.out wr s' bZ n HW.out HK.out;have xq:Hid (lY 1000 (bW s' bZ n 0).2.1 (bW s' bZ n 0).2.2):=HK.out.cut n (Int.le_refl 0);cases hb:(bW s' bZ n 0).1 with
      |true=>
       have xh:Hid (Al s (plain rs) ep ns (k+1) (bW s' bZ n 0).2.1 (bW s' bZ n 0).2.2):=t1 hb
       have hrm2:H K 127 #[U (M ⟨db,0,O⟩),I V n] wr fun e w'=>e=G .nilIface/\Hid (uP w w' ps lp db ep fv rs (bW s' bZ n 0).2.1 (bW s' bZ n 0).2.2)/\Hid (BB wr w'):=hrm.mono (by
        rintro e w' ⟨v,rfl,a,b,c⟩;rw[hb]at b;rcases b with⟨-,rfl⟩|⟨b,-⟩
        ·exact⟨rfl,a,c⟩
        ·cases b)
       clear hrm hb t1 t2 hn hg QM
       go_wp2_with (first|(go_at_call 88;refine hj.mono ?_;rintro e wr ⟨rfl,rfl⟩)|(go_at_call 127;refine hrm2.mono ?_;rintro e w4 ⟨rfl,Qe,hk4⟩))
       go_roundw
       case rel=>exact⟨k+1,_,_,by omega,by go_num,xh,Qe,xq,fun g aQ hg=>hk4.out g aQ 3 (0,0) (HR.out g aQ hg) (by decide) (by decide) (by decide) (by decide)⟩
       case measure=>simp[intOf];omega
      |false=>
       have HE:Hid (nX s (plain rs) ep (j:Int) (b:Int)=(10,(bW s' bZ n 0).2)):=by
        show _=_;have e:=t2 hb;rw[<-HNS.out]at e;have e':gH s (plain rs) (vQ (plain rs) ep)=bW s' bZ n 0:=e;unfold nX;rw[e',if_pos hb]
       have hrm2:H K 127 #[U (M ⟨db,0,O⟩),I V n] wr fun e w'=> ∃b0,e=G (.iface 290 (U (M ⟨b0,0,O⟩)))/\Hid (kL w w' ps db fv rs 1 (.iface 290 (U (M ⟨b0,0,O⟩))) (10,(bW s' bZ n 0).2)):=hrm.mono (by
        rintro e w' ⟨v,rfl,a,b,c⟩;rw[hb]at b;have hl:=HLg.out w' _ _ v false 1 a b (Nat.le_refl _);rcases b with⟨b,-⟩|⟨-,b0,nm,num,rfl,-⟩
        ·cases b
        ·exact⟨b0,rfl,hl⟩)
       clear hrm hb t1 t2 hn hg QM
       go_wp2_with (first|(go_at_call 88;refine hj.mono ?_;rintro e wr ⟨rfl,rfl⟩)|(go_at_call 127;refine hrm2.mono ?_;rintro e w4 ⟨b4,rfl,Qe⟩))
       go_ret;rw[HE.out];exact⟨_,rfl,Qe.out⟩
  ·have e1:ns.drop k=[]:=List.drop_eq_nil_of_le (by omega)
   have HC:Hid (gH s (plain rs) (vQ (plain rs) ep)=(true,s',bZ)):=by
    have:=HT.out;unfold Al at this;rw[e1,<-HNS.out]at this;exact this
   have hj:=HJ.out wr s' bZ HW.out;have xu:=HSh.out wr s' bZ (10+ep) j HW.out HK.out;have xq:Hid (lY 1000 (bW s' bZ (10+ep) (j:Int)).2.1 (bW s' bZ (10+ep) (j:Int)).2.2):=HK.out.cut _ (by omega);clear e1 HT HRm;cases hb:(bW s' bZ (10+ep) (j:Int)).1 with
   |true=>
    have xw:H K 128 #[U (M ⟨lp,0,O⟩),I V (10+ep),I V (j:Int)] wr fun e w'=>e=G .nilIface/\Hid (uP w w' ps lp db ep fv rs (bW s' bZ (10+ep) (j:Int)).2.1 (bW s' bZ (10+ep) (j:Int)).2.2):=xu.mono (by
     rintro e w' ⟨v,rfl,a,b⟩;rw[hb]at b;rcases b with⟨-,rfl⟩|⟨b,-⟩
     ·exact⟨rfl,a⟩
     ·cases b)
    have HE:Hid (nX s (plain rs) ep (j:Int) (b:Int)=(if (bW (bW s' bZ (10+ep) (j:Int)).2.1 (bW s' bZ (10+ep) (j:Int)).2.2 1 (b:Int)).1 then 0 else 10,(bW (bW s' bZ (10+ep) (j:Int)).2.1 (bW s' bZ (10+ep) (j:Int)).2.2 1 (b:Int)).2)):=by
     show _=_;unfold nX;rw[HC.out];simp only;rw[if_neg (by simp),if_neg (by rw[hb];simp)]
    generalize bW s' bZ (10+ep) (j:Int)=r2 at*;clear xu hb HC
    have HS2:Hid (∀w4,uP w w4 ps lp db ep fv rs r2.2.1 r2.2.2->H K 128 #[U (M ⟨lp,0,O⟩),I V 1,I V (b:Int)] w4 fun e w'=> ∃v,e=G v/\kL w w' ps db fv rs 1 v (if (bW r2.2.1 r2.2.2 1 (b:Int)).1 then 0 else 10,(bW r2.2.1 r2.2.2 1 (b:Int)).2)):=fun w4 h4=>(HSh.out w4 _ _ 1 b h4 xq.out).mono (by
     rintro e w' ⟨v,rfl,x,y⟩;exact⟨v,rfl,HLg.out w' _ _ v _ 1 x y (Nat.le_refl _)⟩)
    clear HSh HLg HJ
    go_wp2_with (first|(go_at_call 88;refine hj.mono ?_;clear hj;rintro e wr ⟨rfl,rfl⟩)|(go_at_call 128;refine xw.mono ?_;clear xw;rintro e w4 ⟨rfl,Qe⟩;have hsh2:=HS2.out w4 Qe.out)|(go_at_call 128;refine hsh2.mono ?_;rintro e w5 ⟨v5,rfl,wL⟩))
    go_ret;rw[HE.out];exact⟨_,rfl,wL⟩
   |false=>
    have xw:H K 128 #[U (M ⟨lp,0,O⟩),I V (10+ep),I V (j:Int)] wr fun e w'=> ∃b0,e=G (.iface 290 (U (M ⟨b0,0,O⟩)))/\Hid (kL w w' ps db fv rs 1 (.iface 290 (U (M ⟨b0,0,O⟩))) (10,(bW s' bZ (10+ep) (j:Int)).2)):=xu.mono (by
     rintro e w' ⟨v,rfl,a,b⟩;rw[hb]at b;have hl:=HLg.out w' _ _ v false 1 a b (Nat.le_refl _);rcases b with⟨b,-⟩|⟨-,b0,nm,num,rfl,-⟩
     ·cases b
     ·exact⟨b0,rfl,hl⟩)
    have HE:Hid (nX s (plain rs) ep (j:Int) (b:Int)=(10,(bW s' bZ (10+ep) (j:Int)).2)):=by
     show _=_;unfold nX;rw[HC.out];simp only;rw[if_neg (by simp),if_pos hb]
    clear xu hb HC HSh HLg HJ
    go_wp2_with (first|(go_at_call 88;refine hj.mono ?_;clear hj;rintro e wr ⟨rfl,rfl⟩)|(go_at_call 128;refine xw.mono ?_;rintro e w4 ⟨b4,rfl,Qe⟩))
    go_ret;rw[HE.out];exact⟨_,rfl,Qe.out⟩
end Go.Proofs.YtfplgfodoiiobaaGreatDoor
