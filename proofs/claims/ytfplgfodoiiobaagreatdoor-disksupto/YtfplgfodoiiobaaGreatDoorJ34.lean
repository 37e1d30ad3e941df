/- LgO, LgP, LgQ, LgR, LgT, LgU, TxA, TxB, TxC (joined). -/
import Derived.Shelf.Strings.Builder1
import Derived.Test.YtfplgfodoiiobaaGreatDoorJ33
open Option renaming none→O,some→M
open Go.Value renaming int→I,slice→Z,pointer→U
open Go.IntKind renaming i64→V
open Go.Obj renaming cells→C
open Go.Ending renaming returned→G
open Go renaming World→F,Value→Y,Calls→H
open Go.Proofs.Tryz renaming prog→K
namespace Go.Proofs.YtfplgfodoiiobaaGreatDoor
set_option maxHeartbeats 1000000
set_option maxRecDepth 100000
open Go.RowKit
variable {w w' a c:F}{db lp depth B b:Nat}{s:Sc}{fv v:Y}{rs:List FR}{ep:Int}{l:List UInt8}{ps:Nat->Addr}
def Gw (fs:List bE)(depth:Nat):Option (Int×dF):=if (aP fs 2).size=0 then M (0,([],[],[],0,0))else
 match yB (aP fs 2).data.toList ((aP fs 1).size:Int)with
 |none=>O
 |some q=>M (q.1,Ox q.2 depth)
theorem Ti (depth:Nat):eG ([],[],[],0,0) depth:=
 { Eh:=Int.le_refl _,Ei:=by simp,text:=rV _,long:=by simp[sz],few:=by simp,jA:=fun e he=>by simp at he,jW:=fun e he=>by simp at he,ME:=by simp,ax:=by simp,MF:=rfl,ay:=rfl,done:=Int.le_refl _ }
theorem led_set (h:w.heap[lp]?=M (kQ db ep))(Yc:Int):(w.setCell ⟨lp,1,O⟩ (I V Yc)).heap[lp]?=M (kQ db Yc):=by
 rw[heap_setCell_same w lp 1 _ _ _ h];rfl
theorem Tj (hL:w.heap[lp]?=M (kQ db ep))(hD:aW w db s fv rs)(hO:uP 1000 s (plain rs))(hd:depth<=100)(hz:(aP (plain rs) 2).size=0):
 H K 80 #[U (M ⟨lp,0,O⟩),I V (depth:Int)] w fun e w'=> ∃dp tb:Nat,e=G (.tuple #[U (M ⟨dp,0,O⟩),.nilIface])/\aV w' dp tb depth ([],[],[],0,0)/\w.heap.size<=dp/\w.heap.size<=tb/\aL w w':=by
 have hl:rs.length<=1000:=by have:=hO.len;rw[bW]at this;exact this
 have hB:=wJ (n:=2) hD hO.inv.sort.1 (by omega);obtain⟨ao,cap,ev,-⟩:=xA hD hO.inv.sort.1 2;rw[ev,hz]at hB;obtain⟨c0,-⟩:=iT hL
 have HR:Hid (∀W,H K 122 #[I V (depth:Int),.agg #[I V 0,I V 0,Z O 0 0,Z O 0 0,Z O 0 0]] W fun e w'=> ∃dp tb,e=G (U (M ⟨dp,0,O⟩))/\aV w' dp tb depth ([],[],[],0,0)/\W.heap.size<=dp/\W.heap.size<=tb/\aL W w'):=fun W=>by
  have:=Sr (w:=W) (depth:=depth) (dn:=0) (bf:=0) (t:=(O,0,0)) (u:=(O,0,0)) (r:=(O,0,0)) (l:=[]) (ul:=[]) (rl:=[]) (uO W) (dY.nil W) (dY.nil W) (by simp) (by simp) hd uJ (by simp) (fun q hq=>by simp at hq);simpa[stV,bS.v]using this
 clear hL hD hO ev;go_enter Tryz.func80,Tryz.ntmps80
 go_wp2_with (first|(go_at_call 119;refine hB.mono ?_;rintro e w ⟨rfl,rfl⟩)|(go_at_call 122;refine(HR.out _).mono ?_;rintro e w4 ⟨dp,tb,rfl,h1,h2,h3,h4⟩))
 refine bodyPost_ret (v:= .tuple #[U (M ⟨dp,0,O⟩),.nilIface]) (by simp[results,Tryz.results80,go_sem]) rfl ?_;exact⟨dp,tb,rfl,h1,h2,h3,h4⟩
theorem IG (hL:w.heap[lp]?=M (kQ db ep))(hD:aW w db s fv rs)(hO:uP 1000 s (plain rs))(hG:Gl w ps)(hz:(aP (plain rs) 2).size≠0)(hr:yB (aP (plain rs) 2).data.toList ((aP (plain rs) 1).size:Int)=O):
 H K 80 #[U (M ⟨lp,0,O⟩),I V (depth:Int)] w fun e w'=> ∃t b,e=G (.tuple #[U O,.iface t (U (M b))])/\nX w' ps 1 (.iface t (U (M b))) 11/\aL w w':=by
 have hl:rs.length<=1000:=by have:=hO.len;rw[bW]at this;exact this
 have jT:(aP (plain rs) 2).size<=1000000/\(aP (plain rs) 1).size<=1000000:=by
  have h1:=gM hO.inv 2;have h2:=gM hO.inv 1;have h3:=hO.dX.kM;exact⟨by omega,by omega⟩
 have hB:=wJ (n:=2) hD hO.inv.sort.1 (by omega);have hN:=Du (n:=1) hD hO.inv.sort.1 (by omega);obtain⟨ao,cap,ev,iL,Fg⟩:=xA hD hO.inv.sort.1 2;rw[ev]at hB;obtain⟨c0,-⟩:=iT hL;rcases Fg with⟨-,h0,-⟩|⟨b,off,rfl,yR,vC⟩
 ·exact absurd h0 hz
 ·have hC:=Xy (cap:=cap) (buf:=((aP (plain rs) 1).size:Int)) yR vC (by simpa using iL) (by have:=jT.1;simp;omega) hG (by omega) (by omega);rw[hr]at hC;have hlen:(aP (plain rs) 2).data.toList.length=(aP (plain rs) 2).size:=by simp
  rw[hlen]at hC
  have HC:Hid (H K 123 #[Z (M ⟨b,off,O⟩) (aP (plain rs) 2).size cap,I V ((aP (plain rs) 1).size:Int)] w fun e w'=> ∃t b0,e=G (.tuple #[I V 0,.agg #[I V 0,I V 0,Z O 0 0,Z O 0 0,Z O 0 0],.iface t (U (M b0))])/\nX w' ps 1 (.iface t (U (M b0))) 11/\aL w w'):=hC.mono (by
   rintro e w' ⟨⟨t,b0,rfl,he⟩,hg⟩;exact⟨t,b0,rfl,he,hg⟩)
  have hz':(((aP (plain rs) 2).size:Int)==0)=false:=by rw[beq_eq_false_iff_ne];omega
  generalize (aP (plain rs) 2).size=z2 at*;generalize (aP (plain rs) 1).size=z1 at*;clear hL hD hO hG yR vC hC ev hr hlen;go_enter Tryz.func80,Tryz.ntmps80
  go_wp2_with (first|(go_at_call 119;refine hB.mono ?_;rintro e w ⟨rfl,rfl⟩)|(go_at_call 124;refine hN.mono ?_;rintro e w ⟨rfl,rfl⟩)|(go_at_call 123;refine HC.out.mono ?_;rintro e w4 ⟨t4,b4,rfl,he4,oD⟩))
  refine bodyPost_ret (v:= .tuple #[U O,.iface t4 (U (M b4))]) (by simp[results,Tryz.results80,go_sem]) rfl ?_;exact⟨t4,b4,rfl,he4.aN ((aL.refl _).alloc _),oD.alloc _⟩
theorem Zy {Yc:Int}{m:dF}(hL:w.heap[lp]?=M (kQ db ep))(hD:aW w db s fv rs)(hO:uP 1000 s (plain rs))(hG:Gl w ps)(hd:depth<=100)(hz:(aP (plain rs) 2).size≠0)(hr:yB (aP (plain rs) 2).data.toList ((aP (plain rs) 1).size:Int)=M (Yc,m)):
 H K 80 #[U (M ⟨lp,0,O⟩),I V (depth:Int)] w fun e w'=> ∃dp tb:Nat,e=G (.tuple #[U (M ⟨dp,0,O⟩),.nilIface])/\aV w' dp tb depth (Ox m depth)/\w'.heap[lp]?=M (kQ db Yc)/\w.heap.size<=dp/\w.heap.size<=tb/\Og w w' lp:=by
 have hl:rs.length<=1000:=by have:=hO.len;rw[bW]at this;exact this
 have jT:(aP (plain rs) 2).size<=1000000/\(aP (plain rs) 1).size<=1000000:=by
  have h1:=gM hO.inv 2;have h2:=gM hO.inv 1;have h3:=hO.dX.kM;exact⟨by omega,by omega⟩
 obtain⟨-,Ut,-,VW,Kl,El,Nc⟩:=Tg hr (by omega) depth;have kI:=Ut.CB;have Gc:=Ut.few;have h9:∀q∈m.1,q.1<=1000000000:=fun q hq=>by have:=Nc q hq;omega
 have hB:=wJ (n:=2) hD hO.inv.sort.1 (by omega);have hN:=Du (n:=1) hD hO.inv.sort.1 (by omega);obtain⟨ao,cap,ev,iL,Fg⟩:=xA hD hO.inv.sort.1 2;rw[ev]at hB;obtain⟨c0,-⟩:=iT hL;rcases Fg with⟨-,h0,-⟩|⟨b,off,rfl,yR,vC⟩
 ·exact absurd h0 hz
 ·have hC:=Xy (cap:=cap) (buf:=((aP (plain rs) 1).size:Int)) yR vC (by simpa using iL) (by have:=jT.1;simp;omega) hG (by omega) (by omega);rw[hr]at hC;have hlen:(aP (plain rs) 2).data.toList.length=(aP (plain rs) 2).size:=by simp
  rw[hlen]at hC
  have HC:Hid (H K 123 #[Z (M ⟨b,off,O⟩) (aP (plain rs) 2).size cap,I V ((aP (plain rs) 1).size:Int)] w fun e w'=> ∃(t1:Option Addr) (t2 t3:Nat) (u1:Option Addr) (u2 u3:Nat) (r1:Option Addr) (r2 r3:Nat),e=G (.tuple #[I V Yc,.agg #[I V m.2.2.2.1,I V m.2.2.2.2,Z t1 t2 t3,Z u1 u2 u3,Z r1 r2 r3],.nilIface])/\(bL w' (t1,t2,t3) m.1/\dY w' (u1,u2,u3) m.2.1/\dY w' (r1,r2,r3) m.2.2.1)/\aL w w'):=hC.mono (by
   rintro e w' ⟨⟨⟨t1,t2,t3⟩,⟨u1,u2,u3⟩,⟨r1,r2,r3⟩,rfl,q1,q2,q3⟩,hg⟩;exact⟨t1,t2,t3,u1,u2,u3,r1,r2,r3,rfl,⟨q1,q2,q3⟩,hg⟩)
  have HRS:Hid (∀W t1 t2 t3 u1 u2 u3 r1 r2 r3,bL W (t1,t2,t3) m.1->dY W (u1,u2,u3) m.2.1->dY W (r1,r2,r3) m.2.2.1->H K 122 #[I V (depth:Int),.agg #[I V m.2.2.2.1,I V m.2.2.2.2,Z t1 t2 t3,Z u1 u2 u3,Z r1 r2 r3]] W fun e w'=> ∃dp tb,e=G (U (M ⟨dp,0,O⟩))/\aV w' dp tb depth (Ox m depth)/\W.heap.size<=dp/\W.heap.size<=tb/\aL W w'):=fun W t1 t2 t3 u1 u2 u3 r1 r2 r3 q1 q2 q3=>by
   exact Sr (t:=(t1,t2,t3)) (u:=(u1,u2,u3)) (r:=(r1,r2,r3)) q1 q2 q3 (by omega) (by omega) hd kI Gc h9
  have HK:Hid (∀w4 t1 t2 t3 u1 u2 u3 r1 r2 r3,aL w w4->(bL w4 (t1,t2,t3) m.1/\dY w4 (u1,u2,u3) m.2.1/\dY w4 (r1,r2,r3) m.2.2.1)->(w4.cell? ⟨lp,1,O⟩=M (I V ep)/\w4.frozen? ⟨lp,1,O⟩=false)/\(w4.setCell ⟨lp,1,O⟩ (I V Yc)).heap[lp]?=M (kQ db Yc)/\(bL (w4.setCell ⟨lp,1,O⟩ (I V Yc)) (t1,t2,t3) m.1/\dY (w4.setCell ⟨lp,1,O⟩ (I V Yc)) (u1,u2,u3) m.2.1/\dY (w4.setCell ⟨lp,1,O⟩ (I V Yc)) (r1,r2,r3) m.2.2.1)/\Og w (w4.setCell ⟨lp,1,O⟩ (I V Yc)) lp):=fun w4 t1 t2 t3 u1 u2 u3 r1 r2 r3 h4 hq=>by
   have hL4:=(h4.block _ (aM hL)).trans hL;have hF:=Fr.set w4 ⟨lp,1,O⟩ (I V Yc);obtain⟨-,k1,kf⟩:=iT hL4;refine⟨⟨k1,kf 1⟩,led_set hL4 Yc,⟨hq.1.fr hF (fun b aS hb=>bB hb hL4 (by decide)),hq.2.1.fr hF (fun b aS hb=>bB hb hL4 (by decide)) (fun b aS hb=>bB hb hL4 (by decide)),hq.2.2.fr hF (fun b aS hb=>bB hb hL4 (by decide)) (fun b aS hb=>bB hb hL4 (by decide))⟩,((Og.refl w lp).aN h4).set⟩
  have HLP:Hid (lp<w.heap.size):=aM hL;have hz':(((aP (plain rs) 2).size:Int)==0)=false:=by rw[beq_eq_false_iff_ne];omega
  generalize (aP (plain rs) 2).size=z2 at*;generalize (aP (plain rs) 1).size=z1 at*;clear hL hD hO hG yR vC hC ev hr hlen Ut Nc h9 kI Gc VW Kl El;go_enter Tryz.func80,Tryz.ntmps80
  go_upto_region 7 with(first|(go_at_call 119;refine hB.mono ?_;rintro e w ⟨rfl,rfl⟩)|(go_at_call 124;refine hN.mono ?_;rintro e w ⟨rfl,rfl⟩)|(go_at_call 123;refine HC.out.mono ?_;rintro e w4 ⟨t1,t2,t3,u1,u2,u3,r1,r2,r3,rfl,hq4,oD⟩))
  have ga:=(aL.refl w4).alloc (C #[I V m.2.2.2.1,I V m.2.2.2.2,Z t1 t2 t3,Z u1 u2 u3,Z r1 r2 r3] 105);have oJ:=heap_alloc_new w4 (C #[I V m.2.2.2.1,I V m.2.2.2.2,Z t1 t2 t3,Z u1 u2 u3,Z r1 r2 r3] 105);obtain⟨⟨k1,kf⟩,k2,k3,k4⟩:=HK.out _ t1 t2 t3 u1 u2 u3 r1 r2 r3 (oD.then ga) ⟨hq4.1.aN ga,hq4.2.1.aN ga,hq4.2.2.aN ga⟩;have VH:Hid (w.heap.size<=w4.heap.size):=oD.le;generalize (w4.alloc (C #[I V m.2.2.2.1,I V m.2.2.2.2,Z t1 t2 t3,Z u1 u2 u3,Z r1 r2 r3] 105))=w5 at*;have HLE5:Hid (w.heap.size<=w5.heap.size):=Nat.le_trans VH.out ga.le;have HB5:Hid (w5.heap[w4.heap.size]?=_):=oJ;clear oJ ga hq4 oD HK c0
  go_upto_region 8 with fail
  have hne:w4.heap.size≠lp:=by have:=HLP.out;have:=VH.out;omega
  obtain⟨⟨y0,y1,y2,y3,y4⟩,-⟩:=wZ ((Fr.set w5 ⟨lp,1,O⟩ (I V Yc)).at HB5.out hne);have HK2:Hid (_=M (kQ db Yc)):=k2;have HK4:Hid (Og w _ lp):=k4;have TP:=HRS.out _ t1 t2 t3 u1 u2 u3 r1 r2 r3 k3.1 k3.2.1 k3.2.2;have HSZ:Hid (w5.heap.size<=(w5.setCell ⟨lp,1,O⟩ (I V Yc)).heap.size):=(Fr.set w5 ⟨lp,1,O⟩ (I V Yc)).1;clear k1 kf k2 k3 k4 hne;generalize (w5.setCell ⟨lp,1,O⟩ (I V Yc))=w6 at*
  go_wp2_with (go_at_call 122;refine TP.mono ?_;rintro e w7 ⟨dp,tb,rfl,h1,h2,h3,h4⟩)
  refine bodyPost_ret (v:= .tuple #[U (M ⟨dp,0,O⟩),.nilIface]) (by simp[results,Tryz.results80,go_sem]) rfl ?_;have h5:=HSZ.out;have h6:=HLE5.out;exact⟨dp,tb,rfl,h1,(h4.block _ (aM HK2.out)).trans HK2.out,by omega,by omega,HK4.out.aN h4⟩
theorem aV.dsk {dp tb:Nat}{m:dF}{X':Nat->Prop}(h:aV w dp tb depth m)(hD:aW w db s fv rs)(hk:Dk w w' (DX db fv rs) X'):aV w' dp tb depth m:=by
 obtain⟨u,r,h1,h2,h3,h4⟩:=h;obtain⟨c,hc⟩:=h2.ty;refine⟨u,r,hk.1.at h1 (hD.other h1 (by decide) (by decide) (by decide) (by decide)),h2.fr hk.1 (hD.other hc (by decide) (by decide) (by decide) (by decide)) (fun b la ra p h l hb=>hD.other hb (by decide) (by decide) (by decide) (by decide)),h3.fr hk.1 (fun b aS hb=>hD.other hb (by decide) (by decide) (by decide) (by decide)) (fun b aS hb=>hD.other hb (by decide) (by decide) (by decide) (by decide)),h4.fr hk.1 (fun b aS hb=>hD.other hb (by decide) (by decide) (by decide) (by decide)) (fun b aS hb=>hD.other hb (by decide) (by decide) (by decide) (by decide))⟩
def sS (fs:List bE)(depth:Nat)(em:Int×dF):dF×Nat:=yC ((aP fs 1).size:Int) depth ((aP fs (10+em.1)).size / 22+1) em.2 (aP fs (10+em.1)).data.toList
def Cw (s:Sc)(fs:List bE)(depth:Nat)(em:Int×dF):Int×Sc×List bE:=pW s fs em.1 ((22*(sS fs depth em).2:Nat):Int) (sS fs depth em).1.2.2.2.2
theorem Zz {em:Int×dF}(hL:w.heap[lp]?=M (kQ db 0))(hD:aW w db s fv rs)(hO:uP 1000 s (plain rs))(hG:Gl w ps)(hd:depth<=100)(hr:Gw (plain rs) depth=M em):
 (H K 80 #[U (M ⟨lp,0,O⟩),I V (depth:Int)] w fun e w'=> ∃dp tb:Nat,e=G (.tuple #[U (M ⟨dp,0,O⟩),.nilIface])/\aV w' dp tb depth em.2/\w'.heap[lp]?=M (kQ db em.1)/\w.heap.size<=dp/\w.heap.size<=tb/\Og w w' lp)/\eG em.2 depth/\em.2.2.2.2.1<=1000000000/\0<=em.1/\em.1<=999:=by
 unfold Gw at hr;split at hr
 ·rename_i hz;simp only[Option.some.injEq]at hr;subst hr;refine⟨?_,Ti depth,by simp,by simp,by simp⟩;refine(Tj hL hD hO hd hz).mono ?_;rintro e w' ⟨dp,tb,rfl,h1,h2,h3,h4⟩;exact⟨dp,tb,rfl,h1,(h4.block _ (aM hL)).trans hL,h2,h3,(Og.refl w lp).aN h4⟩
 ·rename_i hz;cases hc:yB (aP (plain rs) 2).data.toList ((aP (plain rs) 1).size:Int)with
  |none=>rw[hc]at hr;cases hr
  |some q=>
   obtain⟨Yc,m⟩:=q;rw[hc]at hr;simp only[Option.some.injEq]at hr;subst hr;have h2:=gM hO.inv 1;have h3:=hO.dX.kM;obtain⟨he,Ut,tF,-⟩:=Tg hc (by omega) depth;exact⟨Zy hL hD hO hG hd hz hc,Ut,tF,by simp only;omega,by simp only;omega⟩
structure OpnD (w w':F)(ps:Nat->Addr)(lp dp tb db depth:Nat)(fv:Y)(rs:List FR)(ep:Int)(m:dF)(r:Int×Sc×List bE):Prop where
 Cs:w'.heap[lp]?=M (kQ db ep)
 dr:aV w' dp tb depth m
 gl:Gl w' ps
 dsk:∃fO eZ,aW w' db r.2.1 fO eZ/\plain eZ=r.2.2/\Dk w w' (DX db fv rs) (DX db fO eZ)
 new:w.heap.size<=lp/\w.heap.size<=dp/\w.heap.size<=tb
theorem II (hD:aW w db s fv rs)(hO:uP 1000 s (plain rs))(hG:Gl w ps)(hr:Gw (plain rs) depth=O):
 H K 48 #[U (M ⟨db,0,O⟩),I V (depth:Int)] w fun e w'=> ∃v,e=G (.tuple #[U O,U O,v])/\nX w' ps 2 v 11/\aL w w':=by
 have hz:(aP (plain rs) 2).size≠0:=fun e=>by unfold Gw at hr;rw[if_pos e]at hr;cases hr
 have hc:yB (aP (plain rs) 2).data.toList ((aP (plain rs) 1).size:Int)=O:=by
  unfold Gw at hr;rw[if_neg hz]at hr;cases hc:yB (aP (plain rs) 2).data.toList ((aP (plain rs) 1).size:Int)with
  |none=>rfl
  |some q=>rw[hc]at hr;cases hr
 have ga:=(aL.refl w).alloc (C #[U (M ⟨db,0,O⟩),I V 0] 140);have uw:(w.alloc (C #[U (M ⟨db,0,O⟩),I V 0] 140)).heap[w.heap.size]?=M (kQ db 0):=heap_alloc_new w _
 have HR:Hid (H K 80 #[U (M ⟨w.heap.size,0,O⟩),I V (depth:Int)] (w.alloc (C #[U (M ⟨db,0,O⟩),I V 0] 140)) fun e w'=> ∃t b,e=G (.tuple #[U O,.iface t (U (M b))])/\nX w' ps 1 (.iface t (U (M b))) 11/\aL w w'):=(IG (depth:=depth) uw (hD.aN ga) hO (hG.aN ga) hz hc).mono (by
  rintro e w' ⟨t,b,rfl,h1,h2⟩;exact⟨t,b,rfl,h1,ga.then h2⟩)
 have HA:Hid (∀W t b,nX W ps 1 (.iface t (U (M b))) 11->H K 81 #[.string ⟨#[111,112,101,110]⟩,.iface t (U (M b))] W fun e w'=> ∃v',e=G v'/\nX w' ps 2 v' 11/\aL W w'):=fun W t b h=>Nv h
 clear hD hO hG hr hz hc ga uw;go_enter Tryz.func48,Tryz.ntmps48
 go_wp2_with (first|(go_at_call 80;refine HR.out.mono ?_;rintro e w3 ⟨t3,b3,rfl,he3,yE⟩)|(go_at_call 81;refine(HA.out _ _ _ he3).mono ?_;rintro e w4 ⟨v4,rfl,he4,oD⟩))
 refine bodyPost_ret (v:= .tuple #[U O,U O,v4]) (by simp[results,Tryz.results48,go_sem]) rfl ?_;exact⟨v4,rfl,he4,yE.then oD⟩
def OpnA (w w':F)(ps:Nat->Addr)(db depth:Nat)(fv:Y)(rs:List FR)(ep:Int)(m:dF)(r:Int×Sc×List bE)(e:Ending):Prop:=
 (r.1=0->∃lp dp tb:Nat,e=G (.tuple #[U (M ⟨lp,0,O⟩),U (M ⟨dp,0,O⟩),.nilIface])/\OpnD w w' ps lp dp tb db depth fv rs ep m r)/\(r.1≠0->∃v,e=G (.tuple #[U O,U O,v])/\pG w w' ps db fv rs 2 v r)
theorem uy {em:Int×dF}(hD:aW w db s fv rs)(hO:uP 1000 s (plain rs))(hG:Gl w ps)(hd:depth<=100)(hr:Gw (plain rs) depth=M em):
 H K 48 #[U (M ⟨db,0,O⟩),I V (depth:Int)] w fun e w'=>OpnA w w' ps db depth fv rs em.1 (sS (plain rs) depth em).1 (Cw s (plain rs) depth em) e:=by
 have ga:=(aL.refl w).alloc (C #[U (M ⟨db,0,O⟩),I V 0] 140);have uw:(w.alloc (C #[U (M ⟨db,0,O⟩),I V 0] 140)).heap[w.heap.size]?=M (kQ db 0):=heap_alloc_new w _;obtain⟨hR,Ut,tF,Gs,CU⟩:=Zz uw (hD.aN ga) hO (hG.aN ga) hd hr;obtain⟨w1,jJ⟩:∃w1,w1=w.alloc (C #[U (M ⟨db,0,O⟩),I V 0] 140):=⟨_,rfl⟩;rw[<-jJ]at ga uw hR;have tK:=ga.le
 have HALL:Hid (∀w3 dp tb,aV w3 dp tb depth em.2->w3.heap[w.heap.size]?=M (kQ db em.1)->w1.heap.size<=dp->w1.heap.size<=tb->Og w1 w3 w.heap.size->H K 82 #[U (M ⟨w.heap.size,0,O⟩),U (M ⟨dp,0,O⟩)] w3 fun e w'=> ∃(R:Nat),e=G (I V (R:Int))/\(Hid (R=22*(sS (plain rs) depth em).2)/\aV w' dp tb depth (sS (plain rs) depth em).1/\eG (sS (plain rs) depth em).1 depth)/\aW w' db s fv rs/\w'.heap[w.heap.size]?=M (kQ db em.1)/\Gl w' ps/\aL w w'):=fun w3 dp tb h1 h2 h3 h4 h5=>by
  have hD3:aW w3 db s fv rs:=(hD.aN ga).fr h5.1 (fun b hb e=>by
   obtain⟨aS,t,KO,q1,q2⟩:=(hD.aN ga).ty hb;rcases q2 with rfl|rfl|rfl|rfl<;>exact bB q1 uw (by decide) e)
  have hG3:Gl w3 ps:=(hG.aN ga).fr h5.1 (fun b aS hb=>bB hb uw (by decide)) (fun b aS t g hb=>bB hb uw (g.ne (by decide))) (fun b aS hb=>bB hb uw (by decide)) (fun b aS hb=>bB hb uw (by decide));have g3:aL w w3:=Cv ga h5 (Nat.le_refl _);refine(Zx h2 h1 Ut hD3 hO hG3 Gs (by omega) tF hd).mono ?_;rintro e w' ⟨k,R,rfl,hRk,m',Ay,q1,q2,-,q4⟩;obtain⟨z1,z2,z3,-⟩:=Dk.Cs (lp:=w.heap.size) (db:=db) (ep:=em.1) h1 q4;have e1:sS (plain rs) depth em=(m',k):=Ay;rw[e1];exact⟨R,rfl,⟨hRk,q1,q2⟩,z1 hD3,z2 h2,z3 hG3,RL g3 q4 (by rintro b (rfl|rfl)<;>omega)⟩
 have HTD:Hid (∀w4 dp tb (b:Nat),aV w4 dp tb depth (sS (plain rs) depth em).1->aW w4 db s fv rs->w4.heap[w.heap.size]?=M (kQ db em.1)->Gl w4 ps->aL w w4->w1.heap.size<=dp->w1.heap.size<=tb->(b:Int)=(sS (plain rs) depth em).1.2.2.2.2->∀R:Nat,R=22*(sS (plain rs) depth em).2->H K 83 #[U (M ⟨w.heap.size,0,O⟩),I V (R:Int),I V (b:Int)] w4 fun e w'=> ∃v,e=G v/\nX w' ps 1 v (Cw s (plain rs) depth em).1/\OpnD w w' ps w.heap.size dp tb db depth fv rs em.1 (sS (plain rs) depth em).1 (Cw s (plain rs) depth em)):=fun w4 dp tb b h1 h2 h3 h4 h5 h6 h7 h8 R h9=>by
  refine(tidy_pg (j:=R) (b:=b) h2 h3 h4 hO Gs (by omega)).mono ?_;rintro e w' ⟨v,rfl,fO,eZ,q1,q2,q3,q4⟩;have e1:pW s (plain rs) em.1 (R:Int) (b:Int)=Cw s (plain rs) depth em:=by unfold Cw;rw[h8,<-h9]
  rw[e1]at q1 q2 q4;exact⟨v,rfl,q4,⟨q3.1.at h3 (h2.other h3 (by decide) (by decide) (by decide) (by decide)),h1.dsk h2 q3,h4.dk h2 q3,⟨fO,eZ,q1,q2,(Dk.dJ h5).trans q3⟩,⟨Nat.le_refl _,by omega,by omega⟩⟩⟩
 have HBU:Hid (∀w4 dp tb,aV w4 dp tb depth (sS (plain rs) depth em).1->H K 53 #[U (M ⟨dp,0,O⟩)] w4 fun e w'=>e=G (I V (sS (plain rs) depth em).1.2.2.2.2)/\w'=w4):=fun w4 dp tb h1=>Af h1
 have HAT:Hid (∀W v c,nX W ps 1 v c->H K 81 #[.string ⟨#[111,112,101,110]⟩,v] W fun e w'=> ∃v',e=G v'/\nX w' ps 2 v' c/\aL W w'):=fun W v c h=>Nv h
 have HRS:Hid (H K 80 #[U (M ⟨w.heap.size,0,O⟩),I V (depth:Int)] w1 fun e w'=> ∃dp tb:Nat,e=G (.tuple #[U (M ⟨dp,0,O⟩),.nilIface])/\aV w' dp tb depth em.2/\w'.heap[w.heap.size]?=M (kQ db em.1)/\w1.heap.size<=dp/\w1.heap.size<=tb/\Og w1 w' w.heap.size):=hR;clear hR hD hO hG uw ga hr Ut;generalize Cw s (plain rs) depth em=T at*;generalize sS (plain rs) depth em=aK at*;go_enter Tryz.func48,Tryz.ntmps48
 go_upto_region 2 with fail
 rw[<-jJ];clear jJ
 go_upto_region 6 with(first
  |(go_at_call 80;refine HRS.out.mono ?_;rintro e w3 ⟨dp,tb,rfl,d1,d2,d3,d4,d5⟩;have hra:=HALL.out w3 dp tb d1 d2 d3 d4 d5)
  |(go_at_call 82;refine hra.mono ?_;rintro e w4 ⟨R,rfl,⟨r1,r2,r3⟩,r4,r5,r6,r7⟩))
 have hbu:=HBU.out w4 dp tb r2;obtain⟨b,hb⟩:=Int.eq_ofNat_of_zero_le r3.Eh;have htd:=HTD.out w4 dp tb b r2 r4 r5 r6 r7 d3 d4 hb.symm R r1.out;rw[hb]at hbu;clear HALL HTD HBU HRS hra d1 d2 d5 r2 r3 r4 r5 r6 r7 hb r1
 go_upto_region 7 with(first
  |(go_at_call 53;refine hbu.mono ?_;rintro e w4 ⟨rfl,rfl⟩)
  |(go_at_call 83;refine htd.mono ?_;rintro e w5 ⟨v5,rfl,e5,o5⟩))
 by_cases hT:T.1=0
 ·have HV:Hid (v5= .nilIface):=by rw[hT]at e5;exact e5.no
  obtain rfl:=HV.out;have HT:Hid (T.1=0):=hT;clear hT htd hbu
  go_wp2_with fail
  refine bodyPost_ret (v:= .tuple #[U (M ⟨w.heap.size,0,O⟩),U (M ⟨dp,0,O⟩),.nilIface]) (by simp[results,Tryz.results48,go_sem]) rfl ?_;exact⟨fun _=>⟨_,dp,tb,rfl,o5⟩,fun h=>absurd HT.out h⟩
 ·obtain⟨t5,b5,rfl⟩:=e5.yes hT;have RA:=HAT.out w5 _ _ e5;have HT:Hid (T.1≠0):=hT;clear hT htd hbu e5
  go_wp2_with (go_at_call 81;refine RA.mono ?_;rintro e w6 ⟨v6,rfl,e6,g6⟩)
  refine bodyPost_ret (v:= .tuple #[U O,U O,v6]) (by simp[results,Tryz.results48,go_sem]) rfl ?_;refine⟨fun h=>absurd h HT.out,fun _=>⟨v6,rfl,?_⟩⟩;obtain⟨fO,eZ,q1,q2,q3⟩:=o5.dsk;exact⟨fO,eZ,q1.aN g6,q2,q3.Jo g6,e6⟩
def VX (w w':F)(v v':Y):Prop:=(Fr w w' (fun b=>v.ownBlock=M b)/\(w'.os=w.os/\w'.tape=w.tape/\w'.output=w.output))/\∀b,v'.ownBlock=M b->v.ownBlock=M b\/w.heap.size<=b
theorem VX.refl (w:F)(v:Y):VX w w v v:=⟨⟨Fr.refl _ _,rfl,rfl,rfl⟩,fun _ h=>Or.inl h⟩
theorem VX.trans {b:F}{v1 v2:Y}(h1:VX a b v v1)(h2:VX b c v1 v2):VX a c v v2:=by
 obtain⟨⟨⟨a1,a2⟩,a3,a4,a5⟩,a6⟩:=h1;obtain⟨⟨⟨b1,b2⟩,b3,b4,b5⟩,b6⟩:=h2;refine⟨⟨⟨Nat.le_trans a1 b1,fun k hk hn=>?_⟩,b3.trans a3,b4.trans a4,b5.trans a5⟩,fun k hk=>?_⟩
 ·rw[b2 k (Nat.lt_of_lt_of_le hk a1) (fun e=>?_),a2 k hk hn];rcases a6 k e with h|h
  ·exact hn h
  ·omega
 ·rcases b6 k hk with h|h
  ·exact a6 k h
  ·exact Or.inr (Nat.le_trans a1 h)
theorem VX.aN {b:F}{v1:Y}(h1:VX a b v v1)(hg:aL b c):VX a c v v1:=h1.trans ⟨⟨Fr.cZ hg _,hg.os,hg.tape,hg.output⟩,fun _ h=>Or.inl h⟩
theorem VX.at {v':Y}{o:Obj}(h:VX w w' v v')(hb:w.heap[b]?=M o)(hn:¬v.ownBlock=M b):w'.heap[b]?=M o:=h.1.1.at hb hn
theorem VX.below {v':Y}(h:VX w w' v v')(ho:dI w B v l)(hB:B<=w.heap.size):Below B w w':=
 ⟨h.1.2.1,h.1.2.2.1,h.1.2.2.2,h.1.1.1,fun k hk=>h.1.1.2 k (by omega) (fun e=>by have:=(dI.lt ho k e).1;omega)⟩
theorem Ny {b:F}(h1:Below B a b)(h2:Below B b c):Below B a c:=⟨h2.os.trans h1.os,h2.tape.trans h1.tape,h2.output.trans h1.output,Nat.le_trans h1.size h2.size,fun k hk=>(h2.block k hk).trans (h1.block k hk)⟩
def EdsS (w:F)(B:Nat)(x:bS)(es:List Ed):Prop:=∃raw:List gH,(∀W,Below B w W->CS W x.1 raw)/\x.2.1=raw.length/\raw.length=es.length/\∀(i:Nat) (r:gH) (e:Ed),raw[i]?=M r->es[i]?=M e->r.1=e.1/\∀W,Below B w W->bL W r.2.1 e.2.1/\bL W r.2.2 e.2.2
theorem EdsS.of {w0:F}{x:bS}{es:List Ed}(h:dY w0 x es)(hg:aL w0 w):EdsS w w0.heap.size x es:=by
 obtain⟨raw,h1,h2,-,h4,h5⟩:=h;refine⟨raw,fun W hW=>h1.aN (Ny hg hW),h2,h4,fun i r e a b=>⟨(h5 i r e a b).1,fun W hW=>?_⟩⟩;have:=(h5 i r e a b).aN (Ny hg hW);exact⟨this.2.1,this.2.2⟩
structure CsB (W:F)(qb fb lp db:Nat)(ep:Int)(ad:Addr)(n cap:Nat):Prop where
 lg:W.heap[qb]?=M (C #[U (M ⟨lp,0,O⟩)] 85 (0,0))
 fl:W.heap[fb]?=M (C #[Z (M ad) n cap] 153 (0,0))
 Cs:W.heap[lp]?=M (kQ db ep)
theorem CsB.keep {W W':F}{qb fb:Nat}{ad:Addr}{n cap:Nat}(h:CsB W qb fb lp db ep ad n cap)(hk:RP W W'):CsB W' qb fb lp db ep ad n cap:=
 ⟨hk _ _ _ _ h.lg (by decide) (by decide) (by decide) (by decide),hk _ _ _ _ h.fl (by decide) (by decide) (by decide) (by decide),hk _ _ _ _ h.Cs (by decide) (by decide) (by decide) (by decide)⟩
theorem CsB.cells {W:F}{qb fb:Nat}{ad:Addr}{n cap:Nat}(h:CsB W qb fb lp db ep ad n cap):W.cell? ⟨qb,0,O⟩=M (U (M ⟨lp,0,O⟩))/\W.cell? ⟨fb,0,O⟩=M (Z (M ad) n cap)/\W.cell? ⟨lp,0,O⟩=M (U (M ⟨db,0,O⟩))/\W.cell? ⟨lp,1,O⟩=M (I V ep):=by
 obtain⟨h1,h2,h3⟩:=h;exact⟨by simp[World.cell?,h1],by simp[World.cell?,h2],(iT h3).1,(iT h3).2.1⟩
theorem uP.mono {N N':Nat}{fs:List bE}(h:uP N s fs)(hN:N<=N'):uP N' s fs:=⟨h.dX,h.Ov,h.inv,Nat.le_trans h.len hN⟩
theorem IJ:(Tryz.prog.info? 201).map (·.size)=M 2:=by kernel_rfl
theorem uz:liesAt K Tryz.prog.depth 201 (2 / Tryz.prog.cellsOf 201) 0 201 1=true:=by kernel_rfl
theorem cc_used (b:Nat)(w:F)(h0:w.cell? ⟨b,0,O⟩=M (U (M ⟨b,0,O⟩))):
 H K 178 #[U (M ⟨b,0,O⟩)] w fun e w'=>e=G (.tuple #[])/\w'=w:=by
 obtain⟨j,hj,_⟩:=Option.map_eq_some_iff.1 IJ;go_enter Tryz.func178,Tryz.ntmps178
 go_wp2
 rw[Lib.run_neq_ptr_same w _ Tryz.underlying199 hj]
 go_wp2
 go_end0;exact⟨rfl,rfl⟩
theorem vg (b:Nat)(w:F)(h0:w.cell? ⟨b,0,O⟩=M (U O))(hsh:w.shape? b=M (201,2))(UD:w.frozen? ⟨b,0,O⟩=false):
 H K 178 #[U (M ⟨b,0,O⟩)] w fun e w'=>e=G (.tuple #[])/\w'=w.setCell ⟨b,0,O⟩ (U (M ⟨b,0,O⟩)):=by
 obtain⟨j,hj,hjs⟩:=Option.map_eq_some_iff.1 IJ;go_enter Tryz.func178,Tryz.ntmps178
 go_wp2
 rw[Lib.run_to_unsafe w ⟨b,0,O⟩ Tryz.underlying199 Tryz.underlying276 hj (by rw[hjs];decide) hsh (Nat.zero_lt_succ 1)];simp only[Result.andThen];rw[Oper.upon_value]
 go_wp2
 rw[run_callFunc_extern Tryz.func232 (by kernel_rfl) (by kernel_rfl) (by kernel_rfl) (e:=Extern.AbiNoEscape.same) (by kernel_rfl)];rw[Lib.run_noEscape];simp only[Result.andThen];rw[Oper.upon_value]
 go_wp2
 rw[Lib.run_from_unsafe w ⟨b,0,O⟩ Tryz.underlying276 Tryz.underlying199 hj hsh uz];simp only[Result.andThen];rw[Oper.upon_value]
 go_wp2
 go_end0;exact⟨rfl,rfl⟩
def Jr (w:F)(B b:Nat)(l:List UInt8):Prop:=B<=b/\∃p v,(p=U O\/p=U (M ⟨b,0,O⟩))/\w.heap[b]?=M (C #[p,v] 201 (0,0))/\Cb w B v l/\v.ownBlock≠M b
theorem Jr.is (h:Jr w B b l):Lib.IsBuilder 201 5 B b (Lib.byteCells l) w:=by
 obtain⟨h1,p,v,hp,h2,h3,h4⟩:=h
 have h3':w.ownsRow B 5 1 v (Lib.byteCells l).length (Lib.byteCells l):=by
  rw[Lib.byteCells_length];exact h3
 rcases hp with rfl|rfl
 ·exact Or.inl ⟨h1,v,h2,h3',h4⟩
 ·exact Or.inr ⟨h1,v,h2,h3',h4⟩
theorem cc_low (h:Jr w B b l):H K 178 #[U (M ⟨b,0,O⟩)] w fun e w'=>e=G (.tuple #[])/\Jr w' B b l/\Below B w w':=by
 obtain⟨h1,p,v,hp,h2,h3,h4⟩:=h;have hc:w.cell? ⟨b,0,O⟩=M p:=by simp[World.cell?,h2]
 rcases hp with rfl|rfl
 ·refine(vg b w hc (by simp[World.shape?,h2]) (by simp[World.frozen?,h2])).mono ?_;rintro e w' ⟨rfl,rfl⟩;refine⟨rfl,⟨h1,_,v,Or.inr rfl,by rw[heap_setCell_same w b 0 _ _ _ h2];rfl,?_,h4⟩,(Below.refl B w).setCell (p:=⟨b,0,O⟩) h1 _⟩;exact h3.fr (Fr.set w ⟨b,0,O⟩ _) (fun g hg e=>h4 (by rw[hg];exact congrArg M e))
 ·refine(cc_used b w hc).mono ?_;rintro e w' ⟨rfl,rfl⟩;exact⟨rfl,⟨h1,_,v,Or.inr rfl,h2,h3,h4⟩,Below.refl _ _⟩
theorem qQ.below {ao:Option Addr}(h:qQ w ao l)(hg:Below B w w')(ha:∀a,ao=M a->a.block<B):qQ w' ao l:=by
 rcases h with h|⟨b,off,e,hc⟩
 ·exact Or.inl h
 ·refine Or.inr ⟨b,off,e,fun i x hx=>?_⟩;have hb:=hg.block b (ha _ e);have:=hc i x hx;unfold World.cell? at this ⊢;simp only[hb];exact this
theorem vk {cs:Array Y}(h:Cb w B v l)(hb:w.heap[b]?=M (C cs 201 (0,0))):v.ownBlock≠M b:=Lib.ownBlock_ne h hb (by decide)
theorem VY {zs:List UInt8}{ao:Option Addr}{c:Nat}(h:Jr w B b l)(hBw:B<=w.heap.size)(gP:ao=O->zs.length=0/\c=0)(hr:qQ w ao zs)
 (hao:∀a,ao=M a->a.block<B)(hlen:l.length+zs.length<=1000000000):
 H K 120 #[U (M ⟨b,0,O⟩),Z ao zs.length c] w fun e w'=>e=G (.tuple #[I V (zs.length:Int),.nilIface])/\Jr w' B b (l++zs)/\Below B w w':=by
 have HC:=cc_low h;go_enter Tryz.func120,Tryz.ntmps120
 go_wp2_with fail
 refine HC.mono ?_;rintro e w1 ⟨rfl,h1,fC⟩;obtain⟨hB,p,v,hp,Xo,bA,hne⟩:=h1;have c1:w1.cell? ⟨b,1,O⟩=M v:=by rw[Lib.cell_of_heap Xo];rfl
 have tK:=fC.size;have vB:=hr.below fC hao
 go_wp2_with (at_builtin;refine DV rfl (.tmp 12) (.tmp 13) rfl B v l zs rfl bA ao _ c rfl rfl gP vB hlen (by omega) ?_)
 intro v' w2 jB hgrow _;have bT:b<w1.heap.size:=aM Xo
 have gG:w2.heap[b]?=M (C #[p,v] 201 (0,0)):=by
  rw[hgrow.block b bT (fun e=>hne e.symm)];exact Xo
 have d1:w2.cell? ⟨b,1,O⟩=M v:=by rw[Lib.cell_of_heap gG];rfl
 have f1:w2.frozen? ⟨b,1,O⟩=false:=Lib.frozen_of_heap gG 1;obtain⟨ao2,Lh,ev,-⟩:=dI.form (Cb.b jB);subst ev
 go_wp2
 go_ret2;refine⟨by simp,?_,?_⟩
 ·refine⟨hB,p,_,hp,by rw[List.length_append,heap_setCell_same w2 b 1 _ _ _ gG];rfl,?_,vk jB gG⟩;exact jB.fr (Fr.set w2 ⟨b,1,O⟩ _) (fun g hg e=>vk jB gG (by rw[hg];exact congrArg M e))
 ·exact(fC.trans ((Below.refl B w1).grown hgrow (by omega) (fun k hk=>(World.ownsRow.lt bA k hk).1))).setCell (p:=⟨b,1,O⟩) hB _
theorem VZ (b:ByteArray)(i j:Nat):(b.extract i j).data.toList=(b.data.toList.drop i).take (j-i):=by
 rw[ByteArray.data_extract,Array.toList_extract]
theorem vo {L:List (Int×Int)}{x1:Option Addr}{x3:Nat}(hL:w.heap[lp]?=M (kQ db ep))(hD:aW w db s fv rs)(hs:(plain rs).Pairwise (fun a b=>a.1<b.1))(hl:rs.length<=1000000)
 (hx:bL w (x1,L.length,x3) L)(Nc:tC ((aP (plain rs) 1).size:Int) L)(hlen:L.length<=10000)(hbz:(aP (plain rs) 1).size<=1000000000):
 H K 77 #[U (M ⟨lp,0,O⟩),Z x1 L.length x3] w fun e w'=>e=G (.string (lV (aP (plain rs) 1) L))/\aL w w':=by
 have hB:=wJ (n:=1) hD hs hl;obtain⟨ao,cap,ev,iL,Fg⟩:=xA hD hs 1;rw[ev]at hB;obtain⟨c0,-⟩:=iT hL;have HR:Hid (Ec w x1 L):=hx.1.1;have HI:Hid (tC ((aP (plain rs) 1).size:Int) L):=Nc;generalize aP (plain rs) 1=bs at*;generalize hSZ:bs.size=SZ at*;have HZ:Hid (bs.size=SZ):=hSZ
 have HF:Hid ((ao=O/\SZ=0/\cap=0)\/∃b off,ao=M ⟨b,off,O⟩/\qQ w (M ⟨b,off,O⟩) bs.data.toList/\b<w.heap.size):=by
  rcases Fg with h|⟨b,off,e,h1,cq,fq,h2⟩
  ·exact Or.inl h
  ·exact Or.inr ⟨b,off,e,h1,aM h2⟩
 have HBD:Hid (Jr (w.alloc (C #[U O,Z O 0 0] 201)) w.heap.size w.heap.size []):=⟨Nat.le_refl _,U O,Z O 0 0,Or.inl rfl,heap_alloc_new w _,Cb.nil _ _,by simp[Value.ownBlock]⟩;have RF:Hid (aL w (w.alloc (C #[U O,Z O 0 0] 201))):=(aL.refl w).alloc _;clear hL hD hs hx Nc ev Fg hSZ;go_enter Tryz.func77,Tryz.ntmps77
 go_wp2_with (go_at_call 119;refine hB.mono ?_;rintro e w ⟨rfl,rfl⟩)
 clear hB
 go_wp2_with fail
 go_loopw [8,16] (fun _ i wr=> ∃k:Nat,k<=L.length/\i=I V (k:Int)/\Hid (Jr wr w.heap.size w.heap.size (lV bs (L.take k)).data.toList)/\Hid (aL w wr)) (fun _ i _=>L.length-(intOf i).toNat)
 case atStart=>exact⟨0,Nat.zero_le _,rfl,(by show Jr _ _ _ _;simpa[lV]using HBD.out),RF.out⟩
 case round=>
  obtain⟨k,hk,rfl,HO,HG⟩:=hrel;have jT:=HG.out.size;by_cases bT:k<L.length
  ·rcases Ec.QG HR.out HG.out with GQ|⟨b,off,rfl,hc⟩
   ·rw[GQ]at bT;simp at bT
   ·obtain⟨d1,d2⟩:=hc k bT;have hpm:=HI.out _ (by rw[List.getD_eq_getElem?_getD,List.getElem?_eq_getElem bT];exact List.getElem_mem bT:L.getD k (0,0)∈L);have HNX:Hid (lV bs (L.take (k+1))=lV bs (L.take k)++bs.extract (L.getD k (0,0)).1.toNat ((L.getD k (0,0)).1+(L.getD k (0,0)).2).toNat):=Gb bT;have HSZ:=Ru (b:=bs) HI.out k;generalize L.getD k (0,0)=p at*;obtain⟨p1,p2⟩:=p;simp only at d1 d2 HNX hpm;obtain⟨n1,rfl⟩:∃n:Nat,p1=(n:Int):=⟨p1.toNat,by omega⟩;obtain⟨n2,rfl⟩:∃n:Nat,p2=(n:Int):=⟨p2.toNat,by omega⟩;have i1:(0:Int)<=(k:Int):=by omega
    have i2:(k:Int)<(L.length:Int):=by omega
    rcases HF.out with⟨-,e2,-⟩|⟨g,go,rfl,hrb,Bp⟩
    ·exfalso;omega
    have HNX2:Hid ((lV bs (L.take (k+1))).data.toList=(lV bs (L.take k)).data.toList++(bs.data.toList.drop n1).take n2):=by
     show _=_;rw[HNX.out,ByteArray.data_append,Array.toList_append,VZ];congr 2;omega
    have hzl:((bs.data.toList.drop n1).take n2).length=n2:=by
     rw[List.length_take,List.length_drop,show bs.data.toList.length=SZ from by rw[<-HZ.out];simp];omega
    have hfl:(lV bs (L.take k)).data.toList.length=(lV bs (L.take k)).size:=by simp
    have hWR:=VY (ao:=M ⟨g,go+n1,O⟩) (c:=cap-n1) (zs:=(bs.data.toList.drop n1).take n2) (w:=wr.alloc (C #[I V (n1:Int),I V (n2:Int)] 114)) (B:=w.heap.size) (b:=w.heap.size) (l:=(lV bs (L.take k)).data.toList) ?b1 (by simp;omega) (fun e=>by cases e) ?b2 ?b3 (by rw[hzl,hfl];omega)
    case b1=>
     obtain⟨q1,pp,vv,q2,q3,q4,q5⟩:=HO.out;exact⟨q1,pp,vv,q2,by rw[heap_alloc_old _ _ (aM q3)];exact q3,q4.aN ((aL.refl wr).alloc _),q5⟩
    case b2=>exact(((hrb.drop n1).take n2).aN HG.out).aN ((aL.refl wr).alloc _)
    case b3=>intro a e;cases e;exact Bp
    rw[hzl,<-HNX2.out]at hWR;clear HSZ hfl hzl HNX HNX2;have hnx:=HG.out;have i3:¬cap=n1:=by omega
    have i4:n1<=cap:=by omega
    have i6:((n1:Int)+(n2:Int)).toNat-n1=n2:=by omega
    have i7:(n1:Int)+(n2:Int)<=(cap:Int):=by omega
    clear HO HG hrb hc HF
    go_wp2_with (go_at_call 120;refine hWR.mono ?_;rintro e w4 ⟨rfl,CR,KS⟩)
    go_roundw
    case rel=>exact⟨k+1,by omega,by go_num,CR,Below.trans (aL.alloc hnx _) KS⟩
    case measure=>simp[intOf];omega
  ·have hke:k=L.length:=by omega
   rw[hke,List.take_length]at HO;have hST:=Tryz.Builder_String_any w.heap.size w.heap.size (lV bs L).data.toList wr HO.out.is jT;have hnx:=HG.out;clear HO HG HR HI HBD RF
   go_wp2_with (go_at_call 121;refine hST.mono ?_;rintro e w4 ⟨rfl,KS⟩)
   go_ret;exact⟨rfl,Below.trans hnx KS⟩
end Go.Proofs.YtfplgfodoiiobaaGreatDoor
