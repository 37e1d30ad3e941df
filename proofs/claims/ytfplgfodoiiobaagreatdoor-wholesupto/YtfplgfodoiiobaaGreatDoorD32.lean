/- LgO, LgP, LgQ (joined). -/
import Derived.Test.YtfplgfodoiiobaaGreatDoorD31
open Option renaming none→O,some→M
open Go.Value renaming int→I,slice→Z,pointer→U
open Go.IntKind renaming i64→V
open Go.Obj renaming cells→C
open Go.Ending renaming returned→G
open Go renaming World→F,Value→Y,Calls→H
open Go.Proofs.Tryz renaming prog→K
open Go.Proofs.Tryz
namespace Go.Proofs.YtfplgfodoiiobaaGreatDoor
set_option maxHeartbeats 1000000
set_option maxRecDepth 100000
open Go.RowKit
abbrev AdK:=@List.flatMap_cons
abbrev Ada:=@List.flatMap_append
variable {w w' a b c:F}{db depth lp B:Nat}{s:Sc}{fv v:Y}{rs:List FR}{ps:Nat->Addr}{ep:Int}{l:List UInt8}
def Jk (fs:List bC)(depth:Nat):Option (Int×dD):=if (aO fs 2).size=0 then M (0,([],[],[],0,0))else
 match yM (aO fs 2).data.toList ((aO fs 1).size:Int)with
 |none=>O
 |some q=>M (q.1,Qo q.2 depth)
theorem Uw (depth:Nat):eD ([],[],[],0,0) depth:=
 { Dt:=AaZ _,Ch:=by simp,text:=sO _,long:=by simp[sz],few:=by simp,jA:=fun e he=>by simp at he,jO:=fun e he=>by simp at he,Wq:=by simp,IB:=by simp,IC:=rfl,XQ:=rfl,done:=AaZ _ }
theorem VJ (h:w.heap[lp]?=M (jM db ep))(AA:Int):(w.setCell ⟨lp,1,O⟩ (I V AA)).heap[lp]?=M (jM db AA):=by
 rw[Aaj w lp 1 _ _ _ h];rfl
theorem Ux (hL:w.heap[lp]?=M (jM db ep))(hD:aU w db s fv rs)(hO:pJ 1000 s (plain rs))(hd:depth<=100)(hz:(aO (plain rs) 2).size=0):
 H K 80 #[U (M ⟨lp,0,O⟩),I V (depth:Int)] w fun e w'=> ∃dp tb:Nat,e=G (.tuple #[U (M ⟨dp,0,O⟩),.nilIface])/\aV w' dp tb depth ([],[],[],0,0)/\w.heap.size<=dp/\w.heap.size<=tb/\aL w w':=by
 have hl:rs.length<=1000:=by have:=hO.len;rw[bN]at this;exact this
 have hB:=wU (n:=2) hD hO.inv.sort.1 (by omega);obtain⟨ao,cap,ev,-⟩:=xE hD hO.inv.sort.1 2;rw[ev,hz]at hB;obtain⟨c0,-⟩:=gU hL
 have HR:Hid (∀W,H K 122 #[I V (depth:Int),.agg #[I V 0,I V 0,Z O 0 0,Z O 0 0,Z O 0 0]] W fun e w'=> ∃dp tb,e=G (U (M ⟨dp,0,O⟩))/\aV w' dp tb depth ([],[],[],0,0)/\W.heap.size<=dp/\W.heap.size<=tb/\aL W w'):=fun W=>by
  have:=Uk (w:=W) (depth:=depth) (dn:=0) (bf:=0) (t:=(O,0,0)) (u:=(O,0,0)) (r:=(O,0,0)) (l:=[]) (ul:=[]) (rl:=[]) (vJ W) (dR.nil W) (dR.nil W) (by simp) (by simp) hd vG (by simp) (fun q hq=>by simp at hq);simpa[JZ,bS.v]using this
 clear hL hD hO ev;go_enter func80,ntmps80;go_wp2_with (first|(go_at_call 119;refine hB.mono ?_;rintro e w ⟨rfl,rfl⟩)|(go_at_call 122;refine(HR.out _).mono ?_;rintro e w4 ⟨dp,tb,rfl,h1,h2,h3,h4⟩));refine Aan (v:= .tuple #[U (M ⟨dp,0,O⟩),.nilIface]) (by simp[results,results80,go_sem]) rfl ?_;exact⟨dp,tb,rfl,h1,h2,h3,h4⟩
theorem KS (hL:w.heap[lp]?=M (jM db ep))(hD:aU w db s fv rs)(hO:pJ 1000 s (plain rs))(hG:Gl w ps)(hz:(aO (plain rs) 2).size≠0)(hr:yM (aO (plain rs) 2).data.toList ((aO (plain rs) 1).size:Int)=O):
 H K 80 #[U (M ⟨lp,0,O⟩),I V (depth:Int)] w fun e w'=> ∃t b,e=G (.tuple #[U O,.iface t (U (M b))])/\kZ w' ps 1 (.iface t (U (M b))) 11/\aL w w':=by
 have hl:rs.length<=1000:=by have:=hO.len;rw[bN]at this;exact this
 have jW:(aO (plain rs) 2).size<=1000000/\(aO (plain rs) 1).size<=1000000:=by
  have h1:=gD hO.inv 2;have h2:=gD hO.inv 1;have h3:=hO.cK.kI;exact⟨by omega,by omega⟩
 have hB:=wU (n:=2) hD hO.inv.sort.1 (by omega);have hN:=Fj (n:=1) hD hO.inv.sort.1 (by omega);obtain⟨ao,cap,ev,iI,Hw⟩:=xE hD hO.inv.sort.1 2;rw[ev]at hB;obtain⟨c0,-⟩:=gU hL;rcases Hw with⟨-,h0,-⟩|⟨b,off,rfl,Bz,vV⟩
 ·exact absurd h0 hz
 ·have hC:=Zw (cap:=cap) (buf:=((aO (plain rs) 1).size:Int)) Bz vV (by simpa using iI) (by have:=jW.1;simp;omega) hG (by omega) (by omega);rw[hr]at hC;have hlen:(aO (plain rs) 2).data.toList.length=(aO (plain rs) 2).size:=by simp
  rw[hlen]at hC
  have HC:Hid (H K 123 #[Z (M ⟨b,off,O⟩) (aO (plain rs) 2).size cap,I V ((aO (plain rs) 1).size:Int)] w fun e w'=> ∃t b0,e=G (.tuple #[I V 0,.agg #[I V 0,I V 0,Z O 0 0,Z O 0 0,Z O 0 0],.iface t (U (M b0))])/\kZ w' ps 1 (.iface t (U (M b0))) 11/\aL w w'):=hC.mono (by
   rintro e w' ⟨⟨t,b0,rfl,he⟩,hg⟩;exact⟨t,b0,rfl,he,hg⟩)
  have hz':(((aO (plain rs) 2).size:Int)==0)=false:=by rw[Aat];omega
  generalize (aO (plain rs) 2).size=z2 at*;generalize (aO (plain rs) 1).size=z1 at*;clear hL hD hO hG Bz vV hC ev hr hlen;go_enter func80,ntmps80;go_wp2_with (first|(go_at_call 119;refine hB.mono ?_;rintro e w ⟨rfl,rfl⟩)|(go_at_call 124;refine hN.mono ?_;rintro e w ⟨rfl,rfl⟩)|(go_at_call 123;refine HC.out.mono ?_;rintro e w4 ⟨t4,b4,rfl,he4,nO⟩));refine Aan (v:= .tuple #[U O,.iface t4 (U (M b4))]) (by simp[results,results80,go_sem]) rfl ?_;exact⟨t4,b4,rfl,he4.aN ((aL.refl _).alloc _),nO.alloc _⟩
theorem DI {AA:Int}{m:dD}(hL:w.heap[lp]?=M (jM db ep))(hD:aU w db s fv rs)(hO:pJ 1000 s (plain rs))(hG:Gl w ps)(hd:depth<=100)(hz:(aO (plain rs) 2).size≠0)(hr:yM (aO (plain rs) 2).data.toList ((aO (plain rs) 1).size:Int)=M (AA,m)):
 H K 80 #[U (M ⟨lp,0,O⟩),I V (depth:Int)] w fun e w'=> ∃dp tb:Nat,e=G (.tuple #[U (M ⟨dp,0,O⟩),.nilIface])/\aV w' dp tb depth (Qo m depth)/\w'.heap[lp]?=M (jM db AA)/\w.heap.size<=dp/\w.heap.size<=tb/\Og w w' lp:=by
 have hl:rs.length<=1000:=by have:=hO.len;rw[bN]at this;exact this
 have jW:(aO (plain rs) 2).size<=1000000/\(aO (plain rs) 1).size<=1000000:=by
  have h1:=gD hO.inv 2;have h2:=gD hO.inv 1;have h3:=hO.cK.kI;exact⟨by omega,by omega⟩
 obtain⟨-,Ef,-,ZM,Il,Gz,Gr⟩:=Uv hr (by omega) depth;have kP:=Ef.EW;have Gh:=Ef.few;have h9:∀q∈m.1,q.1<=1000000000:=fun q hq=>by have:=Gr q hq;omega
 have hB:=wU (n:=2) hD hO.inv.sort.1 (by omega);have hN:=Fj (n:=1) hD hO.inv.sort.1 (by omega);obtain⟨ao,cap,ev,iI,Hw⟩:=xE hD hO.inv.sort.1 2;rw[ev]at hB;obtain⟨c0,-⟩:=gU hL;rcases Hw with⟨-,h0,-⟩|⟨b,off,rfl,Bz,vV⟩
 ·exact absurd h0 hz
 ·have hC:=Zw (cap:=cap) (buf:=((aO (plain rs) 1).size:Int)) Bz vV (by simpa using iI) (by have:=jW.1;simp;omega) hG (by omega) (by omega);rw[hr]at hC;have hlen:(aO (plain rs) 2).data.toList.length=(aO (plain rs) 2).size:=by simp
  rw[hlen]at hC
  have HC:Hid (H K 123 #[Z (M ⟨b,off,O⟩) (aO (plain rs) 2).size cap,I V ((aO (plain rs) 1).size:Int)] w fun e w'=> ∃(t1:Option Addr) (t2 t3:Nat) (u1:Option Addr) (u2 u3:Nat) (r1:Option Addr) (r2 r3:Nat),e=G (.tuple #[I V AA,.agg #[I V m.2.2.2.1,I V m.2.2.2.2,Z t1 t2 t3,Z u1 u2 u3,Z r1 r2 r3],.nilIface])/\(bH w' (t1,t2,t3) m.1/\dR w' (u1,u2,u3) m.2.1/\dR w' (r1,r2,r3) m.2.2.1)/\aL w w'):=hC.mono (by
   rintro e w' ⟨⟨⟨t1,t2,t3⟩,⟨u1,u2,u3⟩,⟨r1,r2,r3⟩,rfl,q1,q2,q3⟩,hg⟩;exact⟨t1,t2,t3,u1,u2,u3,r1,r2,r3,rfl,⟨q1,q2,q3⟩,hg⟩)
  have HRS:Hid (∀W t1 t2 t3 u1 u2 u3 r1 r2 r3,bH W (t1,t2,t3) m.1->dR W (u1,u2,u3) m.2.1->dR W (r1,r2,r3) m.2.2.1->H K 122 #[I V (depth:Int),.agg #[I V m.2.2.2.1,I V m.2.2.2.2,Z t1 t2 t3,Z u1 u2 u3,Z r1 r2 r3]] W fun e w'=> ∃dp tb,e=G (U (M ⟨dp,0,O⟩))/\aV w' dp tb depth (Qo m depth)/\W.heap.size<=dp/\W.heap.size<=tb/\aL W w'):=fun W t1 t2 t3 u1 u2 u3 r1 r2 r3 q1 q2 q3=>by
   exact Uk (t:=(t1,t2,t3)) (u:=(u1,u2,u3)) (r:=(r1,r2,r3)) q1 q2 q3 (by omega) (by omega) hd kP Gh h9
  have HK:Hid (∀w4 t1 t2 t3 u1 u2 u3 r1 r2 r3,aL w w4->(bH w4 (t1,t2,t3) m.1/\dR w4 (u1,u2,u3) m.2.1/\dR w4 (r1,r2,r3) m.2.2.1)->(w4.cell? ⟨lp,1,O⟩=M (I V ep)/\w4.frozen? ⟨lp,1,O⟩=false)/\(w4.setCell ⟨lp,1,O⟩ (I V AA)).heap[lp]?=M (jM db AA)/\(bH (w4.setCell ⟨lp,1,O⟩ (I V AA)) (t1,t2,t3) m.1/\dR (w4.setCell ⟨lp,1,O⟩ (I V AA)) (u1,u2,u3) m.2.1/\dR (w4.setCell ⟨lp,1,O⟩ (I V AA)) (r1,r2,r3) m.2.2.1)/\Og w (w4.setCell ⟨lp,1,O⟩ (I V AA)) lp):=fun w4 t1 t2 t3 u1 u2 u3 r1 r2 r3 h4 hq=>by
   have hL4:=(h4.block _ (aM hL)).trans hL;have hF:=Fr.set w4 ⟨lp,1,O⟩ (I V AA);obtain⟨-,k1,kf⟩:=gU hL4;refine⟨⟨k1,kf 1⟩,VJ hL4 AA,⟨hq.1.fr hF (fun b aS hb=>aZ hb hL4 (by decide)),hq.2.1.fr hF (fun b aS hb=>aZ hb hL4 (by decide)) (fun b aS hb=>aZ hb hL4 (by decide)),hq.2.2.fr hF (fun b aS hb=>aZ hb hL4 (by decide)) (fun b aS hb=>aZ hb hL4 (by decide))⟩,((Og.refl w lp).aN h4).set⟩
  have HLP:Hid (lp<w.heap.size):=aM hL;have hz':(((aO (plain rs) 2).size:Int)==0)=false:=by rw[Aat];omega
  generalize (aO (plain rs) 2).size=z2 at*;generalize (aO (plain rs) 1).size=z1 at*;clear hL hD hO hG Bz vV hC ev hr hlen Ef Gr h9 kP Gh ZM Il Gz;go_enter func80,ntmps80;go_upto_region 7 with(first|(go_at_call 119;refine hB.mono ?_;rintro e w ⟨rfl,rfl⟩)|(go_at_call 124;refine hN.mono ?_;rintro e w ⟨rfl,rfl⟩)|(go_at_call 123;refine HC.out.mono ?_;rintro e w4 ⟨t1,t2,t3,u1,u2,u3,r1,r2,r3,rfl,hq4,nO⟩));have ga:=(aL.refl w4).alloc (C #[I V m.2.2.2.1,I V m.2.2.2.2,Z t1 t2 t3,Z u1 u2 u3,Z r1 r2 r3] 105);have qZ:=Aaf w4 (C #[I V m.2.2.2.1,I V m.2.2.2.2,Z t1 t2 t3,Z u1 u2 u3,Z r1 r2 r3] 105);obtain⟨⟨k1,kf⟩,k2,k3,k4⟩:=HK.out _ t1 t2 t3 u1 u2 u3 r1 r2 r3 (nO.then ga) ⟨hq4.1.aN ga,hq4.2.1.aN ga,hq4.2.2.aN ga⟩;have YX:Hid (w.heap.size<=w4.heap.size):=nO.le;generalize (w4.alloc (C #[I V m.2.2.2.1,I V m.2.2.2.2,Z t1 t2 t3,Z u1 u2 u3,Z r1 r2 r3] 105))=w5 at*;have HLE5:Hid (w.heap.size<=w5.heap.size):=Aam YX.out ga.le;have HB5:Hid (w5.heap[w4.heap.size]?=_):=qZ;clear qZ ga hq4 nO HK c0;go_upto_region 8 with fail;have hne:w4.heap.size≠lp:=by have:=HLP.out;have:=YX.out;omega
  obtain⟨⟨y0,y1,y2,y3,y4⟩,-⟩:=rH ((Fr.set w5 ⟨lp,1,O⟩ (I V AA)).at HB5.out hne);have HK2:Hid (_=M (jM db AA)):=k2;have HK4:Hid (Og w _ lp):=k4;have XE:=HRS.out _ t1 t2 t3 u1 u2 u3 r1 r2 r3 k3.1 k3.2.1 k3.2.2;have HSZ:Hid (w5.heap.size<=(w5.setCell ⟨lp,1,O⟩ (I V AA)).heap.size):=(Fr.set w5 ⟨lp,1,O⟩ (I V AA)).1;clear k1 kf k2 k3 k4 hne;generalize (w5.setCell ⟨lp,1,O⟩ (I V AA))=w6 at*;go_wp2_with (go_at_call 122;refine XE.mono ?_;rintro e w7 ⟨dp,tb,rfl,h1,h2,h3,h4⟩);refine Aan (v:= .tuple #[U (M ⟨dp,0,O⟩),.nilIface]) (by simp[results,results80,go_sem]) rfl ?_;have h5:=HSZ.out;have h6:=HLE5.out;exact⟨dp,tb,rfl,h1,(h4.block _ (aM HK2.out)).trans HK2.out,by omega,by omega,HK4.out.aN h4⟩
theorem aV.dsk {dp tb:Nat}{m:dD}{X':Nat->Prop}(h:aV w dp tb depth m)(hD:aU w db s fv rs)(hk:Dk w w' (DX db fv rs) X'):aV w' dp tb depth m:=by
 obtain⟨u,r,h1,h2,h3,h4⟩:=h;obtain⟨c,hc⟩:=h2.ty;refine⟨u,r,hk.1.at h1 (hD.other h1 (by decide) (by decide) (by decide) (by decide)),h2.fr hk.1 (hD.other hc (by decide) (by decide) (by decide) (by decide)) (fun b la ra p h l hb=>hD.other hb (by decide) (by decide) (by decide) (by decide)),h3.fr hk.1 (fun b aS hb=>hD.other hb (by decide) (by decide) (by decide) (by decide)) (fun b aS hb=>hD.other hb (by decide) (by decide) (by decide) (by decide)),h4.fr hk.1 (fun b aS hb=>hD.other hb (by decide) (by decide) (by decide) (by decide)) (fun b aS hb=>hD.other hb (by decide) (by decide) (by decide) (by decide))⟩
def uH (fs:List bC)(depth:Nat)(em:Int×dD):dD×Nat:=Cj ((aO fs 1).size:Int) depth ((aO fs (10+em.1)).size / 22+1) em.2 (aO fs (10+em.1)).data.toList
def Eg (s:Sc)(fs:List bC)(depth:Nat)(em:Int×dD):Int×Sc×List bC:=qM s fs em.1 ((22*(uH fs depth em).2:Nat):Int) (uH fs depth em).1.2.2.2.2
theorem DJ {em:Int×dD}(hL:w.heap[lp]?=M (jM db 0))(hD:aU w db s fv rs)(hO:pJ 1000 s (plain rs))(hG:Gl w ps)(hd:depth<=100)(hr:Jk (plain rs) depth=M em):
 (H K 80 #[U (M ⟨lp,0,O⟩),I V (depth:Int)] w fun e w'=> ∃dp tb:Nat,e=G (.tuple #[U (M ⟨dp,0,O⟩),.nilIface])/\aV w' dp tb depth em.2/\w'.heap[lp]?=M (jM db em.1)/\w.heap.size<=dp/\w.heap.size<=tb/\Og w w' lp)/\eD em.2 depth/\em.2.2.2.2.1<=1000000000/\0<=em.1/\em.1<=999:=by
 unfold Jk at hr;split at hr
 ·rename_i hz;simp only[AaU]at hr;subst hr;refine⟨?_,Uw depth,by simp,by simp,by simp⟩;refine(Ux hL hD hO hd hz).mono ?_;rintro e w' ⟨dp,tb,rfl,h1,h2,h3,h4⟩;exact⟨dp,tb,rfl,h1,(h4.block _ (aM hL)).trans hL,h2,h3,(Og.refl w lp).aN h4⟩
 ·rename_i hz;cases hc:yM (aO (plain rs) 2).data.toList ((aO (plain rs) 1).size:Int)with
  |none=>rw[hc]at hr;cases hr
  |some q=>
   obtain⟨AA,m⟩:=q;rw[hc]at hr;simp only[AaU]at hr;subst hr;have h2:=gD hO.inv 1;have h3:=hO.cK.kI;obtain⟨he,Ef,tX,-⟩:=Uv hc (by omega) depth;exact⟨DI hL hD hO hG hd hz hc,Ef,tX,by simp only;omega,by simp only;omega⟩
structure OpnD (w w':F)(ps:Nat->Addr)(lp dp tb db depth:Nat)(fv:Y)(rs:List FR)(ep:Int)(m:dD)(r:Int×Sc×List bC):Prop where
 vF:w'.heap[lp]?=M (jM db ep)
 dr:aV w' dp tb depth m
 gl:Gl w' ps
 dsk:∃dV dP,aU w' db r.2.1 dV dP/\plain dP=r.2.2/\Dk w w' (DX db fv rs) (DX db dV dP)
 new:w.heap.size<=lp/\w.heap.size<=dp/\w.heap.size<=tb
theorem KT (hD:aU w db s fv rs)(hO:pJ 1000 s (plain rs))(hG:Gl w ps)(hr:Jk (plain rs) depth=O):
 H K 48 #[U (M ⟨db,0,O⟩),I V (depth:Int)] w fun e w'=> ∃v,e=G (.tuple #[U O,U O,v])/\kZ w' ps 2 v 11/\aL w w':=by
 have hz:(aO (plain rs) 2).size≠0:=fun e=>by unfold Jk at hr;rw[Aad e]at hr;cases hr
 have hc:yM (aO (plain rs) 2).data.toList ((aO (plain rs) 1).size:Int)=O:=by
  unfold Jk at hr;rw[Aaa hz]at hr;cases hc:yM (aO (plain rs) 2).data.toList ((aO (plain rs) 1).size:Int)with
  |none=>rfl
  |some q=>rw[hc]at hr;cases hr
 have ga:=(aL.refl w).alloc (C #[U (M ⟨db,0,O⟩),I V 0] 140);have VK:(w.alloc (C #[U (M ⟨db,0,O⟩),I V 0] 140)).heap[w.heap.size]?=M (jM db 0):=Aaf w _
 have HR:Hid (H K 80 #[U (M ⟨w.heap.size,0,O⟩),I V (depth:Int)] (w.alloc (C #[U (M ⟨db,0,O⟩),I V 0] 140)) fun e w'=> ∃t b,e=G (.tuple #[U O,.iface t (U (M b))])/\kZ w' ps 1 (.iface t (U (M b))) 11/\aL w w'):=(KS (depth:=depth) VK (hD.aN ga) hO (hG.aN ga) hz hc).mono (by
  rintro e w' ⟨t,b,rfl,h1,h2⟩;exact⟨t,b,rfl,h1,ga.then h2⟩)
 have HA:Hid (∀W t b,kZ W ps 1 (.iface t (U (M b))) 11->H K 81 #[.string ⟨#[111,112,101,110]⟩,.iface t (U (M b))] W fun e w'=> ∃v',e=G v'/\kZ w' ps 2 v' 11/\aL W w'):=fun W t b h=>Hr h
 clear hD hO hG hr hz hc ga VK;go_enter func48,ntmps48;go_wp2_with (first|(go_at_call 80;refine HR.out.mono ?_;rintro e w3 ⟨t3,b3,rfl,he3,oK⟩)|(go_at_call 81;refine(HA.out _ _ _ he3).mono ?_;rintro e w4 ⟨v4,rfl,he4,nO⟩));refine Aan (v:= .tuple #[U O,U O,v4]) (by simp[results,results48,go_sem]) rfl ?_;exact⟨v4,rfl,he4,oK.then nO⟩
def OpnA (w w':F)(ps:Nat->Addr)(db depth:Nat)(fv:Y)(rs:List FR)(ep:Int)(m:dD)(r:Int×Sc×List bC)(e:Ending):Prop:=
 (r.1=0->∃lp dp tb:Nat,e=G (.tuple #[U (M ⟨lp,0,O⟩),U (M ⟨dp,0,O⟩),.nilIface])/\OpnD w w' ps lp dp tb db depth fv rs ep m r)/\(r.1≠0->∃v,e=G (.tuple #[U O,U O,v])/\oC w w' ps db fv rs 2 v r)
theorem X_ {em:Int×dD}(hD:aU w db s fv rs)(hO:pJ 1000 s (plain rs))(hG:Gl w ps)(hd:depth<=100)(hr:Jk (plain rs) depth=M em):
 H K 48 #[U (M ⟨db,0,O⟩),I V (depth:Int)] w fun e w'=>OpnA w w' ps db depth fv rs em.1 (uH (plain rs) depth em).1 (Eg s (plain rs) depth em) e:=by
 have ga:=(aL.refl w).alloc (C #[U (M ⟨db,0,O⟩),I V 0] 140);have VK:(w.alloc (C #[U (M ⟨db,0,O⟩),I V 0] 140)).heap[w.heap.size]?=M (jM db 0):=Aaf w _;obtain⟨hR,Ef,tX,yD,Hu⟩:=DJ VK (hD.aN ga) hO (hG.aN ga) hd hr;obtain⟨w1,iY⟩:∃w1,w1=w.alloc (C #[U (M ⟨db,0,O⟩),I V 0] 140):=⟨_,rfl⟩;rw[<-iY]at ga VK hR;have sV:=ga.le
 have HALL:Hid (∀w3 dp tb,aV w3 dp tb depth em.2->w3.heap[w.heap.size]?=M (jM db em.1)->w1.heap.size<=dp->w1.heap.size<=tb->Og w1 w3 w.heap.size->H K 82 #[U (M ⟨w.heap.size,0,O⟩),U (M ⟨dp,0,O⟩)] w3 fun e w'=> ∃(R:Nat),e=G (I V (R:Int))/\(Hid (R=22*(uH (plain rs) depth em).2)/\aV w' dp tb depth (uH (plain rs) depth em).1/\eD (uH (plain rs) depth em).1 depth)/\aU w' db s fv rs/\w'.heap[w.heap.size]?=M (jM db em.1)/\Gl w' ps/\aL w w'):=fun w3 dp tb h1 h2 h3 h4 h5=>by
  have hD3:aU w3 db s fv rs:=(hD.aN ga).fr h5.1 (fun b hb e=>by
   obtain⟨aS,t,Rf,q1,q2⟩:=(hD.aN ga).ty hb;rcases q2 with rfl|rfl|rfl|rfl<;>exact aZ q1 VK (by decide) e)
  have hG3:Gl w3 ps:=(hG.aN ga).fr h5.1 (fun b aS hb=>aZ hb VK (by decide)) (fun b aS t g hb=>aZ hb VK (g.ne (by decide))) (fun b aS hb=>aZ hb VK (by decide)) (fun b aS hb=>aZ hb VK (by decide));have g3:aL w w3:=Ee ga h5 (Aak _);refine(DF h2 h1 Ef hD3 hO hG3 yD (by omega) tX hd).mono ?_;rintro e w' ⟨k,R,rfl,hRk,m',Pm,q1,q2,-,q4⟩;obtain⟨z1,z2,z3,-⟩:=Dk.vF (lp:=w.heap.size) (db:=db) (ep:=em.1) h1 q4;have e1:uH (plain rs) depth em=(m',k):=Pm;rw[e1];exact⟨R,rfl,⟨hRk,q1,q2⟩,z1 hD3,z2 h2,z3 hG3,UX g3 q4 (by rintro b (rfl|rfl)<;>omega)⟩
 have HTD:Hid (∀w4 dp tb (b:Nat),aV w4 dp tb depth (uH (plain rs) depth em).1->aU w4 db s fv rs->w4.heap[w.heap.size]?=M (jM db em.1)->Gl w4 ps->aL w w4->w1.heap.size<=dp->w1.heap.size<=tb->(b:Int)=(uH (plain rs) depth em).1.2.2.2.2->∀R:Nat,R=22*(uH (plain rs) depth em).2->H K 83 #[U (M ⟨w.heap.size,0,O⟩),I V (R:Int),I V (b:Int)] w4 fun e w'=> ∃v,e=G v/\kZ w' ps 1 v (Eg s (plain rs) depth em).1/\OpnD w w' ps w.heap.size dp tb db depth fv rs em.1 (uH (plain rs) depth em).1 (Eg s (plain rs) depth em)):=fun w4 dp tb b h1 h2 h3 h4 h5 h6 h7 h8 R h9=>by
  refine(tidy_pg (j:=R) (b:=b) h2 h3 h4 hO yD (by omega)).mono ?_;rintro e w' ⟨v,rfl,dV,dP,q1,q2,q3,q4⟩;have e1:qM s (plain rs) em.1 (R:Int) (b:Int)=Eg s (plain rs) depth em:=by unfold Eg;rw[h8,<-h9]
  rw[e1]at q1 q2 q4;exact⟨v,rfl,q4,⟨q3.1.at h3 (h2.other h3 (by decide) (by decide) (by decide) (by decide)),h1.dsk h2 q3,h4.dk h2 q3,⟨dV,dP,q1,q2,(Dk.bX h5).trans q3⟩,⟨Aak _,by omega,by omega⟩⟩⟩
 have HBU:Hid (∀w4 dp tb,aV w4 dp tb depth (uH (plain rs) depth em).1->H K 53 #[U (M ⟨dp,0,O⟩)] w4 fun e w'=>e=G (I V (uH (plain rs) depth em).1.2.2.2.2)/\w'=w4):=fun w4 dp tb h1=>Bg h1;have HAT:Hid (∀W v c,kZ W ps 1 v c->H K 81 #[.string ⟨#[111,112,101,110]⟩,v] W fun e w'=> ∃v',e=G v'/\kZ w' ps 2 v' c/\aL W w'):=fun W v c h=>Hr h
 have HRS:Hid (H K 80 #[U (M ⟨w.heap.size,0,O⟩),I V (depth:Int)] w1 fun e w'=> ∃dp tb:Nat,e=G (.tuple #[U (M ⟨dp,0,O⟩),.nilIface])/\aV w' dp tb depth em.2/\w'.heap[w.heap.size]?=M (jM db em.1)/\w1.heap.size<=dp/\w1.heap.size<=tb/\Og w1 w' w.heap.size):=hR;clear hR hD hO hG VK ga hr Ef;generalize Eg s (plain rs) depth em=T at*;generalize uH (plain rs) depth em=aK at*;go_enter func48,ntmps48;go_upto_region 2 with fail;rw[<-iY];clear iY
 go_upto_region 6 with(first
  |(go_at_call 80;refine HRS.out.mono ?_;rintro e w3 ⟨dp,tb,rfl,d1,d2,d3,d4,d5⟩;have hra:=HALL.out w3 dp tb d1 d2 d3 d4 d5)
  |(go_at_call 82;refine hra.mono ?_;rintro e w4 ⟨R,rfl,⟨r1,r2,r3⟩,r4,r5,r6,r7⟩))
 have hbu:=HBU.out w4 dp tb r2;obtain⟨b,hb⟩:=AbA r3.Dt;have htd:=HTD.out w4 dp tb b r2 r4 r5 r6 r7 d3 d4 hb.symm R r1.out;rw[hb]at hbu;clear HALL HTD HBU HRS hra d1 d2 d5 r2 r3 r4 r5 r6 r7 hb r1
 go_upto_region 7 with(first
  |(go_at_call 53;refine hbu.mono ?_;rintro e w4 ⟨rfl,rfl⟩)
  |(go_at_call 83;refine htd.mono ?_;rintro e w5 ⟨v5,rfl,e5,o5⟩))
 by_cases hT:T.1=0
 ·have HV:Hid (v5= .nilIface):=by rw[hT]at e5;exact e5.no
  obtain rfl:=HV.out;have HT:Hid (T.1=0):=hT;clear hT htd hbu;go_wp2_with fail;refine Aan (v:= .tuple #[U (M ⟨w.heap.size,0,O⟩),U (M ⟨dp,0,O⟩),.nilIface]) (by simp[results,results48,go_sem]) rfl ?_;exact⟨fun _=>⟨_,dp,tb,rfl,o5⟩,fun h=>absurd HT.out h⟩
 ·obtain⟨t5,b5,rfl⟩:=e5.yes hT;have Ri:=HAT.out w5 _ _ e5;have HT:Hid (T.1≠0):=hT;clear hT htd hbu e5;go_wp2_with (go_at_call 81;refine Ri.mono ?_;rintro e w6 ⟨v6,rfl,e6,g6⟩);refine Aan (v:= .tuple #[U O,U O,v6]) (by simp[results,results48,go_sem]) rfl ?_;refine⟨fun h=>absurd h HT.out,fun _=>⟨v6,rfl,?_⟩⟩;obtain⟨dV,dP,q1,q2,q3⟩:=o5.dsk;exact⟨dV,dP,q1.aN g6,q2,q3.Ht g6,e6⟩
def wC (w w':F)(v v':Y):Prop:=(Fr w w' (fun b=>v.ownBlock=M b)/\(w'.os=w.os/\w'.tape=w.tape/\w'.output=w.output))/\∀b,v'.ownBlock=M b->v.ownBlock=M b\/w.heap.size<=b
theorem wC.refl (w:F)(v:Y):wC w w v v:=⟨⟨Fr.refl _ _,rfl,rfl,rfl⟩,fun _ h=>Aac h⟩
theorem wC.trans {v1 v2:Y}(h1:wC a b v v1)(h2:wC b c v1 v2):wC a c v v2:=by
 obtain⟨⟨⟨a1,a2⟩,a3,a4,a5⟩,a6⟩:=h1;obtain⟨⟨⟨b1,b2⟩,b3,b4,b5⟩,b6⟩:=h2;refine⟨⟨⟨Aam a1 b1,fun k hk hn=>?_⟩,b3.trans a3,b4.trans a4,b5.trans a5⟩,fun k hk=>?_⟩
 ·rw[b2 k (AaC hk a1) (fun e=>?_),a2 k hk hn];rcases a6 k e with h|h
  ·exact hn h
  ·omega
 ·rcases b6 k hk with h|h
  ·exact a6 k h
  ·exact Aab (Aam a1 h)
theorem wC.aN {v1:Y}(h1:wC a b v v1)(hg:aL b c):wC a c v v1:=h1.trans ⟨⟨Fr.cZ hg _,hg.os,hg.tape,hg.output⟩,fun _ h=>Aac h⟩
theorem wC.at {v':Y}{b:Nat}{o:Obj}(h:wC w w' v v')(hb:w.heap[b]?=M o)(hn:¬v.ownBlock=M b):w'.heap[b]?=M o:=h.1.1.at hb hn
theorem wC.below {v':Y}(h:wC w w' v v')(ho:bI w B v l)(hB:B<=w.heap.size):Below B w w':=
 ⟨h.1.2.1,h.1.2.2.1,h.1.2.2.2,h.1.1.1,fun k hk=>h.1.1.2 k (by omega) (fun e=>by have:=(bI.lt ho k e).1;omega)⟩
theorem kV (h1:Below B a b)(h2:Below B b c):Below B a c:=⟨h2.os.trans h1.os,h2.tape.trans h1.tape,h2.output.trans h1.output,Aam h1.size h2.size,fun k hk=>(h2.block k hk).trans (h1.block k hk)⟩
def KU (p:Int×Int):List UInt8:=fJ p.1++fJ p.2
def lI (l:List (Int×Int)):List UInt8:=fJ (l.length:Int)++l.flatMap KU
def NP (e:Ed):List UInt8:=fJ e.1++lI e.2.1++lI e.2.2
def oD (l:List Ed):List UInt8:=fJ (l.length:Int)++l.flatMap NP
theorem vM (l:List (Int×Int)):(lI l).length=4+8*l.length:=by
 unfold lI;rw[Aah,dL];congr 1
 induction l with
 |nil=>rfl
 |cons p l ih=>rw[AdK,Aah,ih];simp[KU,dL];omega
theorem DK {n:Int}(h:bI w B v l)(hB:B<=w.heap.size)(h0:0<=n)(h1:n<4294967296)(hl:l.length<=900000000):
 H K 144 #[v,I V n] w fun e w'=> ∃v',e=G v'/\bI w' B v' (l++fJ n)/\wC w w' v v':=by
 have HA:=Fa h hB h0 h1 hl;obtain⟨ao,cap,ev,-⟩:=bI.form h;subst ev;have zx:IntKind.u32.wrap n=n:=by rw[AcV];omega
 clear h;go_enter func144,ntmps144;go_wp2_with (go_at_call 214;refine HA.mono ?_;rintro e w5 ⟨v5,rfl,Wy,eO,Ab⟩);go_ret;exact⟨v5,rfl,Wy,⟨⟨Fr.kC eO,eO.os,eO.tape,eO.output⟩,fun b hb=>Ab.elim (fun h=>Aac (h ▸ hb)) (fun h=>Aab (h b hb))⟩⟩
theorem QX (B:Nat)(w:F):Below B w w:=⟨rfl,rfl,rfl,Aak _,fun _ _=>rfl⟩
theorem VL {x:bS}{ps:List (Int×Int)}(h:bI w B v l)(hB:B<=w.heap.size)(hx:∀W,Below B w W->bH W x ps)(hp:∀p∈ps,(0<=p.1/\p.1<4294967296)/\(0<=p.2/\p.2<4294967296))(NJ:ps.length<=100000)(hl:l.length<=500000000):
 H K 145 #[v,x.v] w fun e w'=> ∃v',e=G v'/\bI w' B v' (l++lI ps)/\wC w w' v v':=by
 obtain⟨xo,xn,xc⟩:=x;have hn:xn=ps.length:=(hx w (QX B w)).2.1;subst hn;have HR:Hid (∀W,Below B w W->Da W xo ps):=fun W hW=>(hx W hW).1.1;have HN:Hid (∀W v' (l':List UInt8) n,bI W B v' l'->B<=W.heap.size->0<=n->n<4294967296->l'.length<=900000000->H K 144 #[v',I V n] W fun e w'=> ∃sM,e=G sM/\bI w' B sM (l'++fJ n)/\wC W w' v' sM):=fun W v' l' n h1 h2 h3 h4 h5=>DK h1 h2 h3 h4 h5;have Mg:=HN.out w v l (ps.length:Int) h hB (by omega) (by omega) (by omega);obtain⟨ao,cap,ev,-⟩:=bI.form h;have HV:Hid (bI w B v l):=h;subst ev;simp only[bS.v];clear h hx;generalize hvv:Value.slice ao l.length cap=vv at*;have HVV:Hid (Value.slice ao l.length cap=vv):=hvv;go_enter func145,ntmps145;subst hvv;go_wp2_with (go_at_call 144;refine Mg.mono ?_;rintro e w1 ⟨v1,rfl,Bb,hF1⟩);have HO1:Hid (bI w1 B v1 (l++fJ (ps.length:Int))/\wC w w1 (Value.slice ao l.length cap) v1):=⟨Bb,hF1⟩;clear Bb hF1 Mg HVV
 go_loopw [0,6,13] (fun v _ i wr=> ∃k:Nat,k<=ps.length/\i=I V (k:Int)/\Hid (bI wr B v (l++fJ (ps.length:Int)++(ps.take k).flatMap KU)/\wC w wr (Value.slice ao l.length cap) v)) (fun _ _ i _=>ps.length-(intOf i).toNat)
 case atStart=>exact⟨0,Aap _,rfl,by simpa using HO1.out.1,HO1.out.2⟩
 case round=>
  obtain⟨k,hk,rfl,HO⟩:=hrel;obtain⟨nI,kX,ev,-⟩:=bI.form HO.out.1;have HBL:Hid (Below B w wr):=HO.out.2.below HV.out hB;have jW:B<=wr.heap.size:=Aam hB HBL.out.size;by_cases bP:k<ps.length
  ·obtain⟨p,hp1⟩:∃p,ps[k]?=M p:=⟨_,Aag bP⟩;have ZL:=hp p (Aai hp1)
   have hflen:(l++fJ (ps.length:Int)++(ps.take k).flatMap KU).length=l.length+4+8*k:=by
    have:=vM (ps.take k);unfold lI at this;rw[Aah,dL,Aaw]at this;rw[Aah,Aah,dL];omega
   rcases HR.out wr HBL.out with CV|⟨b,off,rfl,hc⟩
   ·rw[CV]at bP;simp at bP
   ·obtain⟨d1,d2⟩:=hc k bP;have Kc:ps.getD k (0,0)=p:=(by simp[List.getD_eq_getElem?_getD,hp1]);rw[Kc]at d1 d2
    have HNX:Hid ((ps.take (k+1)).flatMap KU=(ps.take k).flatMap KU++(fJ p.1++fJ p.2)):=by
     show _=_;obtain⟨Rh,he⟩:=Aae.1 hp1;rw[Aau Rh,Ada,he];simp[KU]
    have i1:(0:Int)<=(k:Int):=(by omega);have i2:(k:Int)<(ps.length:Int):=(by omega);obtain⟨p1,p2⟩:=p;simp only at d1 d2 HNX ZL;generalize PE:(l++fJ (ps.length:Int)++(ps.take k).flatMap KU)=L at*;have T_:Hid ((l++fJ (ps.length:Int)++(ps.take k).flatMap KU)=L):=PE;clear PE;subst ev;have HFL:Hid (L.length=l.length+4+8*k):=hflen;clear hflen;have HOA:Hid (bI (wr.alloc (C #[I V p1,I V p2] 114)) B (Z nI L.length kX) L):=bI.alloc HO.out.1 _;have Js:=HN.out _ _ L p1 HOA.out (by simp;omega) ZL.1.1 ZL.1.2 (by have:=HFL.out;omega);have HOB:Hid (∀gq,(Value.slice nI L.length kX).ownBlock=M gq->gq<wr.heap.size):=fun gq hgq=>(bI.lt HO.out.1 gq hgq).2;have Ro:Hid (aL wr (wr.alloc (C #[I V p1,I V p2] 114))):=(aL.refl wr).alloc _;have qZ:=Aaf wr (C #[I V p1,I V p2] 114);clear hp1 hc Kc;go_upto_region 5 with fail;generalize (wr.alloc (C #[I V p1,I V p2] 114))=wq at*;have x0:wq.cell? ⟨wr.heap.size,0,O⟩=M (I V p1):=(by simp[World.cell?,qZ]);have jk:Hid (wq.heap[wr.heap.size]?=M (C #[I V p1,I V p2] 114 (0,0))):=qZ
    have Wi:Hid (∀w5 v5,bI w5 B v5 (L++fJ p1)->wC wq w5 (Z nI L.length kX) v5->w5.cell? ⟨wr.heap.size,1,O⟩=M (I V p2)/\H K 144 #[v5,I V p2] w5 fun e w'=> ∃sM,e=G sM/\bI w' B sM (L++fJ p1++fJ p2)/\wC w5 w' v5 sM):=fun w5 v5 h1 h2=>by
     have nJ:=h2.at jk.out (fun e=>by have:=HOB.out _ e;omega);refine⟨by simp[World.cell?,nJ],HN.out w5 v5 _ p2 h1 ?_ ZL.2.1 ZL.2.2 (by rw[Aah,dL];have:=HFL.out;omega)⟩;have:=h2.1.1.1;have:=Ro.out.le;omega
    clear qZ d1 d2 HN;go_upto_region 6 with(go_at_call 144;refine Js.mono ?_;rintro e w5 ⟨v5,rfl,Wy,NK⟩);obtain⟨y1,Ox⟩:=Wi.out w5 v5 Wy NK;clear Js x0 Wi;go_wp2_with (go_at_call 144;refine Ox.mono ?_;rintro e w6 ⟨v6,rfl,hO6,hF6⟩);have NQ:Hid (bI w6 B v6 (L++fJ p1++fJ p2)/\wC w w6 (Value.slice ao l.length cap) v6):=⟨hO6,((HO.out.2.aN Ro.out).trans NK).trans hF6⟩;clear hO6 hF6 NK Wy Ox;go_roundw
    case rel=>
     refine⟨k+1,by omega,by go_num,?_,NQ.out.2⟩;rw[HNX.out,<-AaJ,<-AaJ,T_.out];exact NQ.out.1
    case measure=>simp[intOf];omega
  ·have e1:ps.take k=ps:=Aaq (by omega);subst ev
   have NQ:Hid (bI wr B (Z nI (l++fJ (ps.length:Int)++(ps.take k).flatMap KU).length kX) (l++lI ps)/\wC w wr (Value.slice ao l.length cap) (Z nI (l++fJ (ps.length:Int)++(ps.take k).flatMap KU).length kX)):=by
    have:=HO.out;refine⟨?_,this.2⟩;have h1:=this.1;have e2:l++fJ (ps.length:Int)++(ps.take k).flatMap KU=l++lI ps:=(by rw[e1];simp[lI]);rw[e2]at h1 ⊢;exact h1
   clear HO;generalize (l++fJ (ps.length:Int)++(ps.take k).flatMap KU).length=LL at*;go_wp2_with fail;go_ret;exact⟨_,rfl,NQ.out.1,NQ.out.2⟩
end Go.Proofs.YtfplgfodoiiobaaGreatDoor
