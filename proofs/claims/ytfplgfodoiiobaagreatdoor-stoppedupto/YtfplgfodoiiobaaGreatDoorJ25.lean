/- LgO, LgP, LgQ (joined). -/
import Derived.Test.YtfplgfodoiiobaaGreatDoorJ24
open Option renaming none→O,some→M
open Go.Value renaming int→I,slice→Z,pointer→U
open Go.IntKind renaming i64→V
open Go.Obj renaming cells→C
open Go.Ending renaming returned→G
open Go renaming World→F,Value→Y,Calls→H
open Go.Proofs.Tryz renaming prog→K
namespace Go.Proofs.YtfplgfodoiiobaaGreatDoor
set_option maxHeartbeats 1000000
set_option maxRecDepth 100000
open Go.RowKit
variable {w w' a b c:F}{db depth lp B:Nat}{s:Sc}{fv v:Y}{rs:List FR}{ps:Nat->Addr}{ep:Int}{l:List UInt8}
def Gs (fs:List bF)(depth:Nat):Option (Int×bT):=if (aL fs 2).size=0 then M (0,([],[],[],0,0))else
 match vU (aL fs 2).data.toList ((aL fs 1).size:Int)with
 |none=>O
 |some q=>M (q.1,Ms q.2 depth)
theorem Qs (depth:Nat):dM ([],[],[],0,0) depth:=
 { zL:=Int.le_refl _,uD:=by simp,text:=oJ _,long:=by simp[sz],few:=by simp,lK:=fun e he=>by simp at he,nJ:=fun e he=>by simp at he,Da:=by simp,Iy:=by simp,Ub:=rfl,EP:=rfl,done:=Int.le_refl _ }
theorem UJ (h:w.heap[lp]?=M (iA db ep))(Xg:Int):(w.setCell ⟨lp,1,O⟩ (I V Xg)).heap[lp]?=M (iA db Xg):=by
 rw[heap_setCell_same w lp 1 _ _ _ h];rfl
theorem Qt (hL:w.heap[lp]?=M (iA db ep))(hD:aP w db s fv rs)(hO:mZ 1000 s (plain rs))(hd:depth<=100)(hz:(aL (plain rs) 2).size=0):
 H K 80 #[U (M ⟨lp,0,O⟩),I V (depth:Int)] w fun e w'=> ∃dp tb:Nat,e=G (.tuple #[U (M ⟨dp,0,O⟩),.nilIface])/\aQ w' dp tb depth ([],[],[],0,0)/\w.heap.size<=dp/\w.heap.size<=tb/\aJ w w':=by
 have hl:rs.length<=1000:=by have:=hO.len;rw[bE]at this;exact this
 have hB:=uG (n:=2) hD hO.inv.sort.1 (by omega);obtain⟨ao,cap,ev,-⟩:=uO hD hO.inv.sort.1 2;rw[ev,hz]at hB;obtain⟨c0,-⟩:=fJ hL
 have HR:Hid (∀W,H K 122 #[I V (depth:Int),.agg #[I V 0,I V 0,Z O 0 0,Z O 0 0,Z O 0 0]] W fun e w'=> ∃dp tb,e=G (U (M ⟨dp,0,O⟩))/\aQ w' dp tb depth ([],[],[],0,0)/\W.heap.size<=dp/\W.heap.size<=tb/\aJ W w'):=fun W=>by
  have:=Qf (w:=W) (depth:=depth) (dn:=0) (bf:=0) (t:=(O,0,0)) (u:=(O,0,0)) (r:=(O,0,0)) (l:=[]) (ul:=[]) (rl:=[]) (rZ W) (dG.nil W) (dG.nil W) (by simp) (by simp) hd rP (by simp) (fun q hq=>by simp at hq);simpa[GQ,gN.v]using this
 clear hL hD hO ev;go_enter Tryz.func80,Tryz.ntmps80
 go_wp2_with (first|(go_at_call 119;refine hB.mono ?_;rintro e w ⟨rfl,rfl⟩)|(go_at_call 122;refine(HR.out _).mono ?_;rintro e w4 ⟨dp,tb,rfl,h1,h2,h3,h4⟩))
 refine bodyPost_ret (v:= .tuple #[U (M ⟨dp,0,O⟩),.nilIface]) (by simp[results,Tryz.results80,go_sem]) rfl ?_;exact⟨dp,tb,rfl,h1,h2,h3,h4⟩
theorem IU (hL:w.heap[lp]?=M (iA db ep))(hD:aP w db s fv rs)(hO:mZ 1000 s (plain rs))(hG:Gl w ps)(hz:(aL (plain rs) 2).size≠0)(hr:vU (aL (plain rs) 2).data.toList ((aL (plain rs) 1).size:Int)=O):
 H K 80 #[U (M ⟨lp,0,O⟩),I V (depth:Int)] w fun e w'=> ∃t b,e=G (.tuple #[U O,.iface t (U (M b))])/\jG w' ps 1 (.iface t (U (M b))) 11/\aJ w w':=by
 have hl:rs.length<=1000:=by have:=hO.len;rw[bE]at this;exact this
 have gQ:(aL (plain rs) 2).size<=1000000/\(aL (plain rs) 1).size<=1000000:=by
  have h1:=kI hO.inv 2;have h2:=kI hO.inv 1;have h3:=hO.bK.oK;exact⟨by omega,by omega⟩
 have hB:=uG (n:=2) hD hO.inv.sort.1 (by omega);have hN:=Aw (n:=1) hD hO.inv.sort.1 (by omega);obtain⟨ao,cap,ev,gX,Cm⟩:=uO hD hO.inv.sort.1 2;rw[ev]at hB;obtain⟨c0,-⟩:=fJ hL;rcases Cm with⟨-,h0,-⟩|⟨b,off,rfl,Mj,Di⟩
 ·exact absurd h0 hz
 ·have hC:=Xc (cap:=cap) (buf:=((aL (plain rs) 1).size:Int)) Mj Di (by simpa using gX) (by have:=gQ.1;simp;omega) hG (by omega) (by omega);rw[hr]at hC;have hlen:(aL (plain rs) 2).data.toList.length=(aL (plain rs) 2).size:=by simp
  rw[hlen]at hC
  have HC:Hid (H K 123 #[Z (M ⟨b,off,O⟩) (aL (plain rs) 2).size cap,I V ((aL (plain rs) 1).size:Int)] w fun e w'=> ∃t b0,e=G (.tuple #[I V 0,.agg #[I V 0,I V 0,Z O 0 0,Z O 0 0,Z O 0 0],.iface t (U (M b0))])/\jG w' ps 1 (.iface t (U (M b0))) 11/\aJ w w'):=hC.mono (by
   rintro e w' ⟨⟨t,b0,rfl,he⟩,hg⟩;exact⟨t,b0,rfl,he,hg⟩)
  have hz':(((aL (plain rs) 2).size:Int)==0)=false:=by rw[beq_eq_false_iff_ne];omega
  generalize (aL (plain rs) 2).size=z2 at*;generalize (aL (plain rs) 1).size=z1 at*;clear hL hD hO hG Mj Di hC ev hr hlen;go_enter Tryz.func80,Tryz.ntmps80
  go_wp2_with (first|(go_at_call 119;refine hB.mono ?_;rintro e w ⟨rfl,rfl⟩)|(go_at_call 124;refine hN.mono ?_;rintro e w ⟨rfl,rfl⟩)|(go_at_call 123;refine HC.out.mono ?_;rintro e w4 ⟨t4,b4,rfl,he4,mO⟩))
  refine bodyPost_ret (v:= .tuple #[U O,.iface t4 (U (M b4))]) (by simp[results,Tryz.results80,go_sem]) rfl ?_;exact⟨t4,b4,rfl,he4.aM ((aJ.refl _).alloc _),mO.alloc _⟩
theorem Zt {Xg:Int}{m:bT}(hL:w.heap[lp]?=M (iA db ep))(hD:aP w db s fv rs)(hO:mZ 1000 s (plain rs))(hG:Gl w ps)(hd:depth<=100)(hz:(aL (plain rs) 2).size≠0)(hr:vU (aL (plain rs) 2).data.toList ((aL (plain rs) 1).size:Int)=M (Xg,m)):
 H K 80 #[U (M ⟨lp,0,O⟩),I V (depth:Int)] w fun e w'=> ∃dp tb:Nat,e=G (.tuple #[U (M ⟨dp,0,O⟩),.nilIface])/\aQ w' dp tb depth (Ms m depth)/\w'.heap[lp]?=M (iA db Xg)/\w.heap.size<=dp/\w.heap.size<=tb/\Og w w' lp:=by
 have hl:rs.length<=1000:=by have:=hO.len;rw[bE]at this;exact this
 have gQ:(aL (plain rs) 2).size<=1000000/\(aL (plain rs) 1).size<=1000000:=by
  have h1:=kI hO.inv 2;have h2:=kI hO.inv 1;have h3:=hO.bK.oK;exact⟨by omega,by omega⟩
 obtain⟨-,IV,-,hbf,Uk,TS,Ga⟩:=Qr hr (by omega) depth;have kR:=IV.Tg;have Jy:=IV.few;have h9:∀q∈m.1,q.1<=1000000000:=fun q hq=>by have:=Ga q hq;omega
 have hB:=uG (n:=2) hD hO.inv.sort.1 (by omega);have hN:=Aw (n:=1) hD hO.inv.sort.1 (by omega);obtain⟨ao,cap,ev,gX,Cm⟩:=uO hD hO.inv.sort.1 2;rw[ev]at hB;obtain⟨c0,-⟩:=fJ hL;rcases Cm with⟨-,h0,-⟩|⟨b,off,rfl,Mj,Di⟩
 ·exact absurd h0 hz
 ·have hC:=Xc (cap:=cap) (buf:=((aL (plain rs) 1).size:Int)) Mj Di (by simpa using gX) (by have:=gQ.1;simp;omega) hG (by omega) (by omega);rw[hr]at hC;have hlen:(aL (plain rs) 2).data.toList.length=(aL (plain rs) 2).size:=by simp
  rw[hlen]at hC
  have HC:Hid (H K 123 #[Z (M ⟨b,off,O⟩) (aL (plain rs) 2).size cap,I V ((aL (plain rs) 1).size:Int)] w fun e w'=> ∃(t1:Option Addr) (t2 t3:Nat) (u1:Option Addr) (u2 u3:Nat) (r1:Option Addr) (r2 r3:Nat),e=G (.tuple #[I V Xg,.agg #[I V m.2.2.2.1,I V m.2.2.2.2,Z t1 t2 t3,Z u1 u2 u3,Z r1 r2 r3],.nilIface])/\(bI w' (t1,t2,t3) m.1/\dG w' (u1,u2,u3) m.2.1/\dG w' (r1,r2,r3) m.2.2.1)/\aJ w w'):=hC.mono (by
   rintro e w' ⟨⟨⟨t1,t2,t3⟩,⟨u1,u2,u3⟩,⟨r1,r2,r3⟩,rfl,q1,q2,q3⟩,hg⟩;exact⟨t1,t2,t3,u1,u2,u3,r1,r2,r3,rfl,⟨q1,q2,q3⟩,hg⟩)
  have HRS:Hid (∀W t1 t2 t3 u1 u2 u3 r1 r2 r3,bI W (t1,t2,t3) m.1->dG W (u1,u2,u3) m.2.1->dG W (r1,r2,r3) m.2.2.1->H K 122 #[I V (depth:Int),.agg #[I V m.2.2.2.1,I V m.2.2.2.2,Z t1 t2 t3,Z u1 u2 u3,Z r1 r2 r3]] W fun e w'=> ∃dp tb,e=G (U (M ⟨dp,0,O⟩))/\aQ w' dp tb depth (Ms m depth)/\W.heap.size<=dp/\W.heap.size<=tb/\aJ W w'):=fun W t1 t2 t3 u1 u2 u3 r1 r2 r3 q1 q2 q3=>by
   exact Qf (t:=(t1,t2,t3)) (u:=(u1,u2,u3)) (r:=(r1,r2,r3)) q1 q2 q3 (by omega) (by omega) hd kR Jy h9
  have HK:Hid (∀w4 t1 t2 t3 u1 u2 u3 r1 r2 r3,aJ w w4->(bI w4 (t1,t2,t3) m.1/\dG w4 (u1,u2,u3) m.2.1/\dG w4 (r1,r2,r3) m.2.2.1)->(w4.cell? ⟨lp,1,O⟩=M (I V ep)/\w4.frozen? ⟨lp,1,O⟩=false)/\(w4.setCell ⟨lp,1,O⟩ (I V Xg)).heap[lp]?=M (iA db Xg)/\(bI (w4.setCell ⟨lp,1,O⟩ (I V Xg)) (t1,t2,t3) m.1/\dG (w4.setCell ⟨lp,1,O⟩ (I V Xg)) (u1,u2,u3) m.2.1/\dG (w4.setCell ⟨lp,1,O⟩ (I V Xg)) (r1,r2,r3) m.2.2.1)/\Og w (w4.setCell ⟨lp,1,O⟩ (I V Xg)) lp):=fun w4 t1 t2 t3 u1 u2 u3 r1 r2 r3 h4 hq=>by
   have hL4:=(h4.block _ (aK hL)).trans hL;have hF:=Fr.set w4 ⟨lp,1,O⟩ (I V Xg);obtain⟨-,k1,kf⟩:=fJ hL4;refine⟨⟨k1,kf 1⟩,UJ hL4 Xg,⟨hq.1.fr hF (fun b aT hb=>aW hb hL4 (by decide)),hq.2.1.fr hF (fun b aT hb=>aW hb hL4 (by decide)) (fun b aT hb=>aW hb hL4 (by decide)),hq.2.2.fr hF (fun b aT hb=>aW hb hL4 (by decide)) (fun b aT hb=>aW hb hL4 (by decide))⟩,((Og.refl w lp).aM h4).set⟩
  have HLP:Hid (lp<w.heap.size):=aK hL;have hz':(((aL (plain rs) 2).size:Int)==0)=false:=by rw[beq_eq_false_iff_ne];omega
  generalize (aL (plain rs) 2).size=z2 at*;generalize (aL (plain rs) 1).size=z1 at*;clear hL hD hO hG Mj Di hC ev hr hlen IV Ga h9 kR Jy hbf Uk TS;go_enter Tryz.func80,Tryz.ntmps80
  go_upto_region 7 with(first|(go_at_call 119;refine hB.mono ?_;rintro e w ⟨rfl,rfl⟩)|(go_at_call 124;refine hN.mono ?_;rintro e w ⟨rfl,rfl⟩)|(go_at_call 123;refine HC.out.mono ?_;rintro e w4 ⟨t1,t2,t3,u1,u2,u3,r1,r2,r3,rfl,YB,mO⟩))
  have ga:=(aJ.refl w4).alloc (C #[I V m.2.2.2.1,I V m.2.2.2.2,Z t1 t2 t3,Z u1 u2 u3,Z r1 r2 r3] 105);have Ba:=heap_alloc_new w4 (C #[I V m.2.2.2.1,I V m.2.2.2.2,Z t1 t2 t3,Z u1 u2 u3,Z r1 r2 r3] 105);obtain⟨⟨k1,kf⟩,k2,k3,k4⟩:=HK.out _ t1 t2 t3 u1 u2 u3 r1 r2 r3 (mO.then ga) ⟨YB.1.aM ga,YB.2.1.aM ga,YB.2.2.aM ga⟩;have XG:Hid (w.heap.size<=w4.heap.size):=mO.le;generalize (w4.alloc (C #[I V m.2.2.2.1,I V m.2.2.2.2,Z t1 t2 t3,Z u1 u2 u3,Z r1 r2 r3] 105))=w5 at*;have HLE5:Hid (w.heap.size<=w5.heap.size):=Nat.le_trans XG.out ga.le;have HB5:Hid (w5.heap[w4.heap.size]?=_):=Ba;clear Ba ga YB mO HK c0
  go_upto_region 8 with fail
  have hne:w4.heap.size≠lp:=by have:=HLP.out;have:=XG.out;omega
  obtain⟨⟨y0,y1,y2,y3,y4⟩,-⟩:=oP ((Fr.set w5 ⟨lp,1,O⟩ (I V Xg)).at HB5.out hne);have HK2:Hid (_=M (iA db Xg)):=k2;have HK4:Hid (Og w _ lp):=k4;have hrs:=HRS.out _ t1 t2 t3 u1 u2 u3 r1 r2 r3 k3.1 k3.2.1 k3.2.2;have HSZ:Hid (w5.heap.size<=(w5.setCell ⟨lp,1,O⟩ (I V Xg)).heap.size):=(Fr.set w5 ⟨lp,1,O⟩ (I V Xg)).1;clear k1 kf k2 k3 k4 hne;generalize (w5.setCell ⟨lp,1,O⟩ (I V Xg))=w6 at*
  go_wp2_with (go_at_call 122;refine hrs.mono ?_;rintro e w7 ⟨dp,tb,rfl,h1,h2,h3,h4⟩)
  refine bodyPost_ret (v:= .tuple #[U (M ⟨dp,0,O⟩),.nilIface]) (by simp[results,Tryz.results80,go_sem]) rfl ?_;have h5:=HSZ.out;have h6:=HLE5.out;exact⟨dp,tb,rfl,h1,(h4.block _ (aK HK2.out)).trans HK2.out,by omega,by omega,HK4.out.aM h4⟩
theorem aQ.dsk {dp tb:Nat}{m:bT}{X':Nat->Prop}(h:aQ w dp tb depth m)(hD:aP w db s fv rs)(hk:Dk w w' (DX db fv rs) X'):aQ w' dp tb depth m:=by
 obtain⟨u,r,h1,h2,h3,h4⟩:=h;obtain⟨c,hc⟩:=h2.ty;refine⟨u,r,hk.1.at h1 (hD.other h1 (by decide) (by decide) (by decide) (by decide)),h2.fr hk.1 (hD.other hc (by decide) (by decide) (by decide) (by decide)) (fun b la ra p h l hb=>hD.other hb (by decide) (by decide) (by decide) (by decide)),h3.fr hk.1 (fun b aT hb=>hD.other hb (by decide) (by decide) (by decide) (by decide)) (fun b aT hb=>hD.other hb (by decide) (by decide) (by decide) (by decide)),h4.fr hk.1 (fun b aT hb=>hD.other hb (by decide) (by decide) (by decide) (by decide)) (fun b aT hb=>hD.other hb (by decide) (by decide) (by decide) (by decide))⟩
def sG (fs:List bF)(depth:Nat)(em:Int×bT):bT×Nat:=wO ((aL fs 1).size:Int) depth ((aL fs (10+em.1)).size / 22+1) em.2 (aL fs (10+em.1)).data.toList
def Bt (s:Sc)(fs:List bF)(depth:Nat)(em:Int×bT):Int×Sc×List bF:=oO s fs em.1 ((22*(sG fs depth em).2:Nat):Int) (sG fs depth em).1.2.2.2.2
theorem Zu {em:Int×bT}(hL:w.heap[lp]?=M (iA db 0))(hD:aP w db s fv rs)(hO:mZ 1000 s (plain rs))(hG:Gl w ps)(hd:depth<=100)(hr:Gs (plain rs) depth=M em):
 (H K 80 #[U (M ⟨lp,0,O⟩),I V (depth:Int)] w fun e w'=> ∃dp tb:Nat,e=G (.tuple #[U (M ⟨dp,0,O⟩),.nilIface])/\aQ w' dp tb depth em.2/\w'.heap[lp]?=M (iA db em.1)/\w.heap.size<=dp/\w.heap.size<=tb/\Og w w' lp)/\dM em.2 depth/\em.2.2.2.2.1<=1000000000/\0<=em.1/\em.1<=999:=by
 unfold Gs at hr;split at hr
 ·rename_i hz;simp only[Option.some.injEq]at hr;subst hr;refine⟨?_,Qs depth,by simp,by simp,by simp⟩;refine(Qt hL hD hO hd hz).mono ?_;rintro e w' ⟨dp,tb,rfl,h1,h2,h3,h4⟩;exact⟨dp,tb,rfl,h1,(h4.block _ (aK hL)).trans hL,h2,h3,(Og.refl w lp).aM h4⟩
 ·rename_i hz;cases hc:vU (aL (plain rs) 2).data.toList ((aL (plain rs) 1).size:Int)with
  |none=>rw[hc]at hr;cases hr
  |some q=>
   obtain⟨Xg,m⟩:=q;rw[hc]at hr;simp only[Option.some.injEq]at hr;subst hr;have h2:=kI hO.inv 1;have h3:=hO.bK.oK;obtain⟨he,IV,rJ,-⟩:=Qr hc (by omega) depth;exact⟨Zt hL hD hO hG hd hz hc,IV,rJ,by simp only;omega,by simp only;omega⟩
structure OpnD (w w':F)(ps:Nat->Addr)(lp dp tb db depth:Nat)(fv:Y)(rs:List FR)(ep:Int)(m:bT)(r:Int×Sc×List bF):Prop where
 rH:w'.heap[lp]?=M (iA db ep)
 dr:aQ w' dp tb depth m
 gl:Gl w' ps
 dsk:∃dN dH,aP w' db r.2.1 dN dH/\plain dH=r.2.2/\Dk w w' (DX db fv rs) (DX db dN dH)
 new:w.heap.size<=lp/\w.heap.size<=dp/\w.heap.size<=tb
theorem IW (hD:aP w db s fv rs)(hO:mZ 1000 s (plain rs))(hG:Gl w ps)(hr:Gs (plain rs) depth=O):
 H K 48 #[U (M ⟨db,0,O⟩),I V (depth:Int)] w fun e w'=> ∃v,e=G (.tuple #[U O,U O,v])/\jG w' ps 2 v 11/\aJ w w':=by
 have hz:(aL (plain rs) 2).size≠0:=fun e=>by unfold Gs at hr;rw[if_pos e]at hr;cases hr
 have hc:vU (aL (plain rs) 2).data.toList ((aL (plain rs) 1).size:Int)=O:=by
  unfold Gs at hr;rw[if_neg hz]at hr;cases hc:vU (aL (plain rs) 2).data.toList ((aL (plain rs) 1).size:Int)with
  |none=>rfl
  |some q=>rw[hc]at hr;cases hr
 have ga:=(aJ.refl w).alloc (C #[U (M ⟨db,0,O⟩),I V 0] 140);have Uo:(w.alloc (C #[U (M ⟨db,0,O⟩),I V 0] 140)).heap[w.heap.size]?=M (iA db 0):=heap_alloc_new w _
 have HR:Hid (H K 80 #[U (M ⟨w.heap.size,0,O⟩),I V (depth:Int)] (w.alloc (C #[U (M ⟨db,0,O⟩),I V 0] 140)) fun e w'=> ∃t b,e=G (.tuple #[U O,.iface t (U (M b))])/\jG w' ps 1 (.iface t (U (M b))) 11/\aJ w w'):=(IU (depth:=depth) Uo (hD.aM ga) hO (hG.aM ga) hz hc).mono (by
  rintro e w' ⟨t,b,rfl,h1,h2⟩;exact⟨t,b,rfl,h1,ga.then h2⟩)
 have HA:Hid (∀W t b,jG W ps 1 (.iface t (U (M b))) 11->H K 81 #[.string ⟨#[111,112,101,110]⟩,.iface t (U (M b))] W fun e w'=> ∃v',e=G v'/\jG w' ps 2 v' 11/\aJ W w'):=fun W t b h=>Ci h
 clear hD hO hG hr hz hc ga Uo;go_enter Tryz.func48,Tryz.ntmps48
 go_wp2_with (first|(go_at_call 80;refine HR.out.mono ?_;rintro e w3 ⟨t3,b3,rfl,he3,jT⟩)|(go_at_call 81;refine(HA.out _ _ _ he3).mono ?_;rintro e w4 ⟨v4,rfl,he4,mO⟩))
 refine bodyPost_ret (v:= .tuple #[U O,U O,v4]) (by simp[results,Tryz.results48,go_sem]) rfl ?_;exact⟨v4,rfl,he4,jT.then mO⟩
def OpnA (w w':F)(ps:Nat->Addr)(db depth:Nat)(fv:Y)(rs:List FR)(ep:Int)(m:bT)(r:Int×Sc×List bF)(e:Ending):Prop:=
 (r.1=0->∃lp dp tb:Nat,e=G (.tuple #[U (M ⟨lp,0,O⟩),U (M ⟨dp,0,O⟩),.nilIface])/\OpnD w w' ps lp dp tb db depth fv rs ep m r)/\(r.1≠0->∃v,e=G (.tuple #[U O,U O,v])/\lQ w w' ps db fv rs 2 v r)
theorem wz {em:Int×bT}(hD:aP w db s fv rs)(hO:mZ 1000 s (plain rs))(hG:Gl w ps)(hd:depth<=100)(hr:Gs (plain rs) depth=M em):
 H K 48 #[U (M ⟨db,0,O⟩),I V (depth:Int)] w fun e w'=>OpnA w w' ps db depth fv rs em.1 (sG (plain rs) depth em).1 (Bt s (plain rs) depth em) e:=by
 have ga:=(aJ.refl w).alloc (C #[U (M ⟨db,0,O⟩),I V 0] 140);have Uo:(w.alloc (C #[U (M ⟨db,0,O⟩),I V 0] 140)).heap[w.heap.size]?=M (iA db 0):=heap_alloc_new w _;obtain⟨hR,IV,rJ,vL,Ck⟩:=Zu Uo (hD.aM ga) hO (hG.aM ga) hd hr;obtain⟨w1,dU⟩:∃w1,w1=w.alloc (C #[U (M ⟨db,0,O⟩),I V 0] 140):=⟨_,rfl⟩;rw[<-dU]at ga Uo hR;have yC:=ga.le
 have HALL:Hid (∀w3 dp tb,aQ w3 dp tb depth em.2->w3.heap[w.heap.size]?=M (iA db em.1)->w1.heap.size<=dp->w1.heap.size<=tb->Og w1 w3 w.heap.size->H K 82 #[U (M ⟨w.heap.size,0,O⟩),U (M ⟨dp,0,O⟩)] w3 fun e w'=> ∃(R:Nat),e=G (I V (R:Int))/\(Hid (R=22*(sG (plain rs) depth em).2)/\aQ w' dp tb depth (sG (plain rs) depth em).1/\dM (sG (plain rs) depth em).1 depth)/\aP w' db s fv rs/\w'.heap[w.heap.size]?=M (iA db em.1)/\Gl w' ps/\aJ w w'):=fun w3 dp tb h1 h2 h3 h4 h5=>by
  have hD3:aP w3 db s fv rs:=(hD.aM ga).fr h5.1 (fun b hb e=>by
   obtain⟨aT,t,Nj,q1,q2⟩:=(hD.aM ga).ty hb;rcases q2 with rfl|rfl|rfl|rfl<;>exact aW q1 Uo (by decide) e)
  have hG3:Gl w3 ps:=(hG.aM ga).fr h5.1 (fun b aT hb=>aW hb Uo (by decide)) (fun b aT t g hb=>aW hb Uo (g.ne (by decide))) (fun b aT hb=>aW hb Uo (by decide)) (fun b aT hb=>aW hb Uo (by decide));have g3:aJ w w3:=zU ga h5 (Nat.le_refl _);refine(Zr h2 h1 IV hD3 hO hG3 vL (by omega) rJ hd).mono ?_;rintro e w' ⟨k,R,rfl,hRk,m',UG,q1,q2,-,q4⟩;obtain⟨z1,z2,z3,-⟩:=Dk.rH (lp:=w.heap.size) (db:=db) (ep:=em.1) h1 q4;have e1:sG (plain rs) depth em=(m',k):=UG;rw[e1];exact⟨R,rfl,⟨hRk,q1,q2⟩,z1 hD3,z2 h2,z3 hG3,TT g3 q4 (by rintro b (rfl|rfl)<;>omega)⟩
 have HTD:Hid (∀w4 dp tb (b:Nat),aQ w4 dp tb depth (sG (plain rs) depth em).1->aP w4 db s fv rs->w4.heap[w.heap.size]?=M (iA db em.1)->Gl w4 ps->aJ w w4->w1.heap.size<=dp->w1.heap.size<=tb->(b:Int)=(sG (plain rs) depth em).1.2.2.2.2->∀R:Nat,R=22*(sG (plain rs) depth em).2->H K 83 #[U (M ⟨w.heap.size,0,O⟩),I V (R:Int),I V (b:Int)] w4 fun e w'=> ∃v,e=G v/\jG w' ps 1 v (Bt s (plain rs) depth em).1/\OpnD w w' ps w.heap.size dp tb db depth fv rs em.1 (sG (plain rs) depth em).1 (Bt s (plain rs) depth em)):=fun w4 dp tb b h1 h2 h3 h4 h5 h6 h7 h8 R h9=>by
  refine(tidy_pg (j:=R) (b:=b) h2 h3 h4 hO vL (by omega)).mono ?_;rintro e w' ⟨v,rfl,dN,dH,q1,q2,q3,q4⟩;have e1:oO s (plain rs) em.1 (R:Int) (b:Int)=Bt s (plain rs) depth em:=by unfold Bt;rw[h8,<-h9]
  rw[e1]at q1 q2 q4;exact⟨v,rfl,q4,⟨q3.1.at h3 (h2.other h3 (by decide) (by decide) (by decide) (by decide)),h1.dsk h2 q3,h4.dk h2 q3,⟨dN,dH,q1,q2,(Dk.bH h5).trans q3⟩,⟨Nat.le_refl _,by omega,by omega⟩⟩⟩
 have HBU:Hid (∀w4 dp tb,aQ w4 dp tb depth (sG (plain rs) depth em).1->H K 53 #[U (M ⟨dp,0,O⟩)] w4 fun e w'=>e=G (I V (sG (plain rs) depth em).1.2.2.2.2)/\w'=w4):=fun w4 dp tb h1=>xQ h1
 have HAT:Hid (∀W v c,jG W ps 1 v c->H K 81 #[.string ⟨#[111,112,101,110]⟩,v] W fun e w'=> ∃v',e=G v'/\jG w' ps 2 v' c/\aJ W w'):=fun W v c h=>Ci h
 have HRS:Hid (H K 80 #[U (M ⟨w.heap.size,0,O⟩),I V (depth:Int)] w1 fun e w'=> ∃dp tb:Nat,e=G (.tuple #[U (M ⟨dp,0,O⟩),.nilIface])/\aQ w' dp tb depth em.2/\w'.heap[w.heap.size]?=M (iA db em.1)/\w1.heap.size<=dp/\w1.heap.size<=tb/\Og w1 w' w.heap.size):=hR;clear hR hD hO hG Uo ga hr IV;generalize Bt s (plain rs) depth em=T at*;generalize sG (plain rs) depth em=aI at*;go_enter Tryz.func48,Tryz.ntmps48
 go_upto_region 2 with fail
 rw[<-dU];clear dU
 go_upto_region 6 with(first
  |(go_at_call 80;refine HRS.out.mono ?_;rintro e w3 ⟨dp,tb,rfl,d1,d2,d3,d4,d5⟩;have hra:=HALL.out w3 dp tb d1 d2 d3 d4 d5)
  |(go_at_call 82;refine hra.mono ?_;rintro e w4 ⟨R,rfl,⟨r1,r2,r3⟩,r4,r5,r6,r7⟩))
 have hbu:=HBU.out w4 dp tb r2;obtain⟨b,hb⟩:=Int.eq_ofNat_of_zero_le r3.zL;have htd:=HTD.out w4 dp tb b r2 r4 r5 r6 r7 d3 d4 hb.symm R r1.out;rw[hb]at hbu;clear HALL HTD HBU HRS hra d1 d2 d5 r2 r3 r4 r5 r6 r7 hb r1
 go_upto_region 7 with(first
  |(go_at_call 53;refine hbu.mono ?_;rintro e w4 ⟨rfl,rfl⟩)
  |(go_at_call 83;refine htd.mono ?_;rintro e w5 ⟨v5,rfl,e5,o5⟩))
 by_cases hT:T.1=0
 ·have HV:Hid (v5= .nilIface):=by rw[hT]at e5;exact e5.no
  obtain rfl:=HV.out;have HT:Hid (T.1=0):=hT;clear hT htd hbu
  go_wp2_with fail
  refine bodyPost_ret (v:= .tuple #[U (M ⟨w.heap.size,0,O⟩),U (M ⟨dp,0,O⟩),.nilIface]) (by simp[results,Tryz.results48,go_sem]) rfl ?_;exact⟨fun _=>⟨_,dp,tb,rfl,o5⟩,fun h=>absurd HT.out h⟩
 ·obtain⟨t5,b5,rfl⟩:=e5.yes hT;have Nl:=HAT.out w5 _ _ e5;have HT:Hid (T.1≠0):=hT;clear hT htd hbu e5
  go_wp2_with (go_at_call 81;refine Nl.mono ?_;rintro e w6 ⟨v6,rfl,e6,g6⟩)
  refine bodyPost_ret (v:= .tuple #[U O,U O,v6]) (by simp[results,Tryz.results48,go_sem]) rfl ?_;refine⟨fun h=>absurd h HT.out,fun _=>⟨v6,rfl,?_⟩⟩;obtain⟨dN,dH,q1,q2,q3⟩:=o5.dsk;exact⟨dN,dH,q1.aM g6,q2,q3.Cj g6,e6⟩
def tC (w w':F)(v v':Y):Prop:=(Fr w w' (fun b=>v.ownBlock=M b)/\(w'.os=w.os/\w'.tape=w.tape/\w'.output=w.output))/\∀b,v'.ownBlock=M b->v.ownBlock=M b\/w.heap.size<=b
theorem tC.refl (w:F)(v:Y):tC w w v v:=⟨⟨Fr.refl _ _,rfl,rfl,rfl⟩,fun _ h=>Or.inl h⟩
theorem tC.trans {v1 v2:Y}(h1:tC a b v v1)(h2:tC b c v1 v2):tC a c v v2:=by
 obtain⟨⟨⟨a1,a2⟩,a3,a4,a5⟩,a6⟩:=h1;obtain⟨⟨⟨b1,b2⟩,b3,b4,b5⟩,b6⟩:=h2;refine⟨⟨⟨Nat.le_trans a1 b1,fun k hk hn=>?_⟩,b3.trans a3,b4.trans a4,b5.trans a5⟩,fun k hk=>?_⟩
 ·rw[b2 k (Nat.lt_of_lt_of_le hk a1) (fun e=>?_),a2 k hk hn];rcases a6 k e with h|h
  ·exact hn h
  ·omega
 ·rcases b6 k hk with h|h
  ·exact a6 k h
  ·exact Or.inr (Nat.le_trans a1 h)
theorem tC.aM {v1:Y}(h1:tC a b v v1)(hg:aJ b c):tC a c v v1:=h1.trans ⟨⟨Fr.dO hg _,hg.os,hg.tape,hg.output⟩,fun _ h=>Or.inl h⟩
theorem tC.at {v':Y}{b:Nat}{o:Obj}(h:tC w w' v v')(hb:w.heap[b]?=M o)(hn:¬v.ownBlock=M b):w'.heap[b]?=M o:=h.1.1.at hb hn
theorem tC.below {v':Y}(h:tC w w' v v')(ho:bC w B v l)(hB:B<=w.heap.size):Below B w w':=
 ⟨h.1.2.1,h.1.2.2.1,h.1.2.2.2,h.1.1.1,fun k hk=>h.1.1.2 k (by omega) (fun e=>by have:=(bC.lt ho k e).1;omega)⟩
theorem jC (h1:Below B a b)(h2:Below B b c):Below B a c:=⟨h2.os.trans h1.os,h2.tape.trans h1.tape,h2.output.trans h1.output,Nat.le_trans h1.size h2.size,fun k hk=>(h2.block k hk).trans (h1.block k hk)⟩
def QB (p:Int×Int):List UInt8:=dV p.1++dV p.2
def qE (l:List (Int×Int)):List UInt8:=dV (l.length:Int)++l.flatMap QB
def Zv (e:Ed):List UInt8:=dV e.1++qE e.2.1++qE e.2.2
def nU (l:List Ed):List UInt8:=dV (l.length:Int)++l.flatMap Zv
theorem sH (l:List (Int×Int)):(qE l).length=4+8*l.length:=by
 unfold qE;rw[List.length_append,bO];congr 1
 induction l with
 |nil=>rfl
 |cons p l ih=>rw[List.flatMap_cons,List.length_append,ih];simp[QB,bO];omega
theorem Zw {n:Int}(h:bC w B v l)(hB:B<=w.heap.size)(h0:0<=n)(h1:n<4294967296)(hl:l.length<=900000000):
 H K 144 #[v,I V n] w fun e w'=> ∃v',e=G v'/\bC w' B v' (l++dV n)/\tC w w' v v':=by
 have HA:=Av h hB h0 h1 hl;obtain⟨ao,cap,ev,-⟩:=bC.form h;subst ev;have zx:IntKind.u32.wrap n=n:=by rw[IntKind.wrap_u32];omega
 clear h;go_enter Tryz.func144,Tryz.ntmps144
 go_wp2_with (go_at_call 214;refine HA.mono ?_;rintro e w5 ⟨v5,rfl,Ug,dK,xE⟩)
 go_ret;exact⟨v5,rfl,Ug,⟨⟨Fr.kG dK,dK.os,dK.tape,dK.output⟩,fun b hb=>xE.elim (fun h=>Or.inl (h ▸ hb)) (fun h=>Or.inr (h b hb))⟩⟩
theorem QC (B:Nat)(w:F):Below B w w:=⟨rfl,rfl,rfl,Nat.le_refl _,fun _ _=>rfl⟩
theorem UK {x:gN}{ps:List (Int×Int)}(h:bC w B v l)(hB:B<=w.heap.size)(hx:∀W,Below B w W->bI W x ps)(hp:∀p∈ps,(0<=p.1/\p.1<4294967296)/\(0<=p.2/\p.2<4294967296))(WQ:ps.length<=100000)(hl:l.length<=500000000):
 H K 145 #[v,x.v] w fun e w'=> ∃v',e=G v'/\bC w' B v' (l++qE ps)/\tC w w' v v':=by
 obtain⟨xo,xn,xc⟩:=x;have hn:xn=ps.length:=(hx w (QC B w)).2.1;subst hn;have HR:Hid (∀W,Below B w W->Tj W xo ps):=fun W hW=>(hx W hW).1.1
 have HN:Hid (∀W v' (l':List UInt8) n,bC W B v' l'->B<=W.heap.size->0<=n->n<4294967296->l'.length<=900000000->H K 144 #[v',I V n] W fun e w'=> ∃qF,e=G qF/\bC w' B qF (l'++dV n)/\tC W w' v' qF):=fun W v' l' n h1 h2 h3 h4 h5=>Zw h1 h2 h3 h4 h5
 have Yo:=HN.out w v l (ps.length:Int) h hB (by omega) (by omega) (by omega);obtain⟨ao,cap,ev,-⟩:=bC.form h;have HV:Hid (bC w B v l):=h;subst ev;simp only[gN.v];clear h hx;generalize hvv:Value.slice ao l.length cap=vv at*;have HVV:Hid (Value.slice ao l.length cap=vv):=hvv;go_enter Tryz.func145,Tryz.ntmps145;subst hvv
 go_wp2_with (go_at_call 144;refine Yo.mono ?_;rintro e w1 ⟨v1,rfl,xL,hF1⟩)
 have HO1:Hid (bC w1 B v1 (l++dV (ps.length:Int))/\tC w w1 (Value.slice ao l.length cap) v1):=⟨xL,hF1⟩;clear xL hF1 Yo HVV
 go_loopw [0,6,13] (fun v _ i wr=> ∃k:Nat,k<=ps.length/\i=I V (k:Int)/\Hid (bC wr B v (l++dV (ps.length:Int)++(ps.take k).flatMap QB)/\tC w wr (Value.slice ao l.length cap) v)) (fun _ _ i _=>ps.length-(intOf i).toNat)
 case atStart=>exact⟨0,Nat.zero_le _,rfl,by simpa using HO1.out.1,HO1.out.2⟩
 case round=>
  obtain⟨k,hk,rfl,HO⟩:=hrel;obtain⟨yI,kJ,ev,-⟩:=bC.form HO.out.1;have HBL:Hid (Below B w wr):=HO.out.2.below HV.out hB;have gQ:B<=wr.heap.size:=Nat.le_trans hB HBL.out.size;by_cases bV:k<ps.length
  ·obtain⟨p,hp1⟩:∃p,ps[k]?=M p:=⟨_,List.getElem?_eq_getElem bV⟩;have YA:=hp p (List.mem_of_getElem? hp1)
   have hflen:(l++dV (ps.length:Int)++(ps.take k).flatMap QB).length=l.length+4+8*k:=by
    have:=sH (ps.take k);unfold qE at this;rw[List.length_append,bO,List.length_take]at this;rw[List.length_append,List.length_append,bO];omega
   rcases HR.out wr HBL.out with hx0|⟨b,off,rfl,hc⟩
   ·rw[hx0]at bV;simp at bV
   ·obtain⟨d1,d2⟩:=hc k bV;have Lc:ps.getD k (0,0)=p:=by simp[List.getD_eq_getElem?_getD,hp1]
    rw[Lc]at d1 d2
    have HNX:Hid ((ps.take (k+1)).flatMap QB=(ps.take k).flatMap QB++(dV p.1++dV p.2)):=by
     show _=_;obtain⟨Uc,he⟩:=List.getElem?_eq_some_iff.1 hp1;rw[List.take_succ_eq_append_getElem Uc,List.flatMap_append,he];simp[QB]
    have i1:(0:Int)<=(k:Int):=by omega
    have i2:(k:Int)<(ps.length:Int):=by omega
    obtain⟨p1,p2⟩:=p;simp only at d1 d2 HNX YA;generalize hLL:(l++dV (ps.length:Int)++(ps.take k).flatMap QB)=L at*;have HLL:Hid ((l++dV (ps.length:Int)++(ps.take k).flatMap QB)=L):=hLL;clear hLL;subst ev;have HFL:Hid (L.length=l.length+4+8*k):=hflen;clear hflen;have HOA:Hid (bC (wr.alloc (C #[I V p1,I V p2] 114)) B (Z yI L.length kJ) L):=bC.alloc HO.out.1 _;have pQ:=HN.out _ _ L p1 HOA.out (by simp;omega) YA.1.1 YA.1.2 (by have:=HFL.out;omega);have HOB:Hid (∀gq,(Value.slice yI L.length kJ).ownBlock=M gq->gq<wr.heap.size):=fun gq hgq=>(bC.lt HO.out.1 gq hgq).2
    have Nv:Hid (aJ wr (wr.alloc (C #[I V p1,I V p2] 114))):=(aJ.refl wr).alloc _;have Ba:=heap_alloc_new wr (C #[I V p1,I V p2] 114);clear hp1 hc Lc
    go_upto_region 5 with fail
    generalize (wr.alloc (C #[I V p1,I V p2] 114))=wq at*;have x0:wq.cell? ⟨wr.heap.size,0,O⟩=M (I V p1):=by simp[World.cell?,Ba]
    have HBX:Hid (wq.heap[wr.heap.size]?=M (C #[I V p1,I V p2] 114 (0,0))):=Ba
    have Tk:Hid (∀w5 v5,bC w5 B v5 (L++dV p1)->tC wq w5 (Z yI L.length kJ) v5->w5.cell? ⟨wr.heap.size,1,O⟩=M (I V p2)/\H K 144 #[v5,I V p2] w5 fun e w'=> ∃qF,e=G qF/\bC w' B qF (L++dV p1++dV p2)/\tC w5 w' v5 qF):=fun w5 v5 h1 h2=>by
     have rG:=h2.at HBX.out (fun e=>by have:=HOB.out _ e;omega);refine⟨by simp[World.cell?,rG],HN.out w5 v5 _ p2 h1 ?_ YA.2.1 YA.2.2 (by rw[List.length_append,bO];have:=HFL.out;omega)⟩;have:=h2.1.1.1;have:=Nv.out.le;omega
    clear Ba d1 d2 HN
    go_upto_region 6 with(go_at_call 144;refine pQ.mono ?_;rintro e w5 ⟨v5,rfl,Ug,ML⟩)
    obtain⟨y1,oW⟩:=Tk.out w5 v5 Ug ML;clear pQ x0 Tk
    go_wp2_with (go_at_call 144;refine oW.mono ?_;rintro e w6 ⟨v6,rfl,hO6,hF6⟩)
    have MR:Hid (bC w6 B v6 (L++dV p1++dV p2)/\tC w w6 (Value.slice ao l.length cap) v6):=⟨hO6,((HO.out.2.aM Nv.out).trans ML).trans hF6⟩;clear hO6 hF6 ML Ug oW;go_roundw
    case rel=>
     refine⟨k+1,by omega,by go_num,?_,MR.out.2⟩;rw[HNX.out,<-List.append_assoc,<-List.append_assoc,HLL.out];exact MR.out.1
    case measure=>simp[intOf];omega
  ·have e1:ps.take k=ps:=List.take_of_length_le (by omega);subst ev
   have MR:Hid (bC wr B (Z yI (l++dV (ps.length:Int)++(ps.take k).flatMap QB).length kJ) (l++qE ps)/\tC w wr (Value.slice ao l.length cap) (Z yI (l++dV (ps.length:Int)++(ps.take k).flatMap QB).length kJ)):=by
    have:=HO.out;refine⟨?_,this.2⟩;have h1:=this.1;have e2:l++dV (ps.length:Int)++(ps.take k).flatMap QB=l++qE ps:=by rw[e1];simp[qE]
    rw[e2]at h1 ⊢;exact h1
   clear HO;generalize (l++dV (ps.length:Int)++(ps.take k).flatMap QB).length=LL at*
   go_wp2_with fail
   go_ret;exact⟨_,rfl,MR.out.1,MR.out.2⟩
end Go.Proofs.YtfplgfodoiiobaaGreatDoor
