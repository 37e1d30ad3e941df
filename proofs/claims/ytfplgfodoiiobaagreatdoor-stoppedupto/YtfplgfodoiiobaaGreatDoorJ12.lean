/- PgP, PgQ, PgR, PgS, PgT (joined). -/
import Derived.Test.YtfplgfodoiiobaaGreatDoorJ11
open Option renaming none→O,some→M
open Go.Value renaming int→I,slice→Z,pointer→U
open Go.IntKind renaming i64→V
open Go.Obj renaming cells→C
open Go.Ending renaming returned→G
open Go renaming World→F,Value→Y,Calls→H
open Go.Proofs.Tryz renaming prog→K
namespace Go.Proofs.YtfplgfodoiiobaaGreatDoor
set_option maxHeartbeats 4000000
set_option maxRecDepth 100000
open Go.RowKit
variable {rs:List FR}{w:F}{db g lo bx:Nat}{s:Sc}{fv:Y}{n:Int}{r:FR}{lb:Array Y}{ps:Nat->Addr}{nm:ByteArray}
theorem OQ {b7 b9:Nat}{lo:Int}{R:F->Prop}(c7:w.cell? ⟨b7,0,O⟩=M (.func (.func g) #[] lb))(c9:w.cell? ⟨b9,0,O⟩=M (I V lo))(eg:∀(args:Array Y) (w:F),(callFunc g args).run K w= .ok (.enter g args) w)
 (hc:H K g (#[I V lo]++lb) w fun e w'=>e=G (.tuple #[])/\R w'):
 H K 215 #[U (M ⟨b7,0,O⟩),U (M ⟨b9,0,O⟩)] w fun e w'=>e=G (.tuple #[])/\R w':=by
 go_enter Tryz.func215,Tryz.ntmps215
 go_wp2_with (go_at_fn g;refine hc.mono ?_;rintro e w2 ⟨rfl,hR⟩)
 go_end0;exact⟨rfl,hR⟩
theorem XB:∀(args:Array Y) (w:F),(callFunc 215 args).run K w= .ok (.enter 215 args) w:=enters_of Tryz.func215 (by kernel_rfl) rfl
theorem zR (h:aP w db s fv rs)(hs:(plain rs).Pairwise (fun a b=>a.1<b.1))(hl:rs.length<=1000000)(hh:iE (plain rs) n=false):
 H K 135 #[U (M ⟨db,0,O⟩),.string nm,I V n,.func (.func g) #[] lb] w fun e w'=>e=G .nilIface/\aJ w w':=by
 have hF:=xI (n:=n) (h.aM (aU w (C #[.func (.func g) #[] lb] 95))) hs hl;rw[hh]at hF;generalize dS (plain rs) n=lo at hF;clear h hs hh;go_enter Tryz.func135,Tryz.ntmps135
 go_wp2_with (go_at_call 177;refine hF.mono ?_;rintro e w1 ⟨rfl,rfl⟩)
 go_ret;refine⟨rfl,?_⟩
 repeat (first|exact aJ.refl _|refine aJ.alloc ?_ _|refine aJ.drew ?_)
theorem FU (w:F)(o1 o2:Obj):aJ w ((w.alloc o1).alloc o2)/\((w.alloc o1).alloc o2).heap[w.heap.size]?=M o1/\((w.alloc o1).alloc o2).heap[w.heap.size+1]?=M o2:=⟨aJ.alloc (aJ.alloc (aJ.refl w) _) _,TL w o1 o2,new2b w o1 o2⟩
theorem xM {R:F->Prop}(h:aP w db s fv rs)(hs:(plain rs).Pairwise (fun a b=>a.1<b.1))(hl:rs.length<=1000000)(hh:iE (plain rs) n=true)(ha:0<=s.after)(FJ:s.after<=9223372036854775807)
 (eg:∀(args:Array Y) (w:F),(callFunc g args).run K w= .ok (.enter g args) w)(rX:(dF s (plain rs)).1=true)
 (Pq:∀w1,aP w1 db (dF s (plain rs)).2.1 fv rs->Og w w1 db->H K g (#[I V (dS (plain rs) n:Nat)]++lb) w1 fun e w2=>e=G (.tuple #[])/\R w2):
 H K 135 #[U (M ⟨db,0,O⟩),.string nm,I V n,.func (.func g) #[] lb] w fun e w'=>e=G .nilIface/\R w':=by
 have hF:=xI (n:=n) (h.aM (aU w (C #[.func (.func g) #[] lb] 95))) hs hl;rw[hh]at hF;obtain⟨k0,k1,k2⟩:=FU w (C #[.func (.func g) #[] lb] 95) (C #[I V (dS (plain rs) n:Nat)] 3)
 have DI:=FI (nm:=nm) (num:=n) (g:=215) (lb:=#[U (M ⟨w.heap.size,0,O⟩),U (M ⟨w.heap.size+1,0,O⟩)]) (R:=R) (h.aM k0) ha FJ XB rX (fun w1 Nk xL=>by
  have hne:∀(k:Nat) (aT:Array Y) (t:TypeId),((w.alloc (C #[.func (.func g) #[] lb] 95)).alloc (C #[I V (dS (plain rs) n:Nat)] 3)).heap[k]?=M (Obj.cells aT t (0,0))->t≠137->w1.heap[k]?=M (Obj.cells aT t (0,0)):=fun k aT t hk ht=>xL.1.at hk (fun e=>aW hk (h.aM k0).1 ht e)
  refine OQ (lo:=(dS (plain rs) n:Nat)) (by simp[World.cell?,hne _ _ _ k1 (by decide)]) (by simp[World.cell?,hne _ _ _ k2 (by decide)]) eg (Pq w1 Nk ?_);exact((Og.refl w db).aM k0).trans xL)
 generalize dS (plain rs) n=lo at hF DI;clear h hs hh Pq rX k0 k1 k2;go_enter Tryz.func135,Tryz.ntmps135
 go_wp2_with (first|(go_at_call 177;refine hF.mono ?_;rintro e w1 ⟨rfl,rfl⟩)|(go_at_call 211;refine DI.mono ?_;rintro e w2 ⟨rfl,hR⟩))
 go_ret;exact⟨rfl,hR⟩
theorem Az (h:aP w db s fv rs)(hG:Ud w ps)(hC:fU s)(ha:0<=s.after)(hI:dY s.room (plain rs))(hl:rs.length<=1000000)(hh:iE (plain rs) n=true)(rX:(dF s (plain rs)).1=false):
 H K 135 #[U (M ⟨db,0,O⟩),.string nm,I V n,.func (.func g) #[] lb] w fun e w'=> ∃v,e=G v/\OO w w' ps db s fv rs v:=by
 have hF:=xI (n:=n) (h.aM (aU w (C #[.func (.func g) #[] lb] 95))) hI.sort.1 hl;rw[hh]at hF;obtain⟨k0,k1,k2⟩:=FU w (C #[.func (.func g) #[] lb] 95) (C #[I V (dS (plain rs) n:Nat)] 3);have DI:=fun fn=>TJ (nm:=nm) (num:=n) (fn:=fn) (h.aM k0) (hG.aM k0) ha hC.oL hl hI.ok hI.sort.1 hC.Yu hC.Fs hC.NW hC.Pj rX
 have HK:Hid (aJ w ((w.alloc (C #[.func (.func g) #[] lb] 95)).alloc (C #[I V (dS (plain rs) n:Nat)] 3))):=k0;generalize dS (plain rs) n=lo at hF DI HK;clear h hh rX k0 k1 k2 hG hC hI;go_enter Tryz.func135,Tryz.ntmps135
 go_wp2_with (go_at_call 177;refine hF.mono ?_;rintro e w1 ⟨rfl,rfl⟩)
 refine(DI _).mono ?_;rintro e w2 ⟨v,rfl,⟨bb,nm',num,rfl,hbb⟩,dN,dH,p1,p2,p3⟩
 go_wp2_with fail
 go_ret;exact⟨_,rfl,⟨bb,nm',num,rfl,hbb⟩,dN,dH,p1,p2,(Dk.bH HK.out).trans p3⟩
def FV (w:F)(ps:Nat->Addr)(v:Y)(ok:Bool):Prop:=(ok=true/\v= .nilIface)\/(ok=false/\Wm w ps v 2)
def pY (w w':F)(ps:Nat->Addr)(db:Nat)(fv:Y)(rs:List FR)(v:Y)(r:Bool×Sc×List bF):Prop:=
 ∃dN dH,aP w' db r.2.1 dN dH/\plain dH=r.2.2/\Dk w w' (DX db fv rs) (DX db dN dH)/\FV w' ps v r.1
def DoD (w w':F)(db:Nat)(s:Sc)(fv:Y)(rs:List FR)(bN:List bF):Prop:=∃dN dH,aP w' db s dN dH/\plain dH=bN/\Dk w w' (DX db fv rs) (DX db dN dH)
theorem aP.at (h:aP w db s fv rs)(hr:rs[lo]?=M r):∃g cap,fv=Z (M ⟨g,0,O⟩) rs.length cap/\w.cell? ⟨db,1,O⟩=M (Z (M ⟨g,0,O⟩) rs.length cap)/\w.frozen? ⟨db,1,O⟩=false/\w.cell? ⟨g,lo,O⟩=M (U (M ⟨r.b,0,O⟩))/\lo<rs.length/\fG w r:=by
 have bV:=(List.getElem?_eq_some_iff.1 hr).1;obtain⟨-,c1,-,-,-,-,-,-,cf⟩:=bW h.1;obtain⟨ao,cap,rfl,-,-,gJ,gL⟩:=fM.form h.2.1;cases ao with
 |none=>obtain⟨rfl,-⟩:=gJ rfl;simp at bV
 |some a=>
  obtain⟨g,aT,rfl,-,-,-,hc⟩:=gL a rfl;exact⟨g,cap,rfl,c1,cf 1,hc _ r hr,bV,h.2.2.1 r (List.mem_of_getElem? hr)⟩
theorem XC (h:aP w db s fv rs)(hr:rs[lo]?=M r)(c0:w.cell? ⟨bx,0,O⟩=M (U (M ⟨db,0,O⟩))):
 H K 136 #[I V (lo:Int),U (M ⟨bx,0,O⟩)] w fun e w'=>e=G (.tuple #[])/\DoD w w' db s fv rs ((plain rs).set lo (r.f.1,r.f.2.1,(r.f.2.1.size:Int))):=by
 obtain⟨g,cap,rfl,c1,-,c2,bV,hf⟩:=h.at hr;have hFl:=Vy hf;have HD:Hid (aP w db s (Z (M ⟨g,0,O⟩) rs.length cap) rs):=h;have HR:Hid (rs[lo]?=M r):=hr;have i1:(0:Int)<=(lo:Int):=by omega
 have i2:(lo:Int)<(rs.length:Int):=by omega
 clear h hr hf;go_enter Tryz.func136,Tryz.ntmps136
 go_wp2_with fail
 refine hFl.mono ?_;rintro e w1 ⟨rfl,hF1,xL⟩
 go_wp2_with fail
 go_end0;obtain⟨p1,p2⟩:=HD.out.Fz (r':=(r.b,r.v,(r.f.1,r.f.2.1,(r.f.2.1.size:Int)))) HR.out rfl (xL.1.mono fun b e=>Or.inl e) xL.2 hF1 (Or.inl rfl);exact⟨rfl,_,_,p1,by rw[Ay];rfl,p2⟩
theorem e_cut:∀(args:Array Y) (w:F),(callFunc 237 args).run K w= .ok (.enter 237 args) w:=enters_of Tryz.func237 (by kernel_rfl) rfl
theorem FW:∀(args:Array Y) (w:F),(callFunc 193 args).run K w= .ok (.enter 193 args) w:=enters_of Tryz.func193 (by kernel_rfl) rfl
theorem pq:∀(args:Array Y) (w:F),(callFunc 136 args).run K w= .ok (.enter 136 args) w:=enters_of Tryz.func136 (by kernel_rfl) rfl
theorem e_cut1:∀(args:Array Y) (w:F),(callFunc 236 args).run K w= .ok (.enter 236 args) w:=enters_of Tryz.func236 (by kernel_rfl) rfl
theorem XD:∀(args:Array Y) (w:F),(callFunc 192 args).run K w= .ok (.enter 192 args) w:=enters_of Tryz.func192 (by kernel_rfl) rfl
theorem cut1_pg {by' k:Nat}(h:aP w db s fv rs)(hr:rs[lo]?=M r)(hk:k<=r.f.2.1.size)(hz:r.f.2.1.size<=2000000)(c0:w.cell? ⟨bx,0,O⟩=M (U (M ⟨db,0,O⟩)))(c0':w.cell? ⟨by',0,O⟩=M (I V (k:Int))):
 H K 236 #[I V (lo:Int),U (M ⟨bx,0,O⟩),U (M ⟨by',0,O⟩)] w fun e w'=>e=G (.tuple #[])/\DoD w w' db s fv rs ((plain rs).set lo (r.f.1,r.f.2.1.extract 0 k,(k:Int))):=by
 obtain⟨g,cap,rfl,c1,-,c2,bV,hf⟩:=h.at hr
 have HC:Hid (∀W,aJ w W->H K 237 #[U (M ⟨r.b,0,O⟩),I V (k:Int)] W fun e w'=>e=G (.tuple #[])/\DoD w w' db s (Z (M ⟨g,0,O⟩) rs.length cap) rs ((plain rs).set lo (r.f.1,r.f.2.1.extract 0 k,(k:Int)))):=fun W hW=>by
  refine(TF (w:=W) (n:=k) ⟨(hW.block _ (aK hf.1)).trans hf.1,hf.2.aM hW⟩ hk hz).mono ?_;rintro e w' ⟨rfl,v',hF,iV,Zh⟩;obtain⟨p1,p2⟩:=(h.aM hW).Fz (r':=(r.b,v',(r.f.1,r.f.2.1.extract 0 k,(k:Int)))) hr rfl (iV.1.mono fun b e=>Or.inl e) iV.2 hF (Or.inr Zh);exact⟨rfl,_,_,p1,by rw[Ay];rfl,(Dk.bH hW).trans p2⟩
 have i1:(0:Int)<=(lo:Int):=by omega
 have i2:(lo:Int)<(rs.length:Int):=by omega
 clear h hr hf;go_enter Tryz.func236,Tryz.ntmps236
 go_region_law ((refine bM (by rfl) 237 _ _ (by rfl) _ (by simp[Act.eval];done) e_cut ((HC.out _ (by repeat (first|exact aJ.refl _|refine aJ.drew ?_))).mono ?_);rintro e w5 ⟨rfl,Pq⟩;refine⟨_,rfl,?_⟩))
 all_goals go_wp2_with fail
 all_goals go_end0
 all_goals exact⟨rfl,Pq⟩
theorem OT (h:aP w db s fv rs)(hr:rs[lo]?=M r)(hl:rs.length<=1000000)(c0:w.heap[bx]?=M (C #[U (M ⟨db,0,O⟩)] 77 (0,0))):
 H K 192 #[I V (lo:Int),U (M ⟨bx,0,O⟩)] w fun e w'=>e=G (.tuple #[])/\DoD w w' db s fv rs ((plain rs).eraseIdx lo):=by
 obtain⟨g,cap,rfl,c1,c1f,c2,bV,hf⟩:=h.at hr
 have HC:Hid (∀W,aJ w W->H K 193 #[Z (M ⟨g,0,O⟩) rs.length cap,I V (lo:Int),I V ((lo:Int)+1)] W fun e w'=> ∃(c5 n5:Nat),e=G (Z (M ⟨g,0,O⟩) n5 c5)/\w'.cell? ⟨bx,0,O⟩=M (U (M ⟨db,0,O⟩))/\w'.cell? ⟨db,1,O⟩=M (Z (M ⟨g,0,O⟩) rs.length cap)/\w'.frozen? ⟨db,1,O⟩=false/\DoD w (w'.setCell ⟨db,1,O⟩ (Z (M ⟨g,0,O⟩) n5 c5)) db s (Z (M ⟨g,0,O⟩) rs.length cap) rs ((plain rs).eraseIdx lo)):=fun W hW=>by
  refine(Wd (h.aM hW).2.1 bV hl).mono ?_;rintro e w' ⟨v',g',rfl,gL,yT,pu,iV⟩;simp[Value.ownBlock]at yT;subst yT;obtain⟨oh,uY,e5,-,-,-,hro5⟩:=fM.form gL;subst e5;cases oh with
  |none=>simp[Value.ownBlock]at pu
  |some a5=>
   obtain⟨g6,cur6,rfl,-⟩:=hro5 a5 rfl;simp[Value.ownBlock]at pu;subst pu;obtain⟨cg,Wp⟩:=kV (h.aM hW).2.1 (g:=g6) rfl;have Le:w'.heap[db]?=M (iN s (Z (M ⟨g6,0,O⟩) rs.length cap)):=iV.1.at (h.aM hW).1 (fun e=>aW (h.aM hW).1 Wp (by decide) e);have Ba:w'.heap[bx]?=M (C #[U (M ⟨db,0,O⟩)] 77 (0,0)):=iV.1.at ((hW.block _ (aK c0)).trans c0) (fun e=>aW ((hW.block _ (aK c0)).trans c0) Wp (by decide) e);obtain⟨-,m1,-,-,-,-,-,-,mf⟩:=bW Le;obtain⟨p1,p2⟩:=(h.aM hW).setRow (dN:=Z (M ⟨g6,0,O⟩) (rs.eraseIdx lo).length uY) (iV.1.mono fun b e=>by rw[e];rfl) iV.2 gL rfl (List.eraseIdx_sublist rs lo) rfl;refine⟨uY,(rs.eraseIdx lo).length,rfl,by simp[World.cell?,Ba],m1,mf 1,_,_,p1,?_,(Dk.bH hW).trans p2⟩;unfold plain;rw[lM,lM,List.map_append,List.map_take,List.map_drop]
 have c0':w.cell? ⟨bx,0,O⟩=M (U (M ⟨db,0,O⟩)):=by simp[World.cell?,c0]
 have dU:IntKind.i64.wrap ((lo:Int)+1)=(lo:Int)+1:=by rw[IntKind.wrap_i64];omega
 clear h hr hf c0 c2;go_enter Tryz.func192,Tryz.ntmps192
 go_region_law ((refine bM (by rfl) 193 _ _ (by rfl) _ (by simp[Act.eval];done) FW ((HC.out _ (by repeat (first|exact aJ.refl _|refine aJ.drew ?_))).mono ?_);rintro e w5 ⟨c5,n5,rfl,y0,y1,y2,Pq⟩;refine⟨_,rfl,?_⟩))
 all_goals go_wp2_with fail
 all_goals go_end0
 all_goals exact⟨rfl,Pq⟩
theorem new1c (w:F)(o:Obj):aJ w (w.alloc o)/\(w.alloc o).heap[w.heap.size]?=M o:=⟨aJ.alloc (aJ.refl w) _,heap_alloc_new w o⟩
theorem Pv (h:aP w db s fv rs)(hG:Ud w ps)(hC:fU s)(ha:0<=s.after)(hI:dY s.room (plain rs))(hl:rs.length<=1000):
 H K 89 #[U (M ⟨db,0,O⟩),I V n] w fun e w'=> ∃v,e=G v/\pY w w' ps db fv rs v (bQ s (plain rs) n):=by
 obtain⟨k0,k1⟩:=new1c w (C #[U (M ⟨db,0,O⟩)] 77);have hD:=h.aM k0;have hp:=Fx hI.sort.1 n
 have HC:Hid (H K 135 #[U (M ⟨db,0,O⟩),.string ⟨#[102,108,117,115,104]⟩,I V n,.func (.func 136) #[] #[U (M ⟨w.heap.size,0,O⟩)]] (w.alloc (C #[U (M ⟨db,0,O⟩)] 77)) fun e w'=> ∃v,e=G v/\pY w w' ps db fv rs v (bQ s (plain rs) n)):=by
  cases hh:iE (plain rs) n with
  |false=>
   have e1:bQ s (plain rs) n=(true,s,plain rs):=by unfold bQ;rw[hp,hh];rfl
   refine(zR hD hI.sort.1 (by omega) hh).mono ?_;rintro e w' ⟨rfl,hg⟩;exact⟨_,rfl,fv,rs,by rw[e1];exact hD.aM hg,by rw[e1],Dk.bH (bD k0 hg),by rw[e1];exact Or.inl ⟨rfl,rfl⟩⟩
  |true=>
   rw[hh]at hp;obtain⟨r,hr,hn⟩:=vI hh;cases rX:(dF s (plain rs)).1 with
   |true=>
    have FT:=Ao rX
    have hb:aL (plain rs) n=r.f.2.1:=by
     rcases xJ hI.sort.1 n with⟨q,-,hq,-,e,-⟩|⟨e,-⟩
     ·rw[hr]at hq;cases hq;exact e
     ·rw[hh]at e;cases e
    have e1:bQ s (plain rs) n=(true,(dF s (plain rs)).2.1,(plain rs).set (dS (plain rs) n) (r.f.1,r.f.2.1,(r.f.2.1.size:Int))):=by
     unfold bQ;rw[hp];simp only[if_true,rX,FT,hb,hn]
    refine(xM (R:=fun w2=>DoD w w2 db (dF s (plain rs)).2.1 fv rs ((plain rs).set (dS (plain rs) n) (r.f.1,r.f.2.1,(r.f.2.1.size:Int)))) hD hI.sort.1 (by omega) hh ha hC.oL pq rX (fun w1 Nk xL=>?_)).mono ?_
    ·refine(XC Nk hr ?_).mono ?_
     ·have:=xL.1.at k1 (fun e=>aW k1 hD.1 (by decide) e);simp[World.cell?,this]
     ·rintro e w2 ⟨rfl,dN,dH,p1,p2,p3⟩;exact⟨rfl,dN,dH,p1,p2,((Dk.bH k0).trans (Dk.Ld xL.1 xL.2 (Or.inl rfl))).trans p3⟩
    ·rintro e w2 ⟨rfl,dN,dH,p1,p2,p3⟩;exact⟨_,rfl,dN,dH,by rw[e1];exact p1,by rw[e1];exact p2,p3,by rw[e1];exact Or.inl ⟨rfl,rfl⟩⟩
   |false=>
    have e1:bQ s (plain rs) n=dF s (plain rs):=by
     unfold bQ;rw[hp];simp only[if_true,rX,Bool.false_eq_true,if_false]
    refine(Az hD (hG.aM k0) hC ha hI (by omega) hh rX).mono ?_;rintro e w2 ⟨v,rfl,hE,dN,dH,p1,p2,p3⟩;exact⟨v,rfl,dN,dH,by rw[e1];exact p1,by rw[e1];exact p2,(Dk.bH k0).trans p3,by rw[e1,rX];exact Or.inr ⟨rfl,hE⟩⟩
 clear h hG hC ha hI hl k0 k1 hD hp;go_enter Tryz.func89,Tryz.ntmps89
 go_wp2_with fail
 refine HC.out.mono ?_;rintro e w1 ⟨v,rfl,hR⟩;obtain⟨dN,dH,p1,p2,p3,p4⟩:=hR;have hR:pY w w1 ps db fv rs v (bQ s (plain rs) n):=⟨dN,dH,p1,p2,p3,p4⟩;rcases p4 with⟨-,rfl⟩|⟨-,bb,nm,num,rfl,-⟩
 ·clear p1 p2 p3
  go_wp2_with fail
  go_ret;exact⟨_,rfl,hR⟩
 ·clear p1 p2 p3
  go_wp2_with fail
  go_ret;exact⟨_,rfl,hR⟩
theorem Wq (hs:(plain rs).Pairwise (fun a b=>a.1<b.1))(hh:iE (plain rs) n=true)(hr:rs[dS (plain rs) n]?=M r):aL (plain rs) n=r.f.2.1:=by
 rcases xJ hs n with⟨q,-,hq,-,e,-⟩|⟨e,-⟩
 ·rw[hr]at hq;cases hq;exact e
 ·rw[hh]at e;cases e
theorem Ws (hs:(plain rs).Pairwise (fun a b=>a.1<b.1))(hh:iE (plain rs) n=false):aL (plain rs) n=⟨#[]⟩:=by
 rcases xJ hs n with⟨q,e,-⟩|⟨-,e,-⟩
 ·rw[hh]at e;cases e
 ·exact e
theorem FX (hs:(plain rs).Pairwise (fun a b=>a.1<b.1))(h:(aL (plain rs) n).size≠0):iE (plain rs) n=true:=by
 cases hh:iE (plain rs) n with
 |true=>rfl
 |false=>rw[Ws hs hh]at h;exact absurd rfl h
theorem TN {l:List bF}(hs:l.Pairwise (fun a b=>a.1<b.1))(hh:iE l n=true):gP l n=l.eraseIdx (dS l n):=by
 obtain⟨h1,h2⟩:=Wn hs n;unfold iE at hh;cases e:l[dS l n]? with
 |none=>rw[e]at hh;simp at hh
 |some g=>
  rw[e]at hh;have hg:g.1=n:=by simpa using hh
  obtain⟨bV,Lc⟩:=List.getElem?_eq_some_iff.1 e;have e1:l=l.take (dS l n)++g::l.drop (dS l n+1):=by rw[<-Lc,<-List.drop_eq_getElem_cons bV,List.take_append_drop]
  have h3:∀q∈l.drop (dS l n+1),n<q.1:=by
   intro q hq;have hp:(l.take (dS l n)++g::l.drop (dS l n+1)).Pairwise (fun a b=>a.1<b.1):=by rw[<-e1];exact hs
   rw[List.pairwise_append,List.pairwise_cons]at hp;have:=hp.2.1.1 q hq;omega
  rw[lM];unfold gP;have e2:l.filter (fun g=>g.1 !=n)=(l.take (dS l n)++g::l.drop (dS l n+1)).filter (fun g=>g.1 !=n):=by rw[<-e1]
  rw[e2,List.filter_append,List.filter_cons];have e3:(g.1 !=n)=false:=by simp[hg]
  rw[e3];simp only[Bool.false_eq_true,if_false];rw[List.filter_eq_self.2,List.filter_eq_self.2]
  ·intro q hq;have:=h3 q hq;simp;omega
  ·intro q hq;have:=h1 q hq;simp;omega
theorem cut_pg {k:Nat}(h:aP w db s fv rs)(hG:Ud w ps)(hC:fU s)(ha:0<=s.after)(hI:dY s.room (plain rs))(hl:rs.length<=1000)(hk0:0<k)(hk:k<(aL (plain rs) n).size):
 H K 194 #[U (M ⟨db,0,O⟩),I V n,I V (k:Int)] w fun e w'=> ∃v,e=G v/\pY w w' ps db fv rs v (bR s (plain rs) n (k:Int)):=by
 obtain⟨k0,k1,k2⟩:=FU w (C #[U (M ⟨db,0,O⟩)] 77) (C #[I V (k:Int)] 3);have hD:=h.aM k0;have jH:=hI.sort.1;have hh:=FX jH (n:=n) (by omega);obtain⟨r,hr,hn⟩:=vI hh;have hb:=Wq jH hh hr;have WV:=hI.ok _ (List.mem_of_getElem? (iK hr))
 have HC:Hid (H K 135 #[U (M ⟨db,0,O⟩),.string ⟨#[99,117,116]⟩,I V n,.func (.func 236) #[] #[U (M ⟨w.heap.size,0,O⟩),U (M ⟨w.heap.size+1,0,O⟩)]] ((w.alloc (C #[U (M ⟨db,0,O⟩)] 77)).alloc (C #[I V (k:Int)] 3)) fun e w'=> ∃v,e=G v/\pY w w' ps db fv rs v (bR s (plain rs) n (k:Int))):=by
  cases rX:(dF s (plain rs)).1 with
  |true=>
   have FT:=(Ao rX).1;have hz:(r.f.2.1.extract 0 k).size≠0:=by rw[ByteArray.size_extract,<-hb];omega
   have e1:bR s (plain rs) n (k:Int)=(true,(dF s (plain rs)).2.1,(plain rs).set (dS (plain rs) n) (r.f.1,r.f.2.1.extract 0 k,(k:Int))):=by
    unfold bR;rw[if_neg (by omega)];simp only[rX,if_true,FT,hb,Int.toNat_natCast];rw[tX hI.sort (f:=(n,r.f.2.1.extract 0 k,(k:Int))) hz (hI.no (by omega)),zQ jH,hh,if_pos rfl,hn]
   refine(xM (R:=fun w2=>DoD w w2 db (dF s (plain rs)).2.1 fv rs ((plain rs).set (dS (plain rs) n) (r.f.1,r.f.2.1.extract 0 k,(k:Int)))) hD jH (by omega) hh ha hC.oL e_cut1 rX (fun w1 Nk xL=>?_)).mono ?_
   ·refine(cut1_pg (k:=k) Nk hr (by rw[<-hb];omega) WV.2.2 ?_ ?_).mono ?_
    ·have:=xL.1.at k1 (fun e=>aW k1 hD.1 (by decide) e);simp[World.cell?,this]
    ·have:=xL.1.at k2 (fun e=>aW k2 hD.1 (by decide) e);simp[World.cell?,this]
    ·rintro e w2 ⟨rfl,dN,dH,p1,p2,p3⟩;exact⟨rfl,dN,dH,p1,p2,((Dk.bH k0).trans (Dk.Ld xL.1 xL.2 (Or.inl rfl))).trans p3⟩
   ·rintro e w2 ⟨rfl,dN,dH,p1,p2,p3⟩;exact⟨_,rfl,dN,dH,by rw[e1];exact p1,by rw[e1];exact p2,p3,by rw[e1];exact Or.inl ⟨rfl,rfl⟩⟩
  |false=>
   have e1:bR s (plain rs) n (k:Int)=dF s (plain rs):=by
    unfold bR;rw[if_neg (by omega)];simp only[rX,Bool.false_eq_true,if_false]
   refine(Az hD (hG.aM k0) hC ha hI (by omega) hh rX).mono ?_;rintro e w2 ⟨v,rfl,hE,dN,dH,p1,p2,p3⟩;exact⟨v,rfl,dN,dH,by rw[e1];exact p1,by rw[e1];exact p2,(Dk.bH k0).trans p3,by rw[e1,rX];exact Or.inr ⟨rfl,hE⟩⟩
 clear h hG hC ha hI hl k0 k1 k2 hD jH hh hr hb WV hk;go_enter Tryz.func194,Tryz.ntmps194
 go_wp2_with fail
 refine HC.out.mono ?_;rintro e w1 ⟨v,rfl,hR⟩;obtain⟨dN,dH,p1,p2,p3,p4⟩:=hR;have hR:pY w w1 ps db fv rs v (bR s (plain rs) n (k:Int)):=⟨dN,dH,p1,p2,p3,p4⟩;rcases p4 with⟨-,rfl⟩|⟨-,bb,nm,num,rfl,-⟩
 ·clear p1 p2 p3
  go_wp2_with fail
  go_ret;exact⟨_,rfl,hR⟩
 ·clear p1 p2 p3
  go_wp2_with fail
  go_ret;exact⟨_,rfl,hR⟩
theorem Jh (h:aP w db s fv rs)(hG:Ud w ps)(hC:fU s)(ha:0<=s.after)(hI:dY s.room (plain rs))(hl:rs.length<=1000):
 H K 127 #[U (M ⟨db,0,O⟩),I V n] w fun e w'=> ∃v,e=G v/\pY w w' ps db fv rs v (bR s (plain rs) n 0):=by
 obtain⟨k0,k1⟩:=new1c w (C #[U (M ⟨db,0,O⟩)] 77);have hD:=h.aM k0;have jH:=hI.sort.1
 have HC:Hid (H K 135 #[U (M ⟨db,0,O⟩),.string ⟨#[114,101,109,111,118,101]⟩,I V n,.func (.func 192) #[] #[U (M ⟨w.heap.size,0,O⟩)]] (w.alloc (C #[U (M ⟨db,0,O⟩)] 77)) fun e w'=> ∃v,e=G v/\pY w w' ps db fv rs v (bR s (plain rs) n 0)):=by
  cases hh:iE (plain rs) n with
  |false=>
   have e1:bR s (plain rs) n 0=(true,s,plain rs):=by unfold bR;rw[Ws jH hh];rfl
   refine(zR hD jH (by omega) hh).mono ?_;rintro e w' ⟨rfl,hg⟩;exact⟨_,rfl,fv,rs,by rw[e1];exact hD.aM hg,by rw[e1],Dk.bH (bD k0 hg),by rw[e1];exact Or.inl ⟨rfl,rfl⟩⟩
  |true=>
   obtain⟨r,hr,hn⟩:=vI hh;have hb:=Wq jH hh hr;have hnz:r.f.2.1.size≠0:=hI.sort.2 _ (List.mem_of_getElem? (iK hr));cases rX:(dF s (plain rs)).1 with
   |true=>
    have FT:=(Ao rX).1
    have e1:bR s (plain rs) n 0=(true,(dF s (plain rs)).2.1,(plain rs).eraseIdx (dS (plain rs) n)):=by
     unfold bR;rw[if_neg (by rw[hb];omega)];simp only[rX,if_true,FT];rw[Oz hI.sort (f:=(n,(aL (plain rs) n).extract 0 (0:Int).toNat,0)) (by simp) (hI.no (by omega)),TN jH hh]
    refine(xM (R:=fun w2=>DoD w w2 db (dF s (plain rs)).2.1 fv rs ((plain rs).eraseIdx (dS (plain rs) n))) hD jH (by omega) hh ha hC.oL XD rX (fun w1 Nk xL=>?_)).mono ?_
    ·refine(OT Nk hr (by omega) (xL.1.at k1 (fun e=>aW k1 hD.1 (by decide) e))).mono ?_;rintro e w2 ⟨rfl,dN,dH,p1,p2,p3⟩;exact⟨rfl,dN,dH,p1,p2,((Dk.bH k0).trans (Dk.Ld xL.1 xL.2 (Or.inl rfl))).trans p3⟩
    ·rintro e w2 ⟨rfl,dN,dH,p1,p2,p3⟩;exact⟨_,rfl,dN,dH,by rw[e1];exact p1,by rw[e1];exact p2,p3,by rw[e1];exact Or.inl ⟨rfl,rfl⟩⟩
   |false=>
    have e1:bR s (plain rs) n 0=dF s (plain rs):=by
     unfold bR;rw[if_neg (by rw[hb];omega)];simp only[rX,Bool.false_eq_true,if_false]
    refine(Az hD (hG.aM k0) hC ha hI (by omega) hh rX).mono ?_;rintro e w2 ⟨v,rfl,hE,dN,dH,p1,p2,p3⟩;exact⟨v,rfl,dN,dH,by rw[e1];exact p1,by rw[e1];exact p2,(Dk.bH k0).trans p3,by rw[e1,rX];exact Or.inr ⟨rfl,hE⟩⟩
 clear h hG hC ha hI hl k0 k1 hD jH;go_enter Tryz.func127,Tryz.ntmps127
 go_wp2_with fail
 refine HC.out.mono ?_;rintro e w1 ⟨v,rfl,hR⟩;obtain⟨dN,dH,p1,p2,p3,p4⟩:=hR;have hR:pY w w1 ps db fv rs v (bR s (plain rs) n 0):=⟨dN,dH,p1,p2,p3,p4⟩;rcases p4 with⟨-,rfl⟩|⟨-,bb,nm,num,rfl,-⟩
 ·clear p1 p2 p3
  go_wp2_with fail
  go_ret;exact⟨_,rfl,hR⟩
 ·clear p1 p2 p3
  go_wp2_with fail
  go_ret;exact⟨_,rfl,hR⟩
theorem FY {a:Int}(h:aP w db s fv rs):
 H K 51 #[U (M ⟨db,0,O⟩),I V a] w fun e w'=>e=G (.tuple #[])/\aP w' db { s with refusing:=true,left:=a } fv rs/\Og w w' db:=by
 obtain⟨c0,c1,c2,c3,c4,c5,c6,c7,cf⟩:=bW h.1;have f2:=cf 2;have f3:=cf 3;have HD:Hid (aP w db s fv rs):=h;clear h cf c0 c1 c4 c5 c6 c7;go_enter Tryz.func51,Tryz.ntmps51
 go_wp2_with fail
 go_end0;have h1:=HD.out.set (Jc true HD.out.1);have h2:=h1.set (Vx a h1.1);exact⟨rfl,h2,((Og.refl w db).set).set⟩
theorem pz:H K 58 #[I V n] w fun e w'=>e=G (U (M ⟨w.heap.size,0,O⟩))/\w'=w.alloc (C #[I V n,Z O 0 0,.bool false,I V 0,.bool false,I V 0,I V 0,I V 0] 137):=by
 go_enter Tryz.func58,Tryz.ntmps58
 go_wp2_with fail
 go_ret;exact⟨rfl,rfl⟩
theorem OU (h:aP w db s fv rs)(hl:rs.length<=1000000):
 H K 126 #[U (M ⟨db,0,O⟩)] w fun e w'=> ∃v,e=G v/\Mh w' w.heap.size v ((plain rs).map (fun f=>f.1))/\aJ w w':=by
 obtain⟨-,c1,-⟩:=bW h.1;obtain⟨ao,cap,rfl,gX,hm,gJ,gL⟩:=fM.form h.2.1;have HD:Hid (aP w db s (Z ao rs.length cap) rs):=h
 have HR:Hid (∀a,ao=M a->∃g,a=⟨g,0,O⟩/\∀(i:Nat) (r:FR),rs[i]?=M r->w.cell? ⟨g,i,O⟩=M r.p):=fun a e=>by
  obtain⟨g,aT,e1,-,-,-,hc⟩:=gL a e;exact⟨g,e1,hc⟩
 clear h gL;obtain⟨i0,hi,tO,tQ,uW⟩:=info_parts Tryz.infoInt;go_enter Tryz.func126,Tryz.ntmps126
 go_upto_region 2 with(at_make;refine wpList_make_own _ rfl _ _ 60 rfl w.heap.size 3 i0 (I V 0) 1 Tryz.underlying60 hi tO tQ _ _ _ rs.length rfl rfl (by omega) (by rw[uW];omega) (by unfold maxLen;omega) (Nat.le_refl _) ?_;intro w0 uH jO)
 have Ml:aJ w w0:=⟨jO.os,jO.tape,jO.output,jO.size,fun k hk=>jO.block k hk (by simp)⟩;have c1':=Ml.cell c1;have HO0:Hid (Mh w0 w.heap.size (Z (M ⟨w.heap.size,0,O⟩) 0 rs.length) []):=uH;have qc:Hid (aJ w w0):=Ml;clear uH jO Ml c1
 go_wp2_with fail
 go_loopw [3,5,17] (fun v _ i wr=> ∃k:Nat,k<=rs.length/\i=I V (k:Int)/\Hid (Mh wr w.heap.size v (((plain rs).take k).map (fun f=>f.1)))/\Hid (aJ w wr)) (fun _ _ i _=>rs.length-(intOf i).toNat)
 case atStart=>exact⟨0,Nat.zero_le _,rfl,by simpa using HO0,qc⟩
 case round=>
  obtain⟨k,hk,rfl,HO,HG⟩:=hrel;by_cases bV:k<rs.length
  ·obtain⟨r,hr⟩:∃r,rs[k]?=M r:=⟨_,List.getElem?_eq_getElem bV⟩;cases ao with
   |none=>obtain⟨rfl,-⟩:=gJ rfl;simp at bV
   |some a=>
    obtain⟨g,rfl,hc⟩:=HR.out a rfl;have d1:=HG.out.cell (hc k r hr);unfold FR.p at d1;have d2:=HG.out.cell (HD.out.row r (List.mem_of_getElem? hr));have i1:(0:Int)<=(k:Int):=by omega
    have i2:(k:Int)<(rs.length:Int):=by omega
    have HN:Hid (((plain rs).take (k+1)).map (fun f=>f.1)=((plain rs).take k).map (fun f=>f.1)++ [r.f.1]):=by
     show _=_;have hp:=iK hr;obtain⟨Uc,he⟩:=List.getElem?_eq_some_iff.1 hp;rw[List.take_succ_eq_append_getElem Uc,List.map_append,he];rfl
    obtain⟨yI,kJ,ev,-⟩:=Mh.form HO.out;subst ev;have HOW:Hid (wr.heap.size<=wr.heap.size):=Nat.le_refl _;have hws:w.heap.size<=wr.heap.size:=HG.out.size;have gu:(((plain rs).take k).map (fun f=>f.1)).length<=1000000:=by simp[plain];omega
    have yK:RdI (wr.alloc (C #[I V r.f.1] 3)) (M ⟨wr.heap.size,0,O⟩) [r.f.1]:=Or.inr ⟨wr.heap.size,0,rfl,fun i hi=>by
     have:i=0:=by simp at hi;omega
     subst this;simp⟩
    clear hr hc
    go_wp2_with (at_builtin;go_must (refine Ov (by rfl) (.tmp 21) (.tmp 26) (by rfl) w.heap.size _ (((plain rs).take k).map (fun f=>f.1)) [r.f.1] (by rfl) (by exact World.ownsRow.alloc HO.out _) _ _ _ (by rfl) (by rfl) (by intro e;cases e) (by exact yK) (by simp only[List.length_singleton];omega) (by simp;omega) ?_);intro v5 w5 jU dK)
    have hlt5:∀g,v5.ownBlock=M g->True:=fun _ _=>trivial
    have Ue:aJ w w5:=by
     have h1:=kM dK;refine⟨h1.os.trans HG.out.os,h1.tape.trans HG.out.tape,h1.output.trans HG.out.output,Nat.le_trans HG.out.size h1.size,fun k hk=>?_⟩;rw[<-HG.out.block k hk];refine h1.block k (Nat.lt_of_lt_of_le hk HG.out.size) (fun e=>?_);have:=(World.ownsRow.lt HO.out k e.symm).1;omega
    go_roundw
    case rel=>exact⟨k+1,by omega,by go_num,by show Mh _ _ _ _;rw[HN.out];exact jU,Ue⟩
    case measure=>simp[intOf];omega
  ·obtain⟨yI,kJ,ev,-⟩:=Mh.form HO.out;subst ev;have e1:(plain rs).take k=plain rs:=List.take_of_length_le (by rw[bE];omega)
   go_wp2_with fail
   go_ret;refine⟨_,rfl,?_,HG.out⟩;have:=HO.out;rw[e1]at this
   first|exact this|(rw[e1];exact this)
theorem del_row {cap:Nat}(h:aP w db s (Z (M ⟨g,0,O⟩) rs.length cap) rs)(bV:lo<rs.length)(hl:rs.length<=1000000):
 H K 193 #[Z (M ⟨g,0,O⟩) rs.length cap,I V (lo:Int),I V ((lo:Int)+1)] w fun e w'=> ∃c5,e=G (Z (M ⟨g,0,O⟩) (rs.eraseIdx lo).length c5)/\Og w w' g/\w'.heap[db]?=M (iN s (Z (M ⟨g,0,O⟩) rs.length cap))/\
  aP (w'.setCell ⟨db,1,O⟩ (Z (M ⟨g,0,O⟩) (rs.eraseIdx lo).length c5)) db s (Z (M ⟨g,0,O⟩) (rs.eraseIdx lo).length c5) (rs.eraseIdx lo):=by
 refine(Wd h.2.1 bV hl).mono ?_;rintro e w' ⟨v',g',rfl,gL,yT,pu,iV⟩;simp[Value.ownBlock]at yT;subst yT;obtain⟨oh,uY,e5,-,-,-,hro5⟩:=fM.form gL;subst e5;cases oh with
 |none=>simp[Value.ownBlock]at pu
 |some a5=>
  obtain⟨g6,cur6,rfl,-⟩:=hro5 a5 rfl;simp[Value.ownBlock]at pu;subst pu;obtain⟨cg,Wp⟩:=kV h.2.1 (g:=g6) rfl;have Le:w'.heap[db]?=M (iN s (Z (M ⟨g6,0,O⟩) rs.length cap)):=iV.1.at h.1 (fun e=>aW h.1 Wp (by decide) e);obtain⟨p1,p2⟩:=h.setRow (dN:=Z (M ⟨g6,0,O⟩) (rs.eraseIdx lo).length uY) (iV.1.mono fun b e=>by rw[e];rfl) iV.2 gL rfl (List.eraseIdx_sublist rs lo) rfl;exact⟨uY,rfl,iV,Le,p1⟩
theorem qR (h:rs.Pairwise kU)(hr:rs[lo]?=M r):∀q∈rs.eraseIdx lo,kU q r:=by
 intro q hq;obtain⟨bV,Lc⟩:=List.getElem?_eq_some_iff.1 hr;rw[lM]at hq;rcases List.mem_append.1 hq with hq|hq
 ·obtain⟨i,hi,rfl⟩:=List.getElem_of_mem hq;have hi2:i<lo:=by simp at hi;omega
  rw[List.getElem_take];exact Fy h (List.getElem?_eq_getElem (by omega)) hr (by omega)
 ·obtain⟨i,hi,rfl⟩:=List.getElem_of_mem hq;have hi2:lo+1+i<rs.length:=by simp at hi;omega
  rw[List.getElem_drop];exact Fy h (List.getElem?_eq_getElem hi2) hr (by omega)
theorem aP.swap {w':F}{cap j:Nat}(h:aP w db s (Z (M ⟨g,0,O⟩) rs.length cap) rs)(hr:fG w r)(Wi:∀q∈rs,kU q r)(hw:w'=w.setCell ⟨g,j,O⟩ r.p):
 aP w' db s (Z (M ⟨g,0,O⟩) rs.length cap) (rs.set j r)/\Fr w w' (fun b=>b=g):=by
 obtain⟨h1,h2,h3,h4⟩:=h;obtain⟨aT,Wp⟩:=kV h2 (g:=g) rfl;have hF:Fr w w' (fun b=>b=g):=by rw[hw];exact Fr.set w ⟨g,j,O⟩ r.p
 have Cg:∀q,fG w q->fG w' q:=fun q hf=>hf.fr hF (fun hx=>aW hf.1 Wp (by decide) hx) (fun k hk hx=>by
  obtain⟨c,Nj,hc⟩:=bC.ty hf.2 hk;exact aW hc Wp (by decide) hx)
 refine⟨⟨hF.at h1 (fun e=>aW h1 Wp (by decide) e),?_,fun q hq=>?_,?_⟩,hF⟩
 ·obtain⟨ao,yZ,e,gX,hm,-,gL⟩:=fM.form h2;cases e
  obtain⟨g',rW,e,hg,hcs,Yr,-⟩:=gL _ rfl;cases e
  refine⟨by simp,Or.inr ⟨g,cap,rW.setIfInBounds j r.p,by rw[List.length_set],Nat.zero_le _,by rw[hw];exact heap_setCell_same w g j rW _ _ hg,by rw[List.length_set];exact gX,hm,by simpa using hcs,?_⟩⟩;have e0:(rW.setIfInBounds j r.p).toList=rW.toList.set j r.p:=by simp
  rw[e0,List.length_set,Nat.mul_one,List.take_set,Yr,List.map_set]
 ·rcases List.mem_or_eq_of_mem_set hq with hq|rfl
  ·exact Cg q (h3 q hq)
  ·exact Cg q hr
 ·rw[List.pairwise_iff_getElem];intro i k hi hk WR;have ZW:i<rs.length:=by simpa using hi
  have hk':k<rs.length:=by simpa using hk
  rw[List.getElem_set,List.getElem_set];by_cases hij:j=i
  ·rw[if_pos hij,if_neg (by omega)];exact(Wi _ (List.getElem_mem hk')).symm
  ·rw[if_neg hij];by_cases hkj:j=k
   ·rw[if_pos hkj];exact Wi _ (List.getElem_mem ZW)
   ·rw[if_neg hkj];exact List.pairwise_iff_getElem.1 h4 i k ZW hk' WR
def jP (s:Sc)(fs:List bF)(n t2:Int):Bool×Sc×List bF:=match eO fs n with
 |none=>(true,s,fs)
 |some f=>let r:=dF s fs;if r.1 then (true,r.2.1,iR (gP fs n) (t2,f.2.1,f.2.2))else r
def MvD (w w':F)(db:Nat)(s:Sc)(fv:Y)(rs:List FR)(lo:Nat)(r:FR)(t2:Int):Prop:=∃dN dH,aP w' db s dN dH/\plain dH=iR (plain (rs.eraseIdx lo)) (t2,r.f.2.1,r.f.2.2)/\Dk w w' (DX db fv rs) (DX db dN dH)
theorem Lg (rs:List FR)(lo:Nat):plain (rs.eraseIdx lo)=(plain rs).eraseIdx lo:=by
 unfold plain;rw[lM,lM,List.map_append,List.map_take,List.map_drop]
theorem xO (hs:(plain rs).Pairwise (fun a b=>a.1<b.1))(lo:Nat):(plain (rs.eraseIdx lo)).Pairwise (fun a b=>a.1<b.1):=by
 rw[Lg];exact hs.sublist (List.eraseIdx_sublist _ _)
end Go.Proofs.YtfplgfodoiiobaaGreatDoor
