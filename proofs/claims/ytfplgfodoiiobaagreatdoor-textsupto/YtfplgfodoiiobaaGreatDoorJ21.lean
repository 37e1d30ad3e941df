/- PgP, PgQ, PgR, PgS, PgX (joined). -/
import Derived.Test.YtfplgfodoiiobaaGreatDoorJ20
open Option renaming none→O,some→M
open Go.Value renaming int→I,slice→Z,pointer→U
open Go.IntKind renaming i64→V
open Go.Obj renaming cells→C
open Go.Ending renaming returned→G
open Go renaming World→F,Value→Y,Calls→H
open Go.Proofs.Tryz renaming prog→K
namespace Go.Proofs.YtfplgfodoiiobaaGreatDoor
set_option maxHeartbeats 4000000
set_option maxRecDepth 100000
open Go.RowKit
variable {w:F}{rs:List FR}{db g lo bx k:Nat}{s:Sc}{fv:Y}{n a b c:Int}{r:FR}{lb:Array Y}{ps:Nat->Addr}{nm:ByteArray}
theorem MV {b7 b9:Nat}{lo:Int}{R:F->Prop}(c7:w.cell? ⟨b7,0,O⟩=M (.func (.func g) #[] lb))(c9:w.cell? ⟨b9,0,O⟩=M (I V lo))(eg:∀(args:Array Y) (w:F),(callFunc g args).run K w= .ok (.enter g args) w)
 (hc:H K g (#[I V lo]++lb) w fun e w'=>e=G (.tuple #[])/\R w'):
 H K 215 #[U (M ⟨b7,0,O⟩),U (M ⟨b9,0,O⟩)] w fun e w'=>e=G (.tuple #[])/\R w':=by
 go_enter Tryz.func215,Tryz.ntmps215
 go_wp2_with (go_at_fn g;refine hc.mono ?_;rintro e w2 ⟨rfl,hR⟩)
 go_end0;exact⟨rfl,hR⟩
theorem VA:∀(args:Array Y) (w:F),(callFunc 215 args).run K w= .ok (.enter 215 args) w:=enters_of Tryz.func215 (by kernel_rfl) rfl
theorem Nn (h:aW w db s fv rs)(hs:(plain rs).Pairwise (fun a b=>a.1<b.1))(hl:rs.length<=1000000)(hh:kC (plain rs) n=false):
 H K 135 #[U (M ⟨db,0,O⟩),.string nm,I V n,.func (.func g) #[] lb] w fun e w'=>e=G .nilIface/\aL w w':=by
 have hF:=Dr (n:=n) (h.aN (aO w (C #[.func (.func g) #[] lb] 95))) hs hl;rw[hh]at hF;generalize fK (plain rs) n=lo at hF;clear h hs hh;go_enter Tryz.func135,Tryz.ntmps135
 go_wp2_with (go_at_call 177;refine hF.mono ?_;rintro e w1 ⟨rfl,rfl⟩)
 go_ret;refine⟨rfl,?_⟩
 repeat (first|exact aL.refl _|refine aL.alloc ?_ _|refine aL.drew ?_)
theorem RD (w:F)(o1 o2:Obj):aL w ((w.alloc o1).alloc o2)/\((w.alloc o1).alloc o2).heap[w.heap.size]?=M o1/\((w.alloc o1).alloc o2).heap[w.heap.size+1]?=M o2:=⟨aL.alloc (aL.alloc (aL.refl w) _) _,QZ w o1 o2,new2b w o1 o2⟩
theorem Gh {R:F->Prop}(h:aW w db s fv rs)(hs:(plain rs).Pairwise (fun a b=>a.1<b.1))(hl:rs.length<=1000000)(hh:kC (plain rs) n=true)(ha:0<=s.after)(ZL:s.after<=9223372036854775807)
 (eg:∀(args:Array Y) (w:F),(callFunc g args).run K w= .ok (.enter g args) w)(dV:(dK s (plain rs)).1=true)
 (MQ:∀w1,aW w1 db (dK s (plain rs)).2.1 fv rs->Og w w1 db->H K g (#[I V (fK (plain rs) n:Nat)]++lb) w1 fun e w2=>e=G (.tuple #[])/\R w2):
 H K 135 #[U (M ⟨db,0,O⟩),.string nm,I V n,.func (.func g) #[] lb] w fun e w'=>e=G .nilIface/\R w':=by
 have hF:=Dr (n:=n) (h.aN (aO w (C #[.func (.func g) #[] lb] 95))) hs hl;rw[hh]at hF;obtain⟨k0,k1,k2⟩:=RD w (C #[.func (.func g) #[] lb] 95) (C #[I V (fK (plain rs) n:Nat)] 3)
 have MU:=FB (nm:=nm) (num:=n) (g:=215) (lb:=#[U (M ⟨w.heap.size,0,O⟩),U (M ⟨w.heap.size+1,0,O⟩)]) (R:=R) (h.aN k0) ha ZL VA dV (fun w1 xG Kn=>by
  have hne:∀(k:Nat) (aS:Array Y) (t:TypeId),((w.alloc (C #[.func (.func g) #[] lb] 95)).alloc (C #[I V (fK (plain rs) n:Nat)] 3)).heap[k]?=M (Obj.cells aS t (0,0))->t≠137->w1.heap[k]?=M (Obj.cells aS t (0,0)):=fun k aS t hk ht=>Kn.1.at hk (fun e=>bB hk (h.aN k0).1 ht e)
  refine MV (lo:=(fK (plain rs) n:Nat)) (by simp[World.cell?,hne _ _ _ k1 (by decide)]) (by simp[World.cell?,hne _ _ _ k2 (by decide)]) eg (MQ w1 xG ?_);exact((Og.refl w db).aN k0).trans Kn)
 generalize fK (plain rs) n=lo at hF MU;clear h hs hh MQ dV k0 k1 k2;go_enter Tryz.func135,Tryz.ntmps135
 go_wp2_with (first|(go_at_call 177;refine hF.mono ?_;rintro e w1 ⟨rfl,rfl⟩)|(go_at_call 211;refine MU.mono ?_;rintro e w2 ⟨rfl,hR⟩))
 go_ret;exact⟨rfl,hR⟩
theorem Ls (h:aW w db s fv rs)(hG:Xf w ps)(hC:jO s)(ha:0<=s.after)(hI:gN s.room (plain rs))(hl:rs.length<=1000000)(hh:kC (plain rs) n=true)(dV:(dK s (plain rs)).1=false):
 H K 135 #[U (M ⟨db,0,O⟩),.string nm,I V n,.func (.func g) #[] lb] w fun e w'=> ∃v,e=G v/\MR w w' ps db s fv rs v:=by
 have hF:=Dr (n:=n) (h.aN (aO w (C #[.func (.func g) #[] lb] 95))) hI.sort.1 hl;rw[hh]at hF;obtain⟨k0,k1,k2⟩:=RD w (C #[.func (.func g) #[] lb] 95) (C #[I V (fK (plain rs) n:Nat)] 3);have MU:=fun fn=>QX (nm:=nm) (num:=n) (fn:=fn) (h.aN k0) (hG.aN k0) ha hC.oH hl hI.ok hI.sort.1 hC.Om hC.Av hC.UB hC.Wt dV
 have HK:Hid (aL w ((w.alloc (C #[.func (.func g) #[] lb] 95)).alloc (C #[I V (fK (plain rs) n:Nat)] 3))):=k0;generalize fK (plain rs) n=lo at hF MU HK;clear h hh dV k0 k1 k2 hG hC hI;go_enter Tryz.func135,Tryz.ntmps135
 go_wp2_with (go_at_call 177;refine hF.mono ?_;rintro e w1 ⟨rfl,rfl⟩)
 refine(MU _).mono ?_;rintro e w2 ⟨v,rfl,⟨bb,nm',num,rfl,UC⟩,fO,eZ,p1,p2,p3⟩
 go_wp2_with fail
 go_ret;exact⟨_,rfl,⟨bb,nm',num,rfl,UC⟩,fO,eZ,p1,p2,(Dk.dJ HK.out).trans p3⟩
def FM (w:F)(ps:Nat->Addr)(v:Y)(ok:Bool):Prop:=(ok=true/\v= .nilIface)\/(ok=false/\Jc w ps v 2)
def Jd (w w':F)(ps:Nat->Addr)(db:Nat)(fv:Y)(rs:List FR)(v:Y)(r:Bool×Sc×List bE):Prop:=
 ∃fO eZ,aW w' db r.2.1 fO eZ/\plain eZ=r.2.2/\Dk w w' (DX db fv rs) (DX db fO eZ)/\FM w' ps v r.1
def DoD (w w':F)(db:Nat)(s:Sc)(fv:Y)(rs:List FR)(fZ:List bE):Prop:=∃fO eZ,aW w' db s fO eZ/\plain eZ=fZ/\Dk w w' (DX db fv rs) (DX db fO eZ)
theorem aW.at (h:aW w db s fv rs)(hr:rs[lo]?=M r):∃g cap,fv=Z (M ⟨g,0,O⟩) rs.length cap/\w.cell? ⟨db,1,O⟩=M (Z (M ⟨g,0,O⟩) rs.length cap)/\w.frozen? ⟨db,1,O⟩=false/\w.cell? ⟨g,lo,O⟩=M (U (M ⟨r.b,0,O⟩))/\lo<rs.length/\iQ w r:=by
 have bT:=(List.getElem?_eq_some_iff.1 hr).1;obtain⟨-,c1,-,-,-,-,-,-,cf⟩:=dO h.1;obtain⟨ao,cap,rfl,-,-,gP,jE⟩:=iJ.form h.2.1;cases ao with
 |none=>obtain⟨rfl,-⟩:=gP rfl;simp at bT
 |some a=>
  obtain⟨g,aS,rfl,-,-,-,hc⟩:=jE a rfl;exact⟨g,cap,rfl,c1,cf 1,hc _ r hr,bT,h.2.2.1 r (List.mem_of_getElem? hr)⟩
theorem VB (h:aW w db s fv rs)(hr:rs[lo]?=M r)(c0:w.cell? ⟨bx,0,O⟩=M (U (M ⟨db,0,O⟩))):
 H K 136 #[I V (lo:Int),U (M ⟨bx,0,O⟩)] w fun e w'=>e=G (.tuple #[])/\DoD w w' db s fv rs ((plain rs).set lo (r.f.1,r.f.2.1,(r.f.2.1.size:Int))):=by
 obtain⟨g,cap,rfl,c1,-,c2,bT,hf⟩:=h.at hr;have hFl:=Xa hf;have HD:Hid (aW w db s (Z (M ⟨g,0,O⟩) rs.length cap) rs):=h;have HR:Hid (rs[lo]?=M r):=hr;have i1:(0:Int)<=(lo:Int):=by omega
 have i2:(lo:Int)<(rs.length:Int):=by omega
 clear h hr hf;go_enter Tryz.func136,Tryz.ntmps136
 go_wp2_with fail
 refine hFl.mono ?_;rintro e w1 ⟨rfl,hF1,Kn⟩
 go_wp2_with fail
 go_end0;obtain⟨p1,p2⟩:=HD.out.Jb (r':=(r.b,r.v,(r.f.1,r.f.2.1,(r.f.2.1.size:Int)))) HR.out rfl (Kn.1.mono fun b e=>Or.inl e) Kn.2 hF1 (Or.inl rfl);exact⟨rfl,_,_,p1,by rw[Lp];rfl,p2⟩
theorem e_cut:∀(args:Array Y) (w:F),(callFunc 237 args).run K w= .ok (.enter 237 args) w:=enters_of Tryz.func237 (by kernel_rfl) rfl
theorem mg:∀(args:Array Y) (w:F),(callFunc 193 args).run K w= .ok (.enter 193 args) w:=enters_of Tryz.func193 (by kernel_rfl) rfl
theorem mh:∀(args:Array Y) (w:F),(callFunc 136 args).run K w= .ok (.enter 136 args) w:=enters_of Tryz.func136 (by kernel_rfl) rfl
theorem e_cut1:∀(args:Array Y) (w:F),(callFunc 236 args).run K w= .ok (.enter 236 args) w:=enters_of Tryz.func236 (by kernel_rfl) rfl
theorem VD:∀(args:Array Y) (w:F),(callFunc 192 args).run K w= .ok (.enter 192 args) w:=enters_of Tryz.func192 (by kernel_rfl) rfl
theorem cut1_pg {by':Nat}(h:aW w db s fv rs)(hr:rs[lo]?=M r)(hk:k<=r.f.2.1.size)(hz:r.f.2.1.size<=2000000)(c0:w.cell? ⟨bx,0,O⟩=M (U (M ⟨db,0,O⟩)))(c0':w.cell? ⟨by',0,O⟩=M (I V (k:Int))):
 H K 236 #[I V (lo:Int),U (M ⟨bx,0,O⟩),U (M ⟨by',0,O⟩)] w fun e w'=>e=G (.tuple #[])/\DoD w w' db s fv rs ((plain rs).set lo (r.f.1,r.f.2.1.extract 0 k,(k:Int))):=by
 obtain⟨g,cap,rfl,c1,-,c2,bT,hf⟩:=h.at hr
 have HC:Hid (∀W,aL w W->H K 237 #[U (M ⟨r.b,0,O⟩),I V (k:Int)] W fun e w'=>e=G (.tuple #[])/\DoD w w' db s (Z (M ⟨g,0,O⟩) rs.length cap) rs ((plain rs).set lo (r.f.1,r.f.2.1.extract 0 k,(k:Int)))):=fun W hW=>by
  refine(QT (w:=W) (n:=k) ⟨(hW.block _ (aM hf.1)).trans hf.1,hf.2.aN hW⟩ hk hz).mono ?_;rintro e w' ⟨rfl,v',hF,nW,Zj⟩;obtain⟨p1,p2⟩:=(h.aN hW).Jb (r':=(r.b,v',(r.f.1,r.f.2.1.extract 0 k,(k:Int)))) hr rfl (nW.1.mono fun b e=>Or.inl e) nW.2 hF (Or.inr Zj);exact⟨rfl,_,_,p1,by rw[Lp];rfl,(Dk.dJ hW).trans p2⟩
 have i1:(0:Int)<=(lo:Int):=by omega
 have i2:(lo:Int)<(rs.length:Int):=by omega
 clear h hr hf;go_enter Tryz.func236,Tryz.ntmps236
 go_region_law ((refine eD (by rfl) 237 _ _ (by rfl) _ (by simp[Act.eval];done) e_cut ((HC.out _ (by repeat (first|exact aL.refl _|refine aL.drew ?_))).mono ?_);rintro e w5 ⟨rfl,MQ⟩;refine⟨_,rfl,?_⟩))
 all_goals go_wp2_with fail
 all_goals go_end0
 all_goals exact⟨rfl,MQ⟩
theorem MW (h:aW w db s fv rs)(hr:rs[lo]?=M r)(hl:rs.length<=1000000)(c0:w.heap[bx]?=M (C #[U (M ⟨db,0,O⟩)] 77 (0,0))):
 H K 192 #[I V (lo:Int),U (M ⟨bx,0,O⟩)] w fun e w'=>e=G (.tuple #[])/\DoD w w' db s fv rs ((plain rs).eraseIdx lo):=by
 obtain⟨g,cap,rfl,c1,c1f,c2,bT,hf⟩:=h.at hr
 have HC:Hid (∀W,aL w W->H K 193 #[Z (M ⟨g,0,O⟩) rs.length cap,I V (lo:Int),I V ((lo:Int)+1)] W fun e w'=> ∃(c5 n5:Nat),e=G (Z (M ⟨g,0,O⟩) n5 c5)/\w'.cell? ⟨bx,0,O⟩=M (U (M ⟨db,0,O⟩))/\w'.cell? ⟨db,1,O⟩=M (Z (M ⟨g,0,O⟩) rs.length cap)/\w'.frozen? ⟨db,1,O⟩=false/\DoD w (w'.setCell ⟨db,1,O⟩ (Z (M ⟨g,0,O⟩) n5 c5)) db s (Z (M ⟨g,0,O⟩) rs.length cap) rs ((plain rs).eraseIdx lo)):=fun W hW=>by
  refine(UL (h.aN hW).2.1 bT hl).mono ?_;rintro e w' ⟨v',g',rfl,jE,wU,hgv,nW⟩;simp[Value.ownBlock]at wU;subst wU;obtain⟨Wh,Ac,e5,-,-,-,hro5⟩:=iJ.form jE;subst e5;cases Wh with
  |none=>simp[Value.ownBlock]at hgv
  |some a5=>
   obtain⟨g6,cur6,rfl,-⟩:=hro5 a5 rfl;simp[Value.ownBlock]at hgv;subst hgv;obtain⟨cg,hcg⟩:=mF (h.aN hW).2.1 (g:=g6) rfl;have CO:w'.heap[db]?=M (jI s (Z (M ⟨g6,0,O⟩) rs.length cap)):=nW.1.at (h.aN hW).1 (fun e=>bB (h.aN hW).1 hcg (by decide) e);have oJ:w'.heap[bx]?=M (C #[U (M ⟨db,0,O⟩)] 77 (0,0)):=nW.1.at ((hW.block _ (aM c0)).trans c0) (fun e=>bB ((hW.block _ (aM c0)).trans c0) hcg (by decide) e);obtain⟨-,m1,-,-,-,-,-,-,mf⟩:=dO CO;obtain⟨p1,p2⟩:=(h.aN hW).setRow (fO:=Z (M ⟨g6,0,O⟩) (rs.eraseIdx lo).length Ac) (nW.1.mono fun b e=>by rw[e];rfl) nW.2 jE rfl (List.eraseIdx_sublist rs lo) rfl;refine⟨Ac,(rs.eraseIdx lo).length,rfl,by simp[World.cell?,oJ],m1,mf 1,_,_,p1,?_,(Dk.dJ hW).trans p2⟩;unfold plain;rw[xQ,xQ,List.map_append,List.map_take,List.map_drop]
 have c0':w.cell? ⟨bx,0,O⟩=M (U (M ⟨db,0,O⟩)):=by simp[World.cell?,c0]
 have jJ:IntKind.i64.wrap ((lo:Int)+1)=(lo:Int)+1:=by rw[IntKind.wrap_i64];omega
 clear h hr hf c0 c2;go_enter Tryz.func192,Tryz.ntmps192
 go_region_law ((refine eD (by rfl) 193 _ _ (by rfl) _ (by simp[Act.eval];done) mg ((HC.out _ (by repeat (first|exact aL.refl _|refine aL.drew ?_))).mono ?_);rintro e w5 ⟨c5,n5,rfl,y0,y1,y2,MQ⟩;refine⟨_,rfl,?_⟩))
 all_goals go_wp2_with fail
 all_goals go_end0
 all_goals exact⟨rfl,MQ⟩
theorem new1c (w:F)(o:Obj):aL w (w.alloc o)/\(w.alloc o).heap[w.heap.size]?=M o:=⟨aL.alloc (aL.refl w) _,heap_alloc_new w o⟩
theorem mo (h:aW w db s fv rs)(hG:Xf w ps)(hC:jO s)(ha:0<=s.after)(hI:gN s.room (plain rs))(hl:rs.length<=1000):
 H K 89 #[U (M ⟨db,0,O⟩),I V n] w fun e w'=> ∃v,e=G v/\Jd w w' ps db fv rs v (dH s (plain rs) n):=by
 obtain⟨k0,k1⟩:=new1c w (C #[U (M ⟨db,0,O⟩)] 77);have hD:=h.aN k0;have hp:=Io hI.sort.1 n
 have HC:Hid (H K 135 #[U (M ⟨db,0,O⟩),.string ⟨#[102,108,117,115,104]⟩,I V n,.func (.func 136) #[] #[U (M ⟨w.heap.size,0,O⟩)]] (w.alloc (C #[U (M ⟨db,0,O⟩)] 77)) fun e w'=> ∃v,e=G v/\Jd w w' ps db fv rs v (dH s (plain rs) n)):=by
  cases hh:kC (plain rs) n with
  |false=>
   have e1:dH s (plain rs) n=(true,s,plain rs):=by unfold dH;rw[hp,hh];rfl
   refine(Nn hD hI.sort.1 (by omega) hh).mono ?_;rintro e w' ⟨rfl,hg⟩;exact⟨_,rfl,fv,rs,by rw[e1];exact hD.aN hg,by rw[e1],Dk.dJ (aQ k0 hg),by rw[e1];exact Or.inl ⟨rfl,rfl⟩⟩
  |true=>
   rw[hh]at hp;obtain⟨r,hr,hn⟩:=Dt hh;cases dV:(dK s (plain rs)).1 with
   |true=>
    have FL:=Dq dV
    have hb:aP (plain rs) n=r.f.2.1:=by
     rcases zW hI.sort.1 n with⟨q,-,hq,-,e,-⟩|⟨e,-⟩
     ·rw[hr]at hq;cases hq;exact e
     ·rw[hh]at e;cases e
    have e1:dH s (plain rs) n=(true,(dK s (plain rs)).2.1,(plain rs).set (fK (plain rs) n) (r.f.1,r.f.2.1,(r.f.2.1.size:Int))):=by
     unfold dH;rw[hp];simp only[if_true,dV,FL,hb,hn]
    refine(Gh (R:=fun w2=>DoD w w2 db (dK s (plain rs)).2.1 fv rs ((plain rs).set (fK (plain rs) n) (r.f.1,r.f.2.1,(r.f.2.1.size:Int)))) hD hI.sort.1 (by omega) hh ha hC.oH mh dV (fun w1 xG Kn=>?_)).mono ?_
    ·refine(VB xG hr ?_).mono ?_
     ·have:=Kn.1.at k1 (fun e=>bB k1 hD.1 (by decide) e);simp[World.cell?,this]
     ·rintro e w2 ⟨rfl,fO,eZ,p1,p2,p3⟩;exact⟨rfl,fO,eZ,p1,p2,((Dk.dJ k0).trans (Dk.Rl Kn.1 Kn.2 (Or.inl rfl))).trans p3⟩
    ·rintro e w2 ⟨rfl,fO,eZ,p1,p2,p3⟩;exact⟨_,rfl,fO,eZ,by rw[e1];exact p1,by rw[e1];exact p2,p3,by rw[e1];exact Or.inl ⟨rfl,rfl⟩⟩
   |false=>
    have e1:dH s (plain rs) n=dK s (plain rs):=by
     unfold dH;rw[hp];simp only[if_true,dV,Bool.false_eq_true,if_false]
    refine(Ls hD (hG.aN k0) hC ha hI (by omega) hh dV).mono ?_;rintro e w2 ⟨v,rfl,hE,fO,eZ,p1,p2,p3⟩;exact⟨v,rfl,fO,eZ,by rw[e1];exact p1,by rw[e1];exact p2,(Dk.dJ k0).trans p3,by rw[e1,dV];exact Or.inr ⟨rfl,hE⟩⟩
 clear h hG hC ha hI hl k0 k1 hD hp;go_enter Tryz.func89,Tryz.ntmps89
 go_wp2_with fail
 refine HC.out.mono ?_;rintro e w1 ⟨v,rfl,hR⟩;obtain⟨fO,eZ,p1,p2,p3,p4⟩:=hR;have hR:Jd w w1 ps db fv rs v (dH s (plain rs) n):=⟨fO,eZ,p1,p2,p3,p4⟩;rcases p4 with⟨-,rfl⟩|⟨-,bb,nm,num,rfl,-⟩
 ·clear p1 p2 p3
  go_wp2_with fail
  go_ret;exact⟨_,rfl,hR⟩
 ·clear p1 p2 p3
  go_wp2_with fail
  go_ret;exact⟨_,rfl,hR⟩
theorem Xj (hs:(plain rs).Pairwise (fun a b=>a.1<b.1))(hh:kC (plain rs) n=true)(hr:rs[fK (plain rs) n]?=M r):aP (plain rs) n=r.f.2.1:=by
 rcases zW hs n with⟨q,-,hq,-,e,-⟩|⟨e,-⟩
 ·rw[hr]at hq;cases hq;exact e
 ·rw[hh]at e;cases e
theorem Xk (hs:(plain rs).Pairwise (fun a b=>a.1<b.1))(hh:kC (plain rs) n=false):aP (plain rs) n=⟨#[]⟩:=by
 rcases zW hs n with⟨q,e,-⟩|⟨-,e,-⟩
 ·rw[hh]at e;cases e
 ·exact e
theorem FN (hs:(plain rs).Pairwise (fun a b=>a.1<b.1))(h:(aP (plain rs) n).size≠0):kC (plain rs) n=true:=by
 cases hh:kC (plain rs) n with
 |true=>rfl
 |false=>rw[Xk hs hh]at h;exact absurd rfl h
theorem del_low {l:List bE}(hs:l.Pairwise (fun a b=>a.1<b.1))(hh:kC l n=true):lZ l n=l.eraseIdx (fK l n):=by
 obtain⟨h1,h2⟩:=Xg hs n;unfold kC at hh;cases e:l[fK l n]? with
 |none=>rw[e]at hh;simp at hh
 |some g=>
  rw[e]at hh;have hg:g.1=n:=by simpa using hh
  obtain⟨bT,Oe⟩:=List.getElem?_eq_some_iff.1 e;have e1:l=l.take (fK l n)++g::l.drop (fK l n+1):=by rw[<-Oe,<-List.drop_eq_getElem_cons bT,List.take_append_drop]
  have h3:∀q∈l.drop (fK l n+1),n<q.1:=by
   intro q hq;have hp:(l.take (fK l n)++g::l.drop (fK l n+1)).Pairwise (fun a b=>a.1<b.1):=by rw[<-e1];exact hs
   rw[List.pairwise_append,List.pairwise_cons]at hp;have:=hp.2.1.1 q hq;omega
  rw[xQ];unfold lZ;have e2:l.filter (fun g=>g.1 !=n)=(l.take (fK l n)++g::l.drop (fK l n+1)).filter (fun g=>g.1 !=n):=by rw[<-e1]
  rw[e2,List.filter_append,List.filter_cons];have e3:(g.1 !=n)=false:=by simp[hg]
  rw[e3];simp only[Bool.false_eq_true,if_false];rw[List.filter_eq_self.2,List.filter_eq_self.2]
  ·intro q hq;have:=h3 q hq;simp;omega
  ·intro q hq;have:=h1 q hq;simp;omega
theorem cut_pg (h:aW w db s fv rs)(hG:Xf w ps)(hC:jO s)(ha:0<=s.after)(hI:gN s.room (plain rs))(hl:rs.length<=1000)(hk0:0<k)(hk:k<(aP (plain rs) n).size):
 H K 194 #[U (M ⟨db,0,O⟩),I V n,I V (k:Int)] w fun e w'=> ∃v,e=G v/\Jd w w' ps db fv rs v (bP s (plain rs) n (k:Int)):=by
 obtain⟨k0,k1,k2⟩:=RD w (C #[U (M ⟨db,0,O⟩)] 77) (C #[I V (k:Int)] 3);have hD:=h.aN k0;have oL:=hI.sort.1;have hh:=FN oL (n:=n) (by omega);obtain⟨r,hr,hn⟩:=Dt hh;have hb:=Xj oL hh hr;have UQ:=hI.ok _ (List.mem_of_getElem? (jS hr))
 have HC:Hid (H K 135 #[U (M ⟨db,0,O⟩),.string ⟨#[99,117,116]⟩,I V n,.func (.func 236) #[] #[U (M ⟨w.heap.size,0,O⟩),U (M ⟨w.heap.size+1,0,O⟩)]] ((w.alloc (C #[U (M ⟨db,0,O⟩)] 77)).alloc (C #[I V (k:Int)] 3)) fun e w'=> ∃v,e=G v/\Jd w w' ps db fv rs v (bP s (plain rs) n (k:Int))):=by
  cases dV:(dK s (plain rs)).1 with
  |true=>
   have FL:=(Dq dV).1;have hz:(r.f.2.1.extract 0 k).size≠0:=by rw[ByteArray.size_extract,<-hb];omega
   have e1:bP s (plain rs) n (k:Int)=(true,(dK s (plain rs)).2.1,(plain rs).set (fK (plain rs) n) (r.f.1,r.f.2.1.extract 0 k,(k:Int))):=by
    unfold bP;rw[if_neg (by omega)];simp only[dV,if_true,FL,hb,Int.toNat_natCast];rw[Cj hI.sort (f:=(n,r.f.2.1.extract 0 k,(k:Int))) hz (hI.no (by omega)),Rz oL,hh,if_pos rfl,hn]
   refine(Gh (R:=fun w2=>DoD w w2 db (dK s (plain rs)).2.1 fv rs ((plain rs).set (fK (plain rs) n) (r.f.1,r.f.2.1.extract 0 k,(k:Int)))) hD oL (by omega) hh ha hC.oH e_cut1 dV (fun w1 xG Kn=>?_)).mono ?_
   ·refine(cut1_pg (k:=k) xG hr (by rw[<-hb];omega) UQ.2.2 ?_ ?_).mono ?_
    ·have:=Kn.1.at k1 (fun e=>bB k1 hD.1 (by decide) e);simp[World.cell?,this]
    ·have:=Kn.1.at k2 (fun e=>bB k2 hD.1 (by decide) e);simp[World.cell?,this]
    ·rintro e w2 ⟨rfl,fO,eZ,p1,p2,p3⟩;exact⟨rfl,fO,eZ,p1,p2,((Dk.dJ k0).trans (Dk.Rl Kn.1 Kn.2 (Or.inl rfl))).trans p3⟩
   ·rintro e w2 ⟨rfl,fO,eZ,p1,p2,p3⟩;exact⟨_,rfl,fO,eZ,by rw[e1];exact p1,by rw[e1];exact p2,p3,by rw[e1];exact Or.inl ⟨rfl,rfl⟩⟩
  |false=>
   have e1:bP s (plain rs) n (k:Int)=dK s (plain rs):=by
    unfold bP;rw[if_neg (by omega)];simp only[dV,Bool.false_eq_true,if_false]
   refine(Ls hD (hG.aN k0) hC ha hI (by omega) hh dV).mono ?_;rintro e w2 ⟨v,rfl,hE,fO,eZ,p1,p2,p3⟩;exact⟨v,rfl,fO,eZ,by rw[e1];exact p1,by rw[e1];exact p2,(Dk.dJ k0).trans p3,by rw[e1,dV];exact Or.inr ⟨rfl,hE⟩⟩
 clear h hG hC ha hI hl k0 k1 k2 hD oL hh hr hb UQ hk;go_enter Tryz.func194,Tryz.ntmps194
 go_wp2_with fail
 refine HC.out.mono ?_;rintro e w1 ⟨v,rfl,hR⟩;obtain⟨fO,eZ,p1,p2,p3,p4⟩:=hR;have hR:Jd w w1 ps db fv rs v (bP s (plain rs) n (k:Int)):=⟨fO,eZ,p1,p2,p3,p4⟩;rcases p4 with⟨-,rfl⟩|⟨-,bb,nm,num,rfl,-⟩
 ·clear p1 p2 p3
  go_wp2_with fail
  go_ret;exact⟨_,rfl,hR⟩
 ·clear p1 p2 p3
  go_wp2_with fail
  go_ret;exact⟨_,rfl,hR⟩
theorem Xl (h:aW w db s fv rs)(hG:Xf w ps)(hC:jO s)(ha:0<=s.after)(hI:gN s.room (plain rs))(hl:rs.length<=1000):
 H K 127 #[U (M ⟨db,0,O⟩),I V n] w fun e w'=> ∃v,e=G v/\Jd w w' ps db fv rs v (bP s (plain rs) n 0):=by
 obtain⟨k0,k1⟩:=new1c w (C #[U (M ⟨db,0,O⟩)] 77);have hD:=h.aN k0;have oL:=hI.sort.1
 have HC:Hid (H K 135 #[U (M ⟨db,0,O⟩),.string ⟨#[114,101,109,111,118,101]⟩,I V n,.func (.func 192) #[] #[U (M ⟨w.heap.size,0,O⟩)]] (w.alloc (C #[U (M ⟨db,0,O⟩)] 77)) fun e w'=> ∃v,e=G v/\Jd w w' ps db fv rs v (bP s (plain rs) n 0)):=by
  cases hh:kC (plain rs) n with
  |false=>
   have e1:bP s (plain rs) n 0=(true,s,plain rs):=by unfold bP;rw[Xk oL hh];rfl
   refine(Nn hD oL (by omega) hh).mono ?_;rintro e w' ⟨rfl,hg⟩;exact⟨_,rfl,fv,rs,by rw[e1];exact hD.aN hg,by rw[e1],Dk.dJ (aQ k0 hg),by rw[e1];exact Or.inl ⟨rfl,rfl⟩⟩
  |true=>
   obtain⟨r,hr,hn⟩:=Dt hh;have hb:=Xj oL hh hr;have hnz:r.f.2.1.size≠0:=hI.sort.2 _ (List.mem_of_getElem? (jS hr));cases dV:(dK s (plain rs)).1 with
   |true=>
    have FL:=(Dq dV).1
    have e1:bP s (plain rs) n 0=(true,(dK s (plain rs)).2.1,(plain rs).eraseIdx (fK (plain rs) n)):=by
     unfold bP;rw[if_neg (by rw[hb];omega)];simp only[dV,if_true,FL];rw[Ri hI.sort (f:=(n,(aP (plain rs) n).extract 0 (0:Int).toNat,0)) (by simp) (hI.no (by omega)),del_low oL hh]
    refine(Gh (R:=fun w2=>DoD w w2 db (dK s (plain rs)).2.1 fv rs ((plain rs).eraseIdx (fK (plain rs) n))) hD oL (by omega) hh ha hC.oH VD dV (fun w1 xG Kn=>?_)).mono ?_
    ·refine(MW xG hr (by omega) (Kn.1.at k1 (fun e=>bB k1 hD.1 (by decide) e))).mono ?_;rintro e w2 ⟨rfl,fO,eZ,p1,p2,p3⟩;exact⟨rfl,fO,eZ,p1,p2,((Dk.dJ k0).trans (Dk.Rl Kn.1 Kn.2 (Or.inl rfl))).trans p3⟩
    ·rintro e w2 ⟨rfl,fO,eZ,p1,p2,p3⟩;exact⟨_,rfl,fO,eZ,by rw[e1];exact p1,by rw[e1];exact p2,p3,by rw[e1];exact Or.inl ⟨rfl,rfl⟩⟩
   |false=>
    have e1:bP s (plain rs) n 0=dK s (plain rs):=by
     unfold bP;rw[if_neg (by rw[hb];omega)];simp only[dV,Bool.false_eq_true,if_false]
    refine(Ls hD (hG.aN k0) hC ha hI (by omega) hh dV).mono ?_;rintro e w2 ⟨v,rfl,hE,fO,eZ,p1,p2,p3⟩;exact⟨v,rfl,fO,eZ,by rw[e1];exact p1,by rw[e1];exact p2,(Dk.dJ k0).trans p3,by rw[e1,dV];exact Or.inr ⟨rfl,hE⟩⟩
 clear h hG hC ha hI hl k0 k1 hD oL;go_enter Tryz.func127,Tryz.ntmps127
 go_wp2_with fail
 refine HC.out.mono ?_;rintro e w1 ⟨v,rfl,hR⟩;obtain⟨fO,eZ,p1,p2,p3,p4⟩:=hR;have hR:Jd w w1 ps db fv rs v (bP s (plain rs) n 0):=⟨fO,eZ,p1,p2,p3,p4⟩;rcases p4 with⟨-,rfl⟩|⟨-,bb,nm,num,rfl,-⟩
 ·clear p1 p2 p3
  go_wp2_with fail
  go_ret;exact⟨_,rfl,hR⟩
 ·clear p1 p2 p3
  go_wp2_with fail
  go_ret;exact⟨_,rfl,hR⟩
theorem VE (a:Int)(h:w.heap[db]?=M (jI s fv)):(w.setCell ⟨db,6,O⟩ (I V a)).heap[db]?=M (jI { s with one:=a } fv):=by rw[heap_setCell_same w db 6 _ _ _ h];rfl
theorem VF (a:Int)(h:w.heap[db]?=M (jI s fv)):(w.setCell ⟨db,7,O⟩ (I V a)).heap[db]?=M (jI { s with rest:=a } fv):=by rw[heap_setCell_same w db 7 _ _ _ h];rfl
theorem FO (h:aW w db s fv rs):
 H K 51 #[U (M ⟨db,0,O⟩),I V a] w fun e w'=>e=G (.tuple #[])/\aW w' db { s with refusing:=true,left:=a } fv rs/\Og w w' db:=by
 obtain⟨c0,c1,c2,c3,c4,c5,c6,c7,cf⟩:=dO h.1;have f2:=cf 2;have f3:=cf 3;have HD:Hid (aW w db s fv rs):=h;clear h cf c0 c1 c4 c5 c6 c7;go_enter Tryz.func51,Tryz.ntmps51
 go_wp2_with fail
 go_end0;have h1:=HD.out.set (Ll true HD.out.1);have h2:=h1.set (Wx a h1.1);exact⟨rfl,h2,((Og.refl w db).set).set⟩
theorem MX (h:aW w db s fv rs):
 H K 42 #[U (M ⟨db,0,O⟩),I V a,I V b,I V c] w fun e w'=>e=G (.tuple #[])/\aW w' db { s with jH:=true,after:=a,one:=b,rest:=c } fv rs/\Og w w' db:=by
 obtain⟨c0,c1,c2,c3,c4,c5,c6,c7,cf⟩:=dO h.1;have f4:=cf 4;have f5:=cf 5;have f6:=cf 6;have f7:=cf 7;have HD:Hid (aW w db s fv rs):=h;clear h cf c0 c1 c2 c3;go_enter Tryz.func42,Tryz.ntmps42
 go_wp2_with fail
 go_end0;have h1:=HD.out.set (Wy true HD.out.1);have h2:=h1.set (Wz a h1.1);have h3:=h2.set (VE b h2.1);have h4:=h3.set (VF c h3.1);exact⟨rfl,h4,((((Og.refl w db).set).set).set).set⟩
theorem ni:H K 58 #[I V n] w fun e w'=>e=G (U (M ⟨w.heap.size,0,O⟩))/\w'=w.alloc (C #[I V n,Z O 0 0,.bool false,I V 0,.bool false,I V 0,I V 0,I V 0] 137):=by
 go_enter Tryz.func58,Tryz.ntmps58
 go_wp2_with fail
 go_ret;exact⟨rfl,rfl⟩
theorem MZ (h:aW w db s fv rs)(hl:rs.length<=1000000):
 H K 126 #[U (M ⟨db,0,O⟩)] w fun e w'=> ∃v,e=G v/\iP w' w.heap.size v ((plain rs).map (fun f=>f.1))/\aL w w':=by
 obtain⟨-,c1,-⟩:=dO h.1;obtain⟨ao,cap,rfl,iL,hm,gP,jE⟩:=iJ.form h.2.1;have HD:Hid (aW w db s (Z ao rs.length cap) rs):=h
 have HR:Hid (∀a,ao=M a->∃g,a=⟨g,0,O⟩/\∀(i:Nat) (r:FR),rs[i]?=M r->w.cell? ⟨g,i,O⟩=M r.p):=fun a e=>by
  obtain⟨g,aS,e1,-,-,-,hc⟩:=jE a e;exact⟨g,e1,hc⟩
 clear h jE;obtain⟨i0,hi,nN,nO,oM⟩:=info_parts Tryz.infoInt;go_enter Tryz.func126,Tryz.ntmps126
 go_upto_region 2 with(at_make;refine wpList_make_own _ rfl _ _ 60 rfl w.heap.size 3 i0 (I V 0) 1 Tryz.underlying60 hi nN nO _ _ _ rs.length rfl rfl (by omega) (by rw[oM];omega) (by unfold maxLen;omega) (Nat.le_refl _) ?_;intro w0 wV kX)
 have Oq:aL w w0:=⟨kX.os,kX.tape,kX.output,kX.size,fun k hk=>kX.block k hk (by simp)⟩;have O_:=Oq.cell c1;have HO0:Hid (iP w0 w.heap.size (Z (M ⟨w.heap.size,0,O⟩) 0 rs.length) []):=wV;have RF:Hid (aL w w0):=Oq;clear wV kX Oq c1
 go_wp2_with fail
 go_loopw [3,5,17] (fun v _ i wr=> ∃k:Nat,k<=rs.length/\i=I V (k:Int)/\Hid (iP wr w.heap.size v (((plain rs).take k).map (fun f=>f.1)))/\Hid (aL w wr)) (fun _ _ i _=>rs.length-(intOf i).toNat)
 case atStart=>exact⟨0,Nat.zero_le _,rfl,by simpa using HO0,RF⟩
 case round=>
  obtain⟨k,hk,rfl,HO,HG⟩:=hrel;by_cases bT:k<rs.length
  ·obtain⟨r,hr⟩:∃r,rs[k]?=M r:=⟨_,List.getElem?_eq_getElem bT⟩;cases ao with
   |none=>obtain⟨rfl,-⟩:=gP rfl;simp at bT
   |some a=>
    obtain⟨g,rfl,hc⟩:=HR.out a rfl;have d1:=HG.out.cell (hc k r hr);unfold FR.p at d1;have d2:=HG.out.cell (HD.out.row r (List.mem_of_getElem? hr));have i1:(0:Int)<=(k:Int):=by omega
    have i2:(k:Int)<(rs.length:Int):=by omega
    have HN:Hid (((plain rs).take (k+1)).map (fun f=>f.1)=((plain rs).take k).map (fun f=>f.1)++ [r.f.1]):=by
     show _=_;have hp:=jS hr;obtain⟨Zf,he⟩:=List.getElem?_eq_some_iff.1 hp;rw[List.take_succ_eq_append_getElem Zf,List.map_append,he];rfl
    obtain⟨qP,qV,ev,-⟩:=iP.form HO.out;subst ev;have HOW:Hid (wr.heap.size<=wr.heap.size):=Nat.le_refl _;have hws:w.heap.size<=wr.heap.size:=HG.out.size;have Mt:(((plain rs).take k).map (fun f=>f.1)).length<=1000000:=by simp[plain];omega
    have vB:Vw (wr.alloc (C #[I V r.f.1] 3)) (M ⟨wr.heap.size,0,O⟩) [r.f.1]:=Or.inr ⟨wr.heap.size,0,rfl,fun i hi=>by
     have:i=0:=by simp at hi;omega
     subst this;simp⟩
    clear hr hc
    go_wp2_with (at_builtin;go_must (refine vS (by rfl) (.tmp 21) (.tmp 26) (by rfl) w.heap.size _ (((plain rs).take k).map (fun f=>f.1)) [r.f.1] (by rfl) (by exact World.ownsRow.alloc HO.out _) _ _ _ (by rfl) (by rfl) (by intro e;cases e) (by exact vB) (by simp only[List.length_singleton];omega) (by simp;omega) ?_);intro v5 w5 cO fQ)
    have hlt5:∀g,v5.ownBlock=M g->True:=fun _ _=>trivial
    have nI:aL w w5:=by
     have h1:=kV fQ;refine⟨h1.os.trans HG.out.os,h1.tape.trans HG.out.tape,h1.output.trans HG.out.output,Nat.le_trans HG.out.size h1.size,fun k hk=>?_⟩;rw[<-HG.out.block k hk];refine h1.block k (Nat.lt_of_lt_of_le hk HG.out.size) (fun e=>?_);have:=(World.ownsRow.lt HO.out k e.symm).1;omega
    go_roundw
    case rel=>exact⟨k+1,by omega,by go_num,by show iP _ _ _ _;rw[HN.out];exact cO,nI⟩
    case measure=>simp[intOf];omega
  ·obtain⟨qP,qV,ev,-⟩:=iP.form HO.out;subst ev;have e1:(plain rs).take k=plain rs:=List.take_of_length_le (by rw[bW];omega)
   go_wp2_with fail
   go_ret;refine⟨_,rfl,?_,HG.out⟩;have:=HO.out;rw[e1]at this
   first|exact this|(rw[e1];exact this)
def FP (q d a b c:Int):List UInt8:=[74,UInt8.ofNat q.toNat]++vW d++vW a++vW b++vW c
theorem recB_h (q d a b c:Int):(Za q d a b c).data.toList=FP q d a b c:=by
 unfold Za FP;rw[rP,rP,rP,rP,rP];rfl
theorem nu (q d a b c:Int):(dL q d a b c).data.toList=FP q d a b c++vW (lG (FP q d a b c)):=by
 unfold dL;rw[rP,recB_h];rfl
theorem Sb {wr w5:F}{v:Y}{l:List UInt8}(hG:aL w wr)(hO:dI wr w.heap.size v l)(hg:wr.grownBy w5 v.ownBlock):aL w w5:=by
 refine⟨hg.os.trans hG.os,hg.tape.trans hG.tape,hg.output.trans hG.output,Nat.le_trans hG.size hg.size,fun k hk=>?_⟩;rw[<-hG.block k hk];refine hg.block k (Nat.lt_of_lt_of_le hk hG.size) (fun e=>?_);have:=(dI.lt hO k e.symm).1;omega
def Je (q d a b c:Int)(k:Nat):List UInt8:=[74,UInt8.ofNat q.toNat]++vW d++(([a,b,c].take k).flatMap vW)
theorem ny (q d a b c:Int)(k:Nat):(Je q d a b c k).length<=100:=by
 unfold Je
 match k with
 |0=>simp[sG]
 |1=>simp[sG]
 |2=>simp[sG]
 |k+3=>simp[sG]
theorem recK_3 (q d a b c:Int):Je q d a b c 3=FP q d a b c:=by simp[Je,FP]
theorem VG {q d x:Int}(h:[a,b,c][k]?=M x):Je q d a b c (k+1)=Je q d a b c k++vW x:=by
 unfold Je
 match k,h with
 |0,h=>simp at h;subst h;simp
 |1,h=>simp at h;subst h;simp
 |2,h=>simp at h;subst h;simp
 |k+3,h=>simp at h
theorem Lu {q d:Int}(hq:0<=q)(rE:q<256)(hd:bN d)(ha:bN a)(hb:bN b)(hc:bN c):
 H K 134 #[I V d,.agg #[I .u8 q,I V a,I V b,I V c]] w fun e w'=> ∃v,e=G v/\dI w' w.heap.size v (dL q d a b c).data.toList/\aL w w':=by
 unfold bN at hd ha hb hc;have z1:IntKind.u32.wrap d=d:=by rw[IntKind.wrap_u32];omega
 have wV:dI ((w.alloc (C #[I .u8 q,I V a,I V b,I V c] 99)).alloc (C #[I .u8 74,I .u8 q] 5)) w.heap.size (Z (M ⟨w.heap.size+1,0,O⟩) 2 2) [74,UInt8.ofNat q.toNat]:=by
  have:=World.ownsRow_lit (base:=w.heap.size) (e:=5) (size:=1) (w.alloc (C #[I .u8 q,I V a,I V b,I V c] 99)) #[I .u8 74,I .u8 q] 2 (by simp) (by unfold maxLen;omega) rfl;rw[World.size_alloc]at this;refine dI.of (n:=2) ?_;unfold Fx;simp only[List.map_cons,List.map_nil];rw[Cc hq rE];exact this
 have HA:=Kw wV (by simp;omega) hd.1 hd.2 (by simp);have Oq:aL w ((w.alloc (C #[I .u8 q,I V a,I V b,I V c] 99)).alloc (C #[I .u8 74,I .u8 q] 5)):=aL.alloc (aL.alloc (aL.refl w) _) _;have HO0:Hid (dI ((w.alloc (C #[I .u8 q,I V a,I V b,I V c] 99)).alloc (C #[I .u8 74,I .u8 q] 5)) w.heap.size (Z (M ⟨w.heap.size+1,0,O⟩) 2 2) [74,UInt8.ofNat q.toNat]):=wV;have k1:=(RD w (C #[I .u8 q,I V a,I V b,I V c] 99) (C #[I .u8 74,I .u8 q] 5)).2.1;clear wV;go_enter Tryz.func134,Tryz.ntmps134
 go_wp2_with fail
 refine HA.mono ?_;rintro e w1 ⟨v1,rfl,Kn,iH,tK⟩;have G_:=Sb Oq HO0.out iH;have fC:w1.heap[w.heap.size]?=M (C #[I .u8 q,I V a,I V b,I V c] 99 (0,0)):=mY iH k1 (fun e=>by simp[Value.ownBlock]at e);have x0:w1.cell? ⟨w.heap.size,1,O⟩=M (I V a):=by simp[World.cell?,fC]
 have x1:w1.cell? ⟨w.heap.size,2,O⟩=M (I V b):=by simp[World.cell?,fC]
 have x2:w1.cell? ⟨w.heap.size,3,O⟩=M (I V c):=by simp[World.cell?,fC]
 obtain⟨KP,En,ev1,-⟩:=dI.form Kn;subst ev1;clear fC k1 Oq HO0 HA iH tK;have HO1:Hid (dI w1 w.heap.size (Z KP ([74,UInt8.ofNat q.toNat]++vW d).length En) (Je q d a b c 0)):=by show dI _ _ _ _;simpa[Je]using Kn
 clear Kn
 go_wp2_with fail
 have j0:∀w,(Instr.index 97 (.agg #[I V a,I V b,I V c]) (I V 0)).run K w= .ok (I V a) w:=fun _=>by kernel_rfl
 have j1:∀w,(Instr.index 97 (.agg #[I V a,I V b,I V c]) (I V 1)).run K w= .ok (I V b) w:=fun _=>by kernel_rfl
 have j2:∀w,(Instr.index 97 (.agg #[I V a,I V b,I V c]) (I V 2)).run K w= .ok (I V c) w:=fun _=>by kernel_rfl
 go_loopw [5,7,16] (fun v _ i wr=> ∃k:Nat,k<=3/\i=I V (k:Int)/\Hid (dI wr w.heap.size v (Je q d a b c k))/\Hid (aL w wr)) (fun _ _ i _=>3-(intOf i).toNat)
 case atStart=>exact⟨0,Nat.zero_le _,rfl,HO1,G_⟩
 case round=>
  obtain⟨k,hk,rfl,HO,HG⟩:=hrel;obtain⟨qP,qV,ev,-⟩:=dI.form HO.out;have jT:=HG.out.size;have Wi:=ny q d a b c k;by_cases bT:k<3
  ·obtain⟨x,hx,hux⟩:∃x,[a,b,c][k]?=M x/\(0<=x/\x<4294967296):=by
    match k,bT with
    |0,_=>exact⟨a,rfl,ha⟩
    |1,_=>exact⟨b,rfl,hb⟩
    |2,_=>exact⟨c,rfl,hc⟩
   have HN:Hid (Je q d a b c (k+1)=Je q d a b c k++vW x):=VG hx;have RG:=Kw HO.out jT hux.1 hux.2 (by omega);subst ev;have zx:IntKind.u32.wrap x=x:=by rw[IntKind.wrap_u32];omega
   have HHH:Hid ([a,b,c][k]?=M x):=hx;clear hx;rcases(by omega:k=0\/k=1\/k=2)with rfl|rfl|rfl
   all_goals (have hxx:=HHH.out;simp at hxx;subst hxx)
   all_goals clear HHH
   all_goals go_wp2_with (go_at_call 214;refine RG.mono ?_;rintro e w5 ⟨v5,rfl,hO5,fQ,Na⟩)
   all_goals have nI:=Sb HG.out HO.out fQ
   all_goals go_roundw
   all_goals first
    |(case rel=>exact⟨1,by omega,by go_num,by show dI _ _ _ _;rw[HN.out];exact hO5,nI⟩)
    |(case rel=>exact⟨2,by omega,by go_num,by show dI _ _ _ _;rw[HN.out];exact hO5,nI⟩)
    |(case rel=>exact⟨3,by omega,by go_num,by show dI _ _ _ _;rw[HN.out];exact hO5,nI⟩)
    |(case measure=>simp[intOf])
  ·obtain rfl:k=3:=by omega
   have HS:=aAd HO.out jT (by omega);subst ev;have HRS:Hid ((dL q d a b c).data.toList=Je q d a b c 3++vW (lG (Je q d a b c 3))):=by show _=_;rw[recK_3,nu]
   go_wp2_with fail
   refine HS.mono ?_;rintro e w5 ⟨v5,rfl,hO5,fQ,Na⟩;have nI:=Sb HG.out HO.out fQ;obtain⟨Wh,Ac,ev5,-⟩:=dI.form hO5;subst ev5
   go_wp2_with fail
   go_ret;exact⟨_,rfl,by rw[HRS.out];exact hO5,nI⟩
end Go.Proofs.YtfplgfodoiiobaaGreatDoor
