/- PgU, PgV, PgW, PgX, PgY (joined). -/
import Derived.Test.YtfplgfodoiiobaaGreatDoorJ12
open Option renaming none→O,some→M
open Go.Value renaming int→I,slice→Z,pointer→U
open Go.IntKind renaming i64→V
open Go.Obj renaming cells→C
open Go.Ending renaming returned→G
open Go renaming World→F,Value→Y,Calls→H
open Go.Proofs.Tryz renaming prog→K
namespace Go.Proofs.YtfplgfodoiiobaaGreatDoor
set_option maxHeartbeats 4000000
set_option maxRecDepth 100000
open Go.RowKit
variable {w:F}{db g cap lo c5 bx b2:Nat}{rs:List FR}{s:Sc}{t2:Int}{r:FR}
def qd (w w3:F)(db g cap c5 bx b2:Nat)(s:Sc)(rs:List FR)(lo:Nat)(r:FR)(t2:Int):Prop:=
 aP w3 db s (Z (M ⟨g,0,O⟩) (rs.eraseIdx lo).length c5) (rs.eraseIdx lo)/\fG w3 (r.b,r.v,(t2,r.f.2.1,r.f.2.2))/\Fr w w3 (DX db (Z (M ⟨g,0,O⟩) rs.length cap) rs)/\(w3.os=w.os/\w3.tape=w.tape/\w3.output=w.output)/\
 w3.heap[bx]?=M (C #[U (M ⟨db,0,O⟩)] 77 (0,0))/\w3.heap[b2]?=M (C #[I V t2] 3 (0,0))
theorem mv_at {w1:F}(h:aP w db s (Z (M ⟨g,0,O⟩) rs.length cap) rs)(hr:rs[lo]?=M r)(c0:w.heap[bx]?=M (C #[U (M ⟨db,0,O⟩)] 77 (0,0)))(c2:w.heap[b2]?=M (C #[I V t2] 3 (0,0)))
 {W:F}(hW:aJ w W)(iV:Og W w1 g)(Le:w1.heap[db]?=M (iN s (Z (M ⟨g,0,O⟩) rs.length cap)))(hD:aP (w1.setCell ⟨db,1,O⟩ (Z (M ⟨g,0,O⟩) (rs.eraseIdx lo).length c5)) db s (Z (M ⟨g,0,O⟩) (rs.eraseIdx lo).length c5) (rs.eraseIdx lo)):
 qd w ((w1.setCell ⟨db,1,O⟩ (Z (M ⟨g,0,O⟩) (rs.eraseIdx lo).length c5)).setCell ⟨r.b,0,O⟩ (I V t2)) db g cap c5 bx b2 s rs lo r t2:=by
 obtain⟨cg,Wp⟩:=kV h.2.1 (g:=g) rfl;have hf:=h.2.2.1 r (List.mem_of_getElem? hr);have hfW:fG W r:=⟨(hW.block _ (aK hf.1)).trans hf.1,hf.2.aM hW⟩;have hcgW:W.heap[g]?=M (C cg 155 (0,0)):=(hW.block _ (aK Wp)).trans Wp
 have hf1:fG w1 r:=hfW.fr iV.1 (fun e=>aW hfW.1 hcgW (by decide) e) (fun k hk e=>by
  obtain⟨c,Nj,hc⟩:=bC.ty hfW.2 hk;exact aW hc hcgW (by decide) e)
 have F1:=Fr.set w1 ⟨db,1,O⟩ (Z (M ⟨g,0,O⟩) (rs.eraseIdx lo).length c5)
 have MN:=hf1.fr F1 (fun e=>aW hf1.1 Le (by decide) e) (fun k hk e=>by
  obtain⟨c,Nj,hc⟩:=bC.ty hf1.2 hk;exact aW hc Le (by decide) e)
 have F2:=Fr.set (w1.setCell ⟨db,1,O⟩ (Z (M ⟨g,0,O⟩) (rs.eraseIdx lo).length c5)) ⟨r.b,0,O⟩ (I V t2);have Wi:=qR h.2.2.2 hr
 have Nl:∀(k:Nat) (aT:Array Y) (t:TypeId),w.heap[k]?=M (Obj.cells aT t (0,0))->t≠137->t≠155->t≠157->((w1.setCell ⟨db,1,O⟩ (Z (M ⟨g,0,O⟩) (rs.eraseIdx lo).length c5)).setCell ⟨r.b,0,O⟩ (I V t2)).heap[k]?=M (Obj.cells aT t (0,0)):=fun k aT t hk h1 h2 h3=>by
  have k1:W.heap[k]?=M (Obj.cells aT t (0,0)):=(hW.block _ (aK hk)).trans hk;have k2:=iV.1.at k1 (fun e=>aW k1 hcgW h2 e);have k3:=F1.at k2 (fun e=>aW k2 Le h1 e);exact F2.at k3 (fun e=>aW k3 MN.1 h3 e)
 refine⟨?_,?_,?_,?_,Nl _ _ _ c0 (by decide) (by decide) (by decide),Nl _ _ _ c2 (by decide) (by decide) (by decide)⟩
 ·refine hD.fr F2 (fun b hb e=>?_);rcases hb with hb|hb|⟨q,hq,hb|hb⟩
  ·exact aW MN.1 hD.1 (by decide) (e.symm.trans hb)
  ·obtain⟨c,hc⟩:=kV hD.2.1 hb;exact aW hc MN.1 (by decide) e
  ·exact(Wi q hq).1 (hb.symm.trans e)
  ·obtain⟨c,Nj,hc⟩:=bC.ty (hD.2.2.1 q hq).2 hb;exact aW hc MN.1 (by decide) e
 ·refine⟨?_,MN.2.fr F2 (fun k hk e=>?_)⟩
  ·show _=M (oM (r.b,r.v,(t2,r.f.2.1,r.f.2.2)));have:=heap_setCell_same (w1.setCell ⟨db,1,O⟩ (Z (M ⟨g,0,O⟩) (rs.eraseIdx lo).length c5)) r.b 0 _ _ (I V t2) MN.1;exact this
  ·obtain⟨c,Nj,hc⟩:=bC.ty MN.2 hk;exact aW hc MN.1 (by decide) e
 ·have hF:Fr w w1 (DX db (Z (M ⟨g,0,O⟩) rs.length cap) rs):=(Fr.dO hW _).trans (iV.1.mono fun b e=>Or.inr (Or.inl (by rw[e];rfl)));exact(hF.trans (F1.mono fun b e=>Or.inl e)).trans (F2.mono fun b e=>Or.inr (Or.inr ⟨r,List.mem_of_getElem? hr,Or.inl e⟩))
 ·exact⟨iV.2.1.trans hW.os,iV.2.2.1.trans hW.tape,iV.2.2.2.trans hW.output⟩
theorem qf {b:Nat}(h:DX db (Z (M ⟨g,0,O⟩) (rs.eraseIdx lo).length c5) (rs.eraseIdx lo) b):DX db (Z (M ⟨g,0,O⟩) rs.length cap) rs b:=by
 rcases h with h|h|⟨q,hq,h⟩
 ·exact Or.inl h
 ·exact Or.inr (Or.inl h)
 ·exact Or.inr (Or.inr ⟨q,(List.eraseIdx_sublist rs lo).subset hq,h⟩)
theorem qg {w3:F}{j:Nat}(hr:rs[lo]?=M r)(hp:rs.Pairwise kU)(hm:qd w w3 db g cap c5 bx b2 s rs lo r t2)(hs:(plain rs).Pairwise (fun a b=>a.1<b.1))(hh:iE (plain (rs.eraseIdx lo)) t2=true)(hj:j=dS (plain (rs.eraseIdx lo)) t2):
 MvD w (w3.setCell ⟨g,j,O⟩ (U (M ⟨r.b,0,O⟩))) db s (Z (M ⟨g,0,O⟩) rs.length cap) rs lo r t2:=by
 obtain⟨m1,m2,m3,m4,-⟩:=hm;have Wi:∀q∈rs.eraseIdx lo,kU q (r.b,r.v,(t2,r.f.2.1,r.f.2.2)):=fun q hq=>⟨(qR hp hr q hq).1,(qR hp hr q hq).2⟩
 obtain⟨p1,p2⟩:=m1.swap (j:=j) (r:=(r.b,r.v,(t2,r.f.2.1,r.f.2.2))) m2 Wi rfl;refine⟨_,_,p1,?_,m3.trans (p2.mono fun b e=>Or.inr (Or.inl (by rw[e];rfl))),m4,fun b hb=>?_⟩
 ·rw[Ay,zQ (xO hs lo),hh,if_pos rfl,hj];rfl
 ·rcases hb with hb|hb|⟨q,hq,hb⟩
  ·exact Or.inl (Or.inl hb)
  ·exact Or.inl (Or.inr (Or.inl hb))
  ·rcases List.mem_or_eq_of_mem_set hq with hq|rfl
   ·exact Or.inl (qf (c5:=c5) (Or.inr (Or.inr ⟨q,hq,hb⟩)))
   ·exact Or.inl (Or.inr (Or.inr ⟨r,List.mem_of_getElem? hr,hb⟩))
theorem mv_new {w3 W w5:F}{j:Nat}{v5:Y}(hr:rs[lo]?=M r)(hp:rs.Pairwise kU)(hm:qd w w3 db g cap c5 bx b2 s rs lo r t2)(hs:(plain rs).Pairwise (fun a b=>a.1<b.1))(hh:iE (plain (rs.eraseIdx lo)) t2=false)(hj:j=dS (plain (rs.eraseIdx lo)) t2)
 (hW:aJ w3 W)(Ga:jJ W w5 (Z (M ⟨g,0,O⟩) (rs.eraseIdx lo).length c5) v5 (rs.eraseIdx lo) j (r.b,r.v,(t2,r.f.2.1,r.f.2.2))):
 MvD w (w5.setCell ⟨db,1,O⟩ v5) db s (Z (M ⟨g,0,O⟩) rs.length cap) rs lo r t2:=by
 obtain⟨m1,m2,m3,m4,-⟩:=hm;have Wi:∀q∈rs.eraseIdx lo,kU q (r.b,r.v,(t2,r.f.2.1,r.f.2.2)):=fun q hq=>⟨(qR hp hr q hq).1,(qR hp hr q hq).2⟩
 obtain⟨p1,p2⟩:=(m1.aM hW).TI Ga ⟨(hW.block _ (aK m2.1)).trans m2.1,m2.2.aM hW⟩ Wi rfl
 have WT:∀b,(DX db (Z (M ⟨g,0,O⟩) (rs.eraseIdx lo).length c5) (rs.eraseIdx lo) b\/b=FR.b (r.b,r.v,(t2,r.f.2.1,r.f.2.2))\/(FR.v (r.b,r.v,(t2,r.f.2.1,r.f.2.2))).ownBlock=M b)->DX db (Z (M ⟨g,0,O⟩) rs.length cap) rs b:=fun b hb=>by
  rcases hb with hb|hb
  ·exact qf hb
  ·exact Or.inr (Or.inr ⟨r,List.mem_of_getElem? hr,hb⟩)
 refine⟨_,_,p1,?_,(m3.trans (Fr.dO hW _)).trans (p2.1.mono WT),⟨p2.2.1.1.trans (hW.os.trans m4.1),p2.2.1.2.1.trans (hW.tape.trans m4.2.1),p2.2.1.2.2.trans (hW.output.trans m4.2.2)⟩,fun b hb=>?_⟩
 ·rw[zQ (xO hs lo),hh,if_neg (by simp),<-hj];simp[plain,FR.f]
 ·rcases p2.2.2 b hb with h|h
  ·exact Or.inl (WT b h)
  ·exact Or.inr (Nat.le_trans (Nat.le_trans m3.1 hW.size) h)
theorem e_move1:∀(args:Array Y) (w:F),(callFunc 216 args).run K w= .ok (.enter 216 args) w:=enters_of Tryz.func216 (by kernel_rfl) rfl
theorem new1G (w:F)(o:Obj):aJ w (w.alloc o).drew:=aJ.drew (aJ.alloc (aJ.refl w) _)
theorem new1a (w:F)(o:Obj):(w.alloc o).drew.heap[w.heap.size]?=M o:=heap_alloc_new w o
theorem qh {fv:Y}(h:aP w db s fv rs)(hs:(plain rs).Pairwise (fun a b=>a.1<b.1))(hr:rs[lo]?=M r)(hl:rs.length<=1000000)(c0:w.heap[bx]?=M (C #[U (M ⟨db,0,O⟩)] 77 (0,0)))(c2:w.heap[b2]?=M (C #[I V t2] 3 (0,0))):
 H K 216 #[I V (lo:Int),U (M ⟨bx,0,O⟩),U (M ⟨b2,0,O⟩)] w fun e w'=>e=G (.tuple #[])/\MvD w w' db s fv rs lo r t2:=by
 obtain⟨g,cap,rfl,c1,c1f,cr,bV,hf⟩:=h.at hr;have HP:Hid (rs.Pairwise kU):=h.2.2.2;have HR:Hid (rs[lo]?=M r):=hr;have HS:Hid ((plain rs).Pairwise (fun a b=>a.1<b.1)):=hs;have hel:(rs.eraseIdx lo).length<=1000000:=by rw[List.length_eraseIdx];split<;>omega
 have HC:Hid (∀W,aJ w W->H K 193 #[Z (M ⟨g,0,O⟩) rs.length cap,I V (lo:Int),I V ((lo:Int)+1)] W fun e w'=> ∃(c5 n5:Nat),e=G (Z (M ⟨g,0,O⟩) n5 c5)/\Hid (n5=(rs.eraseIdx lo).length)/\w'.cell? ⟨bx,0,O⟩=M (U (M ⟨db,0,O⟩))/\w'.cell? ⟨db,1,O⟩=M (Z (M ⟨g,0,O⟩) rs.length cap)/\w'.frozen? ⟨db,1,O⟩=false/\Hid (qd w ((w'.setCell ⟨db,1,O⟩ (Z (M ⟨g,0,O⟩) n5 c5)).setCell ⟨r.b,0,O⟩ (I V t2)) db g cap c5 bx b2 s rs lo r t2)
  /\Hid ((w'.setCell ⟨db,1,O⟩ (Z (M ⟨g,0,O⟩) n5 c5)).heap[r.b]?=M (oM r)/\(w'.setCell ⟨db,1,O⟩ (Z (M ⟨g,0,O⟩) n5 c5)).heap[b2]?=M (C #[I V t2] 3 (0,0)))):=fun W hW=>by
  refine(del_row (h.aM hW) bV hl).mono ?_;rintro e w' ⟨c5,rfl,iV,Le,hD⟩;obtain⟨cg,Wp⟩:=kV (h.aM hW).2.1 (g:=g) rfl;obtain⟨-,m1,-,-,-,-,-,-,mf⟩:=bW Le;have F1:=Fr.set w' ⟨db,1,O⟩ (Z (M ⟨g,0,O⟩) (rs.eraseIdx lo).length c5)
  have Nl:∀(k:Nat) (aT:Array Y) (t:TypeId),w.heap[k]?=M (Obj.cells aT t (0,0))->t≠137->t≠155->w'.heap[k]?=M (Obj.cells aT t (0,0)):=fun k aT t hk h1 h2=>by
   have k1:W.heap[k]?=M (Obj.cells aT t (0,0)):=(hW.block _ (aK hk)).trans hk;exact iV.1.at k1 (fun e=>aW k1 Wp h2 e)
  have Ba:=Nl _ _ _ c0 (by decide) (by decide);have fP:=Nl _ _ _ c2 (by decide) (by decide);have CZ:=Nl _ _ _ hf.1 (by decide) (by decide);exact⟨c5,_,rfl,rfl,by simp[World.cell?,Ba],m1,mf 1,mv_at h hr c0 c2 hW iV Le hD,F1.at CZ (fun e=>aW CZ Le (by decide) e),F1.at fP (fun e=>aW fP Le (by decide) e)⟩
 have c0':w.cell? ⟨bx,0,O⟩=M (U (M ⟨db,0,O⟩)):=by simp[World.cell?,c0]
 have dU:IntKind.i64.wrap ((lo:Int)+1)=(lo:Int)+1:=by rw[IntKind.wrap_i64];omega
 have i1:(0:Int)<=(lo:Int):=by omega
 have i2:(lo:Int)<(rs.length:Int):=by omega
 clear h hr hs hf c0 c2;go_enter Tryz.func216,Tryz.ntmps216
 go_upto_region 1 with fail
 go_cut [14] (fun _ wc=> ∃(w5:F) (c5 n5:Nat),wc=w5.setCell ⟨db,1,O⟩ (Z (M ⟨g,0,O⟩) n5 c5)/\Hid (n5=(rs.eraseIdx lo).length)/\Hid (qd w ((w5.setCell ⟨db,1,O⟩ (Z (M ⟨g,0,O⟩) n5 c5)).setCell ⟨r.b,0,O⟩ (I V t2)) db g cap c5 bx b2 s rs lo r t2)/\Hid ((w5.setCell ⟨db,1,O⟩ (Z (M ⟨g,0,O⟩) n5 c5)).heap[r.b]?=M (oM r)/\(w5.setCell ⟨db,1,O⟩ (Z (M ⟨g,0,O⟩) n5 c5)).heap[b2]?=M (C #[I V t2] 3 (0,0))))
 case first=>
  go_region_law ((refine bM (by rfl) 193 _ _ (by rfl) _ (by simp[Act.eval];done) FW ((HC.out _ (by repeat (first|exact aJ.refl _|refine aJ.drew ?_))).mono ?_);rintro e w5 ⟨c5,n5,rfl,hn5,y0,y1,y2,hmv,CZ⟩;refine⟨_,rfl,?_⟩))
  all_goals go_wp2_with fail
  all_goals go_meet
  all_goals exact⟨w5,c5,n5,rfl,hn5,hmv,CZ⟩
 case rest=>
  obtain⟨w5,c5,n5,rfl,hn5,hmv,CZ⟩:=hcut;obtain⟨w6,h6⟩:∃w6,w6=w5.setCell ⟨db,1,O⟩ (Z (M ⟨g,0,O⟩) n5 c5):=⟨_,rfl⟩;rw[<-h6]at hmv CZ ⊢;obtain⟨q1,q2⟩:=CZ.out;obtain⟨x0,-,-,xf⟩:=fH q1;have xf0:=xf 0;have x2:w6.cell? ⟨b2,0,O⟩=M (I V t2):=by simp[World.cell?,q2]
  clear h6 q1 q2 xf CZ c1 c1f cr c0'
  go_upto_region 3 with fail
  obtain⟨w7,h7⟩:∃w7,w7=w6.setCell ⟨r.b,0,O⟩ (I V t2):=⟨_,rfl⟩;rw[<-h7]at hmv ⊢;clear h7 x0 xf0 x2;have hM:=hmv.out;have hF:=xI (n:=t2) hM.1 (xO HS.out lo) hel;have y0:w7.cell? ⟨bx,0,O⟩=M (U (M ⟨db,0,O⟩)):=by have:=hM.2.2.2.2.1;simp[World.cell?,this]
  have y2:w7.cell? ⟨b2,0,O⟩=M (I V t2):=by have:=hM.2.2.2.2.2;simp[World.cell?,this]
  cases hh:iE (plain (rs.eraseIdx lo)) t2 with
  |true=>
   rw[hh]at hF;obtain⟨q,hq,-⟩:=vI hh;obtain⟨g',yZ,e',d1,d1f,d2,hjl,-⟩:=hM.1.at hq;cases e'
   obtain⟨cg,Wp⟩:=kV hM.1.2.1 (g:=g) rfl;have d2f:=(fV Wp (dS (plain (rs.eraseIdx lo)) t2)).2;have ni:Hid (MvD w (w7.setCell ⟨g,dS (plain (rs.eraseIdx lo)) t2,O⟩ (U (M ⟨r.b,0,O⟩))) db s (Z (M ⟨g,0,O⟩) rs.length cap) rs lo r t2):=qg HR.out HP.out hM HS.out hh rfl;clear hM hmv hq Wp hh;rw[<-hn5.out]at d1 hjl;generalize dS (plain (rs.eraseIdx lo)) t2=j at hF d2 d2f hjl ni;have i3:(0:Int)<=(j:Int):=by omega
   have i4:(j:Int)<(n5:Int):=by omega
   go_wp2_with (go_at_call 177;refine hF.mono ?_;rintro e w8 ⟨rfl,rfl⟩)
   refine bodyPost_ret (results_none rfl _ _ _) rfl ?_;exact⟨rfl,ni.out⟩
  |false=>
   rw[hh]at hF;obtain⟨-,d1,-,-,-,-,-,-,df⟩:=bW hM.1.1;have df1:=df 1;have hle:dS (plain (rs.eraseIdx lo)) t2<=(rs.eraseIdx lo).length:=by have:=Fw (plain (rs.eraseIdx lo)) t2;rwa[bE]at this
   obtain⟨cg,Wp⟩:=kV hM.1.2.1 (g:=g) rfl;have jS:=aK Wp
   have HI:Hid (∀W:F,aJ w7 W->W.heap[w7.heap.size]?=M (C #[U (M ⟨r.b,0,O⟩)] 155 (0,0))->
    H K 213 #[Z (M ⟨g,0,O⟩) n5 c5,I V (dS (plain (rs.eraseIdx lo)) t2:Nat),Z (M ⟨w7.heap.size,0,O⟩) 1 1] W fun e w'=> ∃(a9:Option Addr) (m9 c9:Nat),e=G (Z a9 m9 c9)/\w'.cell? ⟨bx,0,O⟩=M (U (M ⟨db,0,O⟩))/\w'.cell? ⟨db,1,O⟩=M (Z (M ⟨g,0,O⟩) n5 c5)/\w'.frozen? ⟨db,1,O⟩=false/\MvD w (w'.setCell ⟨db,1,O⟩ (Z a9 m9 c9)) db s (Z (M ⟨g,0,O⟩) rs.length cap) rs lo r t2):=fun W hW h2=>by
    rw[hn5.out];refine(Wh (r:=(r.b,r.v,(t2,r.f.2.1,r.f.2.2))) (hM.1.aM hW).2.1 hle h2 (fun e=>by simp[Value.ownBlock]at e;omega) hel).mono ?_;rintro e w' ⟨v',rfl,Ga⟩;obtain⟨a9,c9,ev,-⟩:=fM.form Ga.1;have hfin:=mv_new HR.out HP.out hM HS.out hh rfl hW Ga;subst ev
    have Nl:∀(k:Nat) (aT:Array Y) (t:TypeId),w7.heap[k]?=M (Obj.cells aT t (0,0))->t≠155->w'.heap[k]?=M (Obj.cells aT t (0,0)):=fun k aT t hk h2=>
     mP Ga.2.1 ((hW.block _ (aK hk)).trans hk) (fun e=>by
      simp[Value.ownBlock]at e;subst e;exact aW hk Wp h2 rfl)
    have Ba:=Nl _ _ _ hM.2.2.2.2.1 (by decide);obtain⟨-,z1,-,-,-,-,-,-,zf⟩:=bW (Nl _ _ _ hM.1.1 (by decide));exact⟨a9,_,c9,rfl,by simp[World.cell?,Ba],z1,zf 1,hfin⟩
   rw[<-hn5.out]at d1;clear hM hmv Wp hh df hle jS;generalize dS (plain (rs.eraseIdx lo)) t2=j at hF HI;have a0:∀o,(w7.alloc o).cell? ⟨bx,0,O⟩=M (U (M ⟨db,0,O⟩)):=fun o=>cell_later (aU _ _) y0
   have a1:∀o,(w7.alloc o).cell? ⟨db,1,O⟩=M (Z (M ⟨g,0,O⟩) n5 c5):=fun o=>cell_later (aU _ _) d1
   go_wp2_with (go_at_call 177;refine hF.mono ?_;rintro e w8 ⟨rfl,rfl⟩)
   go_region_law ((refine bM (by rfl) 213 _ _ (by rfl) _ (by simp[Act.eval];done) FO ((HI.out _ (new1G _ _) (new1a _ _)).mono ?_);rintro e w9 ⟨a9,m9,c9,rfl,z0,z1,z2,hfin⟩;refine⟨_,rfl,?_⟩))
   all_goals go_wp2_with fail
   all_goals go_end0
   all_goals exact⟨rfl,hfin⟩
theorem move_pg {ps:Nat->Addr}{fv:Y}{n:Int}(h:aP w db s fv rs)(hG:Ud w ps)(hC:fU s)(ha:0<=s.after)(hI:dY s.room (plain rs))(hl:rs.length<=1000):
 H K 142 #[U (M ⟨db,0,O⟩),I V n,I V t2] w fun e w'=> ∃v,e=G v/\pY w w' ps db fv rs v (jP s (plain rs) n t2):=by
 obtain⟨k0,k1,k2⟩:=FU w (C #[U (M ⟨db,0,O⟩)] 77) (C #[I V t2] 3);have hD:=h.aM k0;have jH:=hI.sort.1;have Yx:=Jf jH n
 have HC:Hid (H K 135 #[U (M ⟨db,0,O⟩),.string ⟨#[109,111,118,101]⟩,I V n,.func (.func 216) #[] #[U (M ⟨w.heap.size,0,O⟩),U (M ⟨w.heap.size+1,0,O⟩)]] ((w.alloc (C #[U (M ⟨db,0,O⟩)] 77)).alloc (C #[I V t2] 3)) fun e w'=> ∃v,e=G v/\pY w w' ps db fv rs v (jP s (plain rs) n t2)):=by
  cases hh:iE (plain rs) n with
  |false=>
   have e1:jP s (plain rs) n t2=(true,s,plain rs):=by unfold jP;rw[Yx,hh];rfl
   refine(zR hD jH (by omega) hh).mono ?_;rintro e w' ⟨rfl,hg⟩;exact⟨_,rfl,fv,rs,by rw[e1];exact hD.aM hg,by rw[e1],Dk.bH (bD k0 hg),by rw[e1];exact Or.inl ⟨rfl,rfl⟩⟩
  |true=>
   obtain⟨r,hr,hn⟩:=vI hh;rw[hh,if_pos rfl,hr]at Yx;have hfl':eO (plain rs) n=M r.f:=Yx;cases rX:(dF s (plain rs)).1 with
   |true=>
    have e1:jP s (plain rs) n t2=(true,(dF s (plain rs)).2.1,iR (plain (rs.eraseIdx (dS (plain rs) n))) (t2,r.f.2.1,r.f.2.2)):=by
     unfold jP;rw[hfl',Lg,<-TN jH hh];simp only[rX,if_true]
    refine(xM (R:=fun w2=> ∃dN dH,aP w2 db (dF s (plain rs)).2.1 dN dH/\plain dH=iR (plain (rs.eraseIdx (dS (plain rs) n))) (t2,r.f.2.1,r.f.2.2)/\Dk w w2 (DX db fv rs) (DX db dN dH)) hD jH (by omega) hh ha hC.oL e_move1 rX (fun w1 Nk xL=>?_)).mono ?_
    ·refine(qh (t2:=t2) Nk jH hr (by omega) (xL.1.at k1 (fun e=>aW k1 hD.1 (by decide) e)) (xL.1.at k2 (fun e=>aW k2 hD.1 (by decide) e))).mono ?_;rintro e w2 ⟨rfl,dN,dH,p1,p2,p3⟩;exact⟨rfl,dN,dH,p1,p2,((Dk.bH k0).trans (Dk.Ld xL.1 xL.2 (Or.inl rfl))).trans p3⟩
    ·rintro e w2 ⟨rfl,dN,dH,p1,p2,p3⟩;exact⟨_,rfl,dN,dH,by rw[e1];exact p1,by rw[e1];exact p2,p3,by rw[e1];exact Or.inl ⟨rfl,rfl⟩⟩
   |false=>
    have e1:jP s (plain rs) n t2=dF s (plain rs):=by
     unfold jP;rw[hfl'];simp only[rX,Bool.false_eq_true,if_false]
    refine(Az hD (hG.aM k0) hC ha hI (by omega) hh rX).mono ?_;rintro e w2 ⟨v,rfl,hE,dN,dH,p1,p2,p3⟩;exact⟨v,rfl,dN,dH,by rw[e1];exact p1,by rw[e1];exact p2,(Dk.bH k0).trans p3,by rw[e1,rX];exact Or.inr ⟨rfl,hE⟩⟩
 clear h hG hC ha hI hl k0 k1 k2 hD jH Yx;go_enter Tryz.func142,Tryz.ntmps142
 go_wp2_with fail
 refine HC.out.mono ?_;rintro e w1 ⟨v,rfl,hR⟩;obtain⟨dN,dH,p1,p2,p3,p4⟩:=hR;have hR:pY w w1 ps db fv rs v (jP s (plain rs) n t2):=⟨dN,dH,p1,p2,p3,p4⟩;rcases p4 with⟨-,rfl⟩|⟨-,bb,nm,num,rfl,-⟩
 ·clear p1 p2 p3
  go_wp2_with fail
  go_ret;exact⟨_,rfl,hR⟩
 ·clear p1 p2 p3
  go_wp2_with fail
  go_ret;exact⟨_,rfl,hR⟩
def Uf (q d a b c:Int):List UInt8:=[74,UInt8.ofNat q.toNat]++dV d++dV a++dV b++dV c
theorem recB_h (q d a b c:Int):(NQ q d a b c).data.toList=Uf q d a b c:=by
 unfold NQ Uf;rw[eY,eY,eY,eY,eY];rfl
theorem Pw (q d a b c:Int):(fO q d a b c).data.toList=Uf q d a b c++dV (kH (Uf q d a b c)):=by
 unfold fO;rw[eY,recB_h];rfl
theorem Gb {wr w5:F}{v:Y}{l:List UInt8}(hG:aJ w wr)(hO:bC wr w.heap.size v l)(hg:wr.grownBy w5 v.ownBlock):aJ w w5:=by
 refine⟨hg.os.trans hG.os,hg.tape.trans hG.tape,hg.output.trans hG.output,Nat.le_trans hG.size hg.size,fun k hk=>?_⟩;rw[<-hG.block k hk];refine hg.block k (Nat.lt_of_lt_of_le hk hG.size) (fun e=>?_);have:=(bC.lt hO k e.symm).1;omega
def Gc (q d a b c:Int)(k:Nat):List UInt8:=[74,UInt8.ofNat q.toNat]++dV d++(([a,b,c].take k).flatMap dV)
theorem qi (q d a b c:Int)(k:Nat):(Gc q d a b c k).length<=100:=by
 unfold Gc
 match k with
 |0=>simp[bO]
 |1=>simp[bO]
 |2=>simp[bO]
 |k+3=>simp[bO]
theorem recK_3 (q d a b c:Int):Gc q d a b c 3=Uf q d a b c:=by simp[Gc,Uf]
theorem XE {q d a b c x:Int}{k:Nat}(h:[a,b,c][k]?=M x):Gc q d a b c (k+1)=Gc q d a b c k++dV x:=by
 unfold Gc
 match k,h with
 |0,h=>simp at h;subst h;simp
 |1,h=>simp at h;subst h;simp
 |2,h=>simp at h;subst h;simp
 |k+3,h=>simp at h
theorem Ji {q d a b c:Int}(hq:0<=q)(xA:q<256)(hd:bS d)(ha:bS a)(hb:bS b)(hc:bS c):
 H K 134 #[I V d,.agg #[I .u8 q,I V a,I V b,I V c]] w fun e w'=> ∃v,e=G v/\bC w' w.heap.size v (fO q d a b c).data.toList/\aJ w w':=by
 unfold bS at hd ha hb hc;have z1:IntKind.u32.wrap d=d:=by rw[IntKind.wrap_u32];omega
 have uH:bC ((w.alloc (C #[I .u8 q,I V a,I V b,I V c] 99)).alloc (C #[I .u8 74,I .u8 q] 5)) w.heap.size (Z (M ⟨w.heap.size+1,0,O⟩) 2 2) [74,UInt8.ofNat q.toNat]:=by
  have:=World.ownsRow_lit (base:=w.heap.size) (e:=5) (size:=1) (w.alloc (C #[I .u8 q,I V a,I V b,I V c] 99)) #[I .u8 74,I .u8 q] 2 (by simp) (by unfold maxLen;omega) rfl;rw[World.size_alloc]at this;refine bC.of (n:=2) ?_;unfold Cz;simp only[List.map_cons,List.map_nil];rw[mY hq xA];exact this
 have HA:=Av uH (by simp;omega) hd.1 hd.2 (by simp);have Ml:aJ w ((w.alloc (C #[I .u8 q,I V a,I V b,I V c] 99)).alloc (C #[I .u8 74,I .u8 q] 5)):=aJ.alloc (aJ.alloc (aJ.refl w) _) _;have HO0:Hid (bC ((w.alloc (C #[I .u8 q,I V a,I V b,I V c] 99)).alloc (C #[I .u8 74,I .u8 q] 5)) w.heap.size (Z (M ⟨w.heap.size+1,0,O⟩) 2 2) [74,UInt8.ofNat q.toNat]):=uH;have k1:=(FU w (C #[I .u8 q,I V a,I V b,I V c] 99) (C #[I .u8 74,I .u8 q] 5)).2.1;clear uH;go_enter Tryz.func134,Tryz.ntmps134
 go_wp2_with fail
 refine HA.mono ?_;rintro e w1 ⟨v1,rfl,xL,kL,yC⟩;have hG1:=Gb Ml HO0.out kL;have bX:w1.heap[w.heap.size]?=M (C #[I .u8 q,I V a,I V b,I V c] 99 (0,0)):=mP kL k1 (fun e=>by simp[Value.ownBlock]at e);have x0:w1.cell? ⟨w.heap.size,1,O⟩=M (I V a):=by simp[World.cell?,bX]
 have x1:w1.cell? ⟨w.heap.size,2,O⟩=M (I V b):=by simp[World.cell?,bX]
 have x2:w1.cell? ⟨w.heap.size,3,O⟩=M (I V c):=by simp[World.cell?,bX]
 obtain⟨TG,wH,ev1,-⟩:=bC.form xL;subst ev1;clear bX k1 Ml HO0 HA kL yC;have HO1:Hid (bC w1 w.heap.size (Z TG ([74,UInt8.ofNat q.toNat]++dV d).length wH) (Gc q d a b c 0)):=by show bC _ _ _ _;simpa[Gc]using xL
 clear xL
 go_wp2_with fail
 have j0:∀w,(Instr.index 97 (.agg #[I V a,I V b,I V c]) (I V 0)).run K w= .ok (I V a) w:=fun _=>by kernel_rfl
 have j1:∀w,(Instr.index 97 (.agg #[I V a,I V b,I V c]) (I V 1)).run K w= .ok (I V b) w:=fun _=>by kernel_rfl
 have j2:∀w,(Instr.index 97 (.agg #[I V a,I V b,I V c]) (I V 2)).run K w= .ok (I V c) w:=fun _=>by kernel_rfl
 go_loopw [5,7,16] (fun v _ i wr=> ∃k:Nat,k<=3/\i=I V (k:Int)/\Hid (bC wr w.heap.size v (Gc q d a b c k))/\Hid (aJ w wr)) (fun _ _ i _=>3-(intOf i).toNat)
 case atStart=>exact⟨0,Nat.zero_le _,rfl,HO1,hG1⟩
 case round=>
  obtain⟨k,hk,rfl,HO,HG⟩:=hrel;obtain⟨yI,kJ,ev,-⟩:=bC.form HO.out;have gQ:=HG.out.size;have hkl:=qi q d a b c k;by_cases bV:k<3
  ·obtain⟨x,hx,hux⟩:∃x,[a,b,c][k]?=M x/\(0<=x/\x<4294967296):=by
    match k,bV with
    |0,_=>exact⟨a,rfl,ha⟩
    |1,_=>exact⟨b,rfl,hb⟩
    |2,_=>exact⟨c,rfl,hc⟩
   have HN:Hid (Gc q d a b c (k+1)=Gc q d a b c k++dV x):=XE hx;have ai:=Av HO.out gQ hux.1 hux.2 (by omega);subst ev;have zx:IntKind.u32.wrap x=x:=by rw[IntKind.wrap_u32];omega
   have HHH:Hid ([a,b,c][k]?=M x):=hx;clear hx;rcases(by omega:k=0\/k=1\/k=2)with rfl|rfl|rfl
   all_goals (have hxx:=HHH.out;simp at hxx;subst hxx)
   all_goals clear HHH
   all_goals go_wp2_with (go_at_call 214;refine ai.mono ?_;rintro e w5 ⟨v5,rfl,Ug,dK,xE⟩)
   all_goals have Ue:=Gb HG.out HO.out dK
   all_goals go_roundw
   all_goals first
    |(case rel=>exact⟨1,by omega,by go_num,by show bC _ _ _ _;rw[HN.out];exact Ug,Ue⟩)
    |(case rel=>exact⟨2,by omega,by go_num,by show bC _ _ _ _;rw[HN.out];exact Ug,Ue⟩)
    |(case rel=>exact⟨3,by omega,by go_num,by show bC _ _ _ _;rw[HN.out];exact Ug,Ue⟩)
    |(case measure=>simp[intOf])
  ·obtain rfl:k=3:=by omega
   have HS:=TB HO.out gQ (by omega);subst ev;have HRS:Hid ((fO q d a b c).data.toList=Gc q d a b c 3++dV (kH (Gc q d a b c 3))):=by show _=_;rw[recK_3,Pw]
   go_wp2_with fail
   refine HS.mono ?_;rintro e w5 ⟨v5,rfl,Ug,dK,xE⟩;have Ue:=Gb HG.out HO.out dK;obtain⟨oh,uY,ev5,-⟩:=bC.form Ug;subst ev5
   go_wp2_with fail
   go_ret;exact⟨_,rfl,by rw[HRS.out];exact Ug,Ue⟩
def jB (l:List UInt8):Option (Int×Int×Int×Int×Int):=
 if l.length<22 then O else match iD (l.take 22)with
  |none=>O
  |some t=>if t.headD 0=74 then M (fC (t.drop 2),(((t.drop 1).headD 0).toNat:Int),fC (t.drop 6),fC (t.drop 10),fC (t.drop 14))else O
def Lh:Option (Int×Int×Int×Int×Int)->Ending
 |none=> G (.tuple #[I V 0,.agg #[I .u8 0,I V 0,I V 0,I V 0],.bool false])
 |some (d,q,a,b,c)=> G (.tuple #[I V d,.agg #[I .u8 q,I V a,I V b,I V c],.bool true])
theorem Ch {ao:Option Addr}{n:Nat}(h:n<22):
 H K 190 #[Z ao n cap] w fun e w'=>e=Lh O/\aJ w w':=by
 have z1:(n:Int)<22:=by omega
 go_enter Tryz.func190,Tryz.ntmps190
 go_wp2_with fail
 refine bodyPost_ret (v:= .tuple #[I V 0,.agg #[I .u8 0,I V 0,I V 0,I V 0],.bool false]) (by simp[results,Tryz.results190,go_sem]) rfl ?_;refine⟨rfl,?_⟩;refine⟨rfl,rfl,rfl,by simp,fun k hk=>?_⟩
 repeat (rw[Below.heap_setCell _ _ _ _ (by simp only;omega)])
 exact Below.heap_alloc _ _ _ hk
def FZ (t1:UInt8)(iO:List UInt8)(k:Nat):Obj:=C #[I .u8 (t1.toNat:Int),I V (if 0<k then fC (iO.drop 4)else 0),I V (if 1<k then fC (iO.drop 8)else 0),I V (if 2<k then fC (iO.drop 12)else 0)] 99 (0,0)
theorem qj {wr:F}{t0 t1:UInt8}{iO:List UInt8}{k:Nat}(h:wr.heap[g]?=M (FZ t1 iO k))(hk:k<3):(wr.setCell ⟨g,1+k,O⟩ (I V (fC ((t0::t1::iO).drop (6+4*k))))).heap[g]?=M (FZ t1 iO (k+1)):=by
 unfold FZ at*;rw[heap_setCell_same _ g (1+k) _ _ _ h];rcases(by omega:k=0\/k=1\/k=2)with rfl|rfl|rfl<;>rfl
theorem wJ {w1:F}(h:aJ w w1)(hg:w.heap.size<=g)(i:Nat)(v:Y):aJ w (w1.setCell ⟨g,i,O⟩ v):=⟨h.os,h.tape,h.output,by have:=h.size;simpa using this,fun k hk=>(Below.heap_setCell _ _ _ _ (by simp only;omega)).trans (h.block k hk)⟩
theorem OV {b off:Nat}{l:List UInt8}(h:mU w (M ⟨b,off,O⟩) l)(hl:l.length<=900000000)(gX:l.length<=cap):
 H K 190 #[Z (M ⟨b,off,O⟩) l.length cap] w fun e w'=>e=Lh (jB l)/\aJ w w':=by
 by_cases hs:l.length<22
 ·have e1:jB l=O:=by unfold jB;rw[if_pos hs]
  rw[e1];exact Ch hs
 ·have hl22:(l.take 22).length=22:=by rw[List.length_take];omega
  have HU:Hid (∀W,aJ w W->H K 181 #[Z (M ⟨b,off,O⟩) 22 cap] W fun e w'=>e=xG b off cap (iD (l.take 22))/\∃q,w'=W.drewN q):=fun W hW=>by
   have:=Vv (cap:=cap) ((h.aM hW).take 22) (by omega) (by omega);rw[hl22]at this;exact this
  have z1:¬((l.length:Int)<22):=by omega
  have z2:(22:Int)<=(cap:Int):=by omega
  have z2':22<=cap:=by omega
  cases hu:iD (l.take 22)with
  |none=>
   have HE:Hid (jB l=O):=by show _=_;unfold jB;rw[if_neg hs,hu]
   rw[hu]at HU;have HU2:=HU.out _ (aJ.alloc (aJ.refl w) (C #[I .u8 0,I V 0,I V 0,I V 0] 99));unfold xG at HU2;clear h hu HU;go_enter Tryz.func190,Tryz.ntmps190
   go_wp2_with fail
   refine HU2.mono ?_;rintro e w1 ⟨rfl,q,rfl⟩
   go_wp2_with fail
   refine bodyPost_ret (v:= .tuple #[I V 0,.agg #[I .u8 0,I V 0,I V 0,I V 0],.bool false]) (by simp[results,Tryz.results190,go_sem]) rfl ?_;rw[HE.out];refine⟨rfl,?_⟩;refine⟨rfl,rfl,rfl,by simp,fun k hk=>?_⟩
   repeat (rw[Below.heap_setCell _ _ _ _ (by simp only;omega)])
   exact Below.heap_alloc _ _ _ hk
  |some t=>
   have ht:t=l.take 18:=by
    unfold iD at hu;rw[hl22,if_neg (by omega)]at hu;split at hu
    ·cases hu
     rw[List.take_take];rfl
    ·cases hu
   have Zc:t.length=18:=by rw[ht,List.length_take];omega
   have Pt:mU w (M ⟨b,off,O⟩) t:=by rw[ht];exact h.take 18
   rw[hu]at HU
   obtain⟨t0,t1,iO,rfl⟩:∃a b c,t=a::b::c:=by
    match t,Zc with
    |a::b::c,_=>exact⟨a,b,c,rfl⟩
   obtain⟨w0,GD⟩:∃w0,w0=w.alloc (C #[I .u8 0,I V 0,I V 0,I V 0] 99):=⟨_,rfl⟩;have Ml:aJ w w0:=by rw[GD];exact aJ.alloc (aJ.refl w) _
   have HU2:H K 181 #[Z (M ⟨b,off,O⟩) 22 cap] w0 fun e w'=>e=G (.tuple #[Z (M ⟨b,off,O⟩) 18 cap,.bool true])/\∃q,w'=w0.drewN q:=(HU.out w0 Ml).mono fun e w' he=>by
    simp only[xG,Zc]at he;exact he
   have c0:=fun W (hW:aJ w W)=>hW.cell (by
    rcases Pt with hx|⟨b',Tz,e,hc⟩
    ·cases hx
    ·cases e
     exact hc 0 t0 rfl:w.cell? ⟨b,off+0,O⟩=M (I .u8 (t0.toNat:Int)))
   have c1:=fun W (hW:aJ w W)=>hW.cell (by
    rcases Pt with hx|⟨b',Tz,e,hc⟩
    ·cases hx
    ·cases e
     exact hc 1 t1 rfl:w.cell? ⟨b,off+1,O⟩=M (I .u8 (t1.toNat:Int)))
   have HNum:Hid (∀W,aJ w W->∀k n c,k+4<=18->4<=n->H K 234 #[Z (M ⟨b,off+k,O⟩) n c] W fun e w'=>e=G (I .u32 (fC ((t0::t1::iO).drop k)))/\∃q,w'=W.drewN q):=fun W hW k n c hk hn=>Ja ((Pt.aM hW).drop k) (by rw[List.length_drop,Zc];omega) hn
   have Wt:∀W,aJ w W->W.cell? ⟨b,off,O⟩=M (I .u8 (t0.toNat:Int)):=c0
   have hR:jB l=if t0=74 then M (fC (iO),(t1.toNat:Int),fC (iO.drop 4),fC (iO.drop 8),fC (iO.drop 12))else O:=by
    unfold jB;rw[if_neg hs,hu];rfl
   have Gd:Hid (w0.heap[w.heap.size]?=M (C #[I .u8 0,I V 0,I V 0,I V 0] 99 (0,0))):=by show _=_;rw[GD];exact heap_alloc_new w _
   have d0:=Wt w0 Ml;have d1:=c1 w0 Ml;clear c0 h Pt hu HU ht;have kT:=UInt8.toNat_lt t0;have bX:=UInt8.toNat_lt t1;by_cases h74:t0=74
   ·rw[if_pos h74]at hR;have HE:Hid (jB l=M (fC (iO),(t1.toNat:Int),fC (iO.drop 4),fC (iO.drop 8),fC (iO.drop 12))):=hR;have e74:((t0.toNat:Int) !=74)=false:=by rw[h74];rfl
    have x0:w0.cell? ⟨w.heap.size,0,O⟩=M (I .u8 0):=by have:=Gd.out;simp[World.cell?,this]
    have xf0:w0.frozen? ⟨w.heap.size,0,O⟩=false:=by have:=Gd.out;simp[World.frozen?,this]
    have y1:¬cap=2:=by omega
    have y2:¬cap-2=4:=by omega
    have y3:2<=cap:=by omega
    clear hR h74;go_enter Tryz.func190,Tryz.ntmps190
    go_upto_region 1 with fail
    rw[<-GD];clear GD
    go_wp2_with fail
    refine HU2.mono ?_;rintro e w1 ⟨rfl,q,rfl⟩
    go_upto_region 6 with fail
    go_cut [0] (fun v0 wc=>v0=Z (M ⟨b,off+2,O⟩) 16 (cap-2)/\Hid (wc.heap[w.heap.size]?=M (C #[I .u8 (t1.toNat:Int),I V 0,I V 0,I V 0] 99 (0,0)))/\Hid (aJ w wc))
    case first=>
     go_region
     all_goals go_wp2_with fail
     all_goals go_meet
     all_goals refine⟨rfl,?_,?_⟩
     all_goals first
      |(show aJ w _;refine wJ ?_ (Nat.le_refl _) _ _;exact aJ.drew (bG Ml _))
      |(show _=_;exact heap_setCell_same _ _ 0 _ _ _ Gd.out)
    case rest=>
     obtain⟨rfl,Mq,Jj⟩:=hcut
     rename F=>w2
     have hN2:Hid (∀W,aJ w W->H K 234 #[Z (M ⟨b,off+2,O⟩) 16 (cap-2)] W fun e w'=>e=G (I .u32 (fC iO))/\∃q,w'=W.drewN q):=fun W hW=>HNum.out W hW 2 16 (cap-2) (by omega) (by omega)
     go_upto_region 7 with fail
     go_quiet (first|(go_at_call 234;exact Calls.quiet_of (hN2.out _ (bG Jj.out _))))
     have HWT:Hid (wrap64 (fC iO)=fC iO):=by show _=_;have:=mJ iO;unfold wrap64;omega
     have HNA:Hid (∀W,aJ w W->∀A k n c,A=off+k->k+4<=18->4<=n->H K 234 #[Z (M ⟨b,A,O⟩) n c] W fun e w'=>e=G (I .u32 (fC ((t0::t1::iO).drop k)))/\∃q,w'=W.drewN q):=fun W hW A k n c hA hk hn=>by rw[hA];exact HNum.out W hW k n c hk hn
     go_wp2_with fail
     obtain⟨w3,XF⟩:∃w3,w3=w2.drewN nq:=⟨_,rfl⟩;have ah:Hid (aJ w w3):=by show aJ w w3;rw[XF];exact bG Jj.out _
     have HB3:Hid (w3.heap[w.heap.size]?=M (C #[I .u8 (t1.toNat:Int),I V 0,I V 0,I V 0] 99 (0,0))):=by show _=_;rw[XF];exact Mq.out
     rw[<-XF];clear XF Mq Jj hN2
     go_loopw [5,36] (fun _ i wr=> ∃k:Nat,k<=3/\i=I V (k:Int)/\Hid (wr.heap[w.heap.size]?=M (FZ t1 iO k))/\Hid (aJ w wr)) (fun _ i _=>3-(intOf i).toNat)
     case atStart=>exact⟨0,Nat.zero_le _,rfl,HB3,ah⟩
     case round=>
      obtain⟨k,hk,rfl,HB,HG⟩:=hrel;by_cases bV:k<3
      ·have hbe:=mJ ((t0::t1::iO).drop (6+4*k));have eP:=fun A n c hA hn=>HNA.out wr HG.out A (6+4*k) n c hA (by omega) hn
       have HN:Hid (∀q,((wr.drewN q).setCell ⟨w.heap.size,1+k,O⟩ (I V (fC ((t0::t1::iO).drop (6+4*k))))).heap[w.heap.size]?=M (FZ t1 iO (k+1))):=fun q=>qj HB.out bV
       have zc:∃u,wr.cell? ⟨w.heap.size,1+k,O⟩=M u:=by
        have:=HB.out;unfold FZ at this;exact⟨_,(fV this (1+k)).1.trans (List.getElem?_eq_getElem (by simp;omega))⟩
       have zf:wr.frozen? ⟨w.heap.size,1+k,O⟩=false:=by have:=HB.out;unfold FZ at this;simp[World.frozen?,this]
       obtain⟨u,zc⟩:=zc;have HGS:Hid (∀q v,aJ w ((wr.drewN q).setCell ⟨w.heap.size,1+k,O⟩ v)):=fun q v=>wJ (bG HG.out _) (Nat.le_refl _) _ _
       generalize fC ((t0::t1::iO).drop (6+4*k))=z at hbe eP HN;have tQ:wrap64 z=z:=by unfold wrap64;omega
       have hc6:¬cap-2-4=0:=by omega
       have hc7:¬cap-2-4=4:=by omega
       have hc8:¬cap-2-4=8:=by omega
       rcases(by omega:k=0\/k=1\/k=2)with rfl|rfl|rfl
       all_goals go_wp2_with (go_at_call 234;refine(eP _ _ _ (by omega) (by omega)).mono ?_;rintro e w5 ⟨rfl,q5,rfl⟩)
       all_goals go_roundw
       all_goals first
        |(case rel=>exact⟨1,by omega,by go_num,HN.out _,HGS.out _ _⟩)
        |(case rel=>exact⟨2,by omega,by go_num,HN.out _,HGS.out _ _⟩)
        |(case rel=>exact⟨3,by omega,by go_num,HN.out _,HGS.out _ _⟩)
        |(case measure=>simp[intOf])
      ·obtain rfl:k=3:=by omega
       have hB:=HB.out;unfold FZ at hB;simp only[show(0:Nat)<3 from by omega,show(1:Nat)<3 from by omega,show(2:Nat)<3 from by omega,if_true]at hB;generalize fC (iO.drop 4)=n1 at hB HE;generalize fC (iO.drop 8)=n2 at hB HE;generalize fC (iO.drop 12)=n3 at hB HE;have p0:wr.cell? ⟨w.heap.size,0,O⟩=M (I .u8 (t1.toNat:Int)):=by simp[World.cell?,hB]
       have p1:wr.cell? ⟨w.heap.size,1,O⟩=M (I V n1):=by simp[World.cell?,hB]
       have p2:wr.cell? ⟨w.heap.size,2,O⟩=M (I V n2):=by simp[World.cell?,hB]
       have p3:wr.cell? ⟨w.heap.size,3,O⟩=M (I V n3):=by simp[World.cell?,hB]
       have pf:∀j,wr.frozen? ⟨w.heap.size,j,O⟩=false:=fun j=>by simp[World.frozen?,hB]
       have pf0:=pf 0;have pf1:=pf 1;have pf2:=pf 2;have pf3:=pf 3;clear pf hB HB
       go_wp2_with fail
       go_region
       all_goals go_wp2_with fail
       all_goals refine bodyPost_ret (v:= .tuple #[I V (fC iO),.agg #[I .u8 (t1.toNat:Int),I V n1,I V n2,I V n3],.bool true]) (by simp[results,Tryz.results190,go_sem,p0,p1,p2,p3,HWT.out]) rfl ?_
       all_goals rw[HE.out]
       all_goals refine⟨rfl,?_⟩
       all_goals exact aJ.drew (wJ (wJ (wJ (wJ HG.out (Nat.le_refl _) _ _) (Nat.le_refl _) _ _) (Nat.le_refl _) _ _) (Nat.le_refl _) _ _)
   ·rw[if_neg h74]at hR;have HE:Hid (jB l=O):=hR
    have e74:((t0.toNat:Int) !=74)=true:=by
     rw[bne_iff_ne];intro e;apply h74;have:t0.toNat=74:=by omega
     exact UInt8.toNat.inj this
    have hfz:∀j,w0.frozen? ⟨w.heap.size,j,O⟩=false:=fun j=>by have:=Gd.out;simp[World.frozen?,this]
    have x0:w0.cell? ⟨w.heap.size,0,O⟩=M (I .u8 0):=by have:=Gd.out;simp[World.cell?,this]
    have x1:w0.cell? ⟨w.heap.size,1,O⟩=M (I V 0):=by have:=Gd.out;simp[World.cell?,this]
    have x2:w0.cell? ⟨w.heap.size,2,O⟩=M (I V 0):=by have:=Gd.out;simp[World.cell?,this]
    have x3:w0.cell? ⟨w.heap.size,3,O⟩=M (I V 0):=by have:=Gd.out;simp[World.cell?,this]
    have f0:=hfz 0;have f1:=hfz 1;have f2:=hfz 2;have f3:=hfz 3;clear hR h74 hfz;go_enter Tryz.func190,Tryz.ntmps190
    go_upto_region 1 with fail
    rw[<-GD];clear GD
    go_wp2_with fail
    refine HU2.mono ?_;rintro e w1 ⟨rfl,q,rfl⟩
    go_wp2_with fail
    refine bodyPost_ret (v:= .tuple #[I V 0,.agg #[I .u8 0,I V 0,I V 0,I V 0],.bool false]) (by simp[results,Tryz.results190,go_sem,x0,x1,x2,x3]) rfl ?_;rw[HE.out];refine⟨rfl,?_⟩;refine⟨Ml.os,Ml.tape,Ml.output,by have:=Ml.size;simpa using this,fun k hk=>?_⟩
    repeat (rw[Below.heap_setCell _ _ _ _ (by simp only;omega)])
    exact Ml.block k hk
end Go.Proofs.YtfplgfodoiiobaaGreatDoor
