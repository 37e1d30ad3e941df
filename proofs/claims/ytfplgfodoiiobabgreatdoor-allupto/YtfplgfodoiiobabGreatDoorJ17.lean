/- a part of the proof. -/
import Derived.Test.YtfplgfodoiiobabGreatDoorJ15
open Option renaming none->O,some->M
open Go.Value renaming int->I,slice->Z,pointer->U
open Go.IntKind renaming i64->V
open Go.Obj renaming cells->C
open Go.Ending renaming returned->G
open Go renaming World->F,Value->Y,Calls->H
open Go.Proofs.Tryz renaming prog→K
open Go.Proofs.Tryz
namespace Go.Proofs.YtfplgfodoiiobabGreatDoor
set_option maxHeartbeats 4000000
set_option maxRecDepth 100000
open Go.RowKit
theorem LV {w:F}{db b0 b1 b2 Ov:Nat}{ad:Addr}{s:Sc}{fv:Y}{rs:List FR}{n:Int}{b:ByteArray}(h:aU w db s fv rs)(hs:(plain rs).Pairwise (λa b=>a.1<b.1))(hl:rs.length<=1000000)(hb:b.size<=2000000)
 (c0:w.heap[b0]?=M (C #[U (M ⟨db,0,O⟩)] 111 (0,0)))(c1:w.heap[b1]?=M (C #[I V n] 3 (0,0)))(c2:w.heap[b2]?=M (C #[Z (M ad) b.size Ov] 170 (0,0)))(hr:pX w (M ad) b.data.toList)(Vp:∃aR f,w.heap[ad.block]?=M (C aR 5 f))(hh:kP (plain rs) n=false):
 H K 186 #[U (M ⟨b0,0,O⟩),U (M ⟨b1,0,O⟩),U (M ⟨b2,0,O⟩)] w λe w'=>e=G (.tuple #[])/\AppD w w' db s fv rs n b:=by
 have hF:=Cg (n:=n) h hs hl;obtain⟨-,d1,-⟩:=dM h.1;obtain⟨x,i,rfl,iW,hm,gV,jG⟩:=iL.form h.2.1;have HD:Hid (aU w db s (Z x rs.length i) rs):=h;have HS:Hid _:=hs;have HH:Hid _:=hh;rw[hh]at hF;have hle:fF (plain rs) n<=rs.length:=by have:=Md (plain rs) n;rwa[bP]at this
 obtain⟨u,QL⟩:∃u,u=fF (plain rs) n:=⟨_,rfl⟩;have b3:Hid _:=QL;rw[<-QL]at hF hle;have a9:w.cell? ⟨b0,0,O⟩=M (U (M ⟨db,0,O⟩)):=by simp[World.cell?,c0]
 have b4:w.cell? ⟨b1,0,O⟩=M (I V n):=by simp[World.cell?,c1]
 have P:∀g,(Value.slice x rs.length i).ownBlock=M g->∃aR,w.heap[g]?=M (C aR 200 (0,0)):=λg hg=>iH h.2.1 hg
 have HI:Hid (∀W:F,aL w W->W.heap[w.heap.size]?=M (uR (w.heap.size,Z O 0 0,(n,⟨#[]⟩,0)))->W.heap[w.heap.size+1]?=M (C #[U (M ⟨w.heap.size,0,O⟩)] 200 (0,0))->
  H K 187 #[Z x rs.length i,I V (u:Int),Z (M ⟨w.heap.size+1,0,O⟩) 1 1] W λe w'=> ∃v',e=G v'/\mD W w' (Z x rs.length i) v' rs u (w.heap.size,Z O 0 0,(n,⟨#[]⟩,0))):=λW D _ h2=>
  BM (r:=(w.heap.size,Z O 0 0,(n,⟨#[]⟩,0))) (HD.out.aN D).2.1 hle h2 (λe=>by
   obtain⟨c,A⟩:=P _ e;have:=aM A;omega) hl
 have HB:Hid (∀(W d:F) (j:Y),aL w W->mD W d (Z x rs.length i) j rs u (w.heap.size,Z O 0 0,(n,⟨#[]⟩,0))->W.heap[w.heap.size]?=M (uR (w.heap.size,Z O 0 0,(n,⟨#[]⟩,0)))->
  d.heap[db]?=M (jO s (Z x rs.length i))/\d.heap[b0]?=M (C #[U (M ⟨db,0,O⟩)] 111 (0,0))/\d.heap[b2]?=M (C #[Z (M ad) b.size Ov] 170 (0,0))/\d.heap[w.heap.size]?=M (uR (w.heap.size,Z O 0 0,(n,⟨#[]⟩,0)))/\pX d (M ad) b.data.toList):=λW d j D J hf=>by
  have y:∀(k:Nat) (aR:Array Y) (t:TypeId),w.heap[k]?=M (Obj.cells aR t (0,0))->t≠200->d.heap[k]?=M (Obj.cells aR t (0,0)):=λk aR t B ht=>
   iP J.2.1 ((D.block _ (aM B)).trans B) (λe=>by
    obtain⟨c,A⟩:=P _ e;exact aZ B A ht rfl)
  refine⟨y _ _ _ h.1 (by decide),y _ _ _ c0 (by decide),y _ _ _ c2 (by decide),iP J.2.1 hf (λe=>by
   obtain⟨c,A⟩:=P _ e;have:=aM A;omega),?_⟩
  have h1:=hr.aN D;refine h1.fr (Fr.iA J.2.1) (λa e hx=>?_);cases e
  obtain⟨c,A⟩:=P _ hx;obtain⟨c',f',Yc⟩:=Vp;exact aZ Yc A (by decide) rfl
 have HA:Hid (∀(W d:F) (j:Y),aL w W->mD W d (Z x rs.length i) j rs u (w.heap.size,Z O 0 0,(n,⟨#[]⟩,0))->W.heap[w.heap.size]?=M (uR (w.heap.size,Z O 0 0,(n,⟨#[]⟩,0)))->
  ∃g5 z,j=Z (M ⟨g5,0,O⟩) (rs.length+1) z/\d.cell? ⟨b0,0,O⟩=M (U (M ⟨db,0,O⟩))/\d.cell? ⟨db,1,O⟩=M (Z x rs.length i)/\d.frozen? ⟨db,1,O⟩=false/\((d.setCell ⟨db,1,O⟩ j).cell? ⟨b0,0,O⟩=M (U (M ⟨db,0,O⟩))/\(d.setCell ⟨db,1,O⟩ j).cell? ⟨db,1,O⟩=M j/\(d.setCell ⟨db,1,O⟩ j).cell? ⟨g5,u,O⟩=M (U (M ⟨w.heap.size,0,O⟩))/\
   (d.setCell ⟨db,1,O⟩ j).cell? ⟨w.heap.size,1,O⟩=M (Z O 0 0)/\(d.setCell ⟨db,1,O⟩ j).cell? ⟨b2,0,O⟩=M (Z (M ad) b.size Ov)/\pX (d.setCell ⟨db,1,O⟩ j) (M ad) b.data.toList/\(d.setCell ⟨db,1,O⟩ j).heap[w.heap.size]?=M (uR (w.heap.size,Z O 0 0,(n,⟨#[]⟩,0))))):=λW d j D J hf=>by
  obtain⟨q1,q2,q3,q4,q5⟩:=HB.out W d j D J hf;obtain⟨Yk,z,e5,-,-,Lr,E⟩:=iL.form J.1;have L:(rs.take u++(w.heap.size,Value.slice O 0 0,(n,(⟨#[]⟩:ByteArray),(0:Int)))::rs.drop u).length=rs.length+1:=by simp;omega
  cases Yk with
  |none=>obtain⟨e,-⟩:=Lr rfl;rw[e]at L;simp at L
  |some a5=>
   obtain⟨g5,c3,rfl,eY,-,-,WZ⟩:=E a5 rfl;rw[L]at e5
   have B:(rs.take u++(w.heap.size,Value.slice O 0 0,(n,(⟨#[]⟩:ByteArray),(0:Int)))::rs.drop u)[u]?=M (w.heap.size,Z O 0 0,(n,⟨#[]⟩,0)):=by
    rw[Abb (by simp;omega)];simp[Nat.min_eq_left hle]
   have k1:=WZ u _ B;have aD:=Fr.set d ⟨db,1,O⟩ j;obtain⟨-,m1,-,-,-,-,-,-,mf⟩:=dM q1;have S:∀(k:Nat) (aR:Array Y) (t:TypeId),d.heap[k]?=M (Obj.cells aR t (0,0))->t≠155->(d.setCell ⟨db,1,O⟩ j).heap[k]?=M (Obj.cells aR t (0,0)):=λk aR t B ht=>aD.at B (λe=>aZ B q1 ht e);refine⟨g5,z,e5,by simp[World.cell?,q2],m1,mf 1,?_,?_,?_,?_,?_,?_,S _ _ _ q4 (by decide)⟩
   ·simp[World.cell?,S _ _ _ q2 (by decide)]
   ·have a8:(d.setCell ⟨db,1,O⟩ j).heap[db]?=M (jO s j):=(by rw[Aaj d db 1 _ _ _ q1];rfl);exact(dM a8).2.1
   ·have lN:=S _ _ _ eY (by decide);have e6:=lN.trans eY.symm;exact(AaN e6).trans k1
   ·exact(iC (r:=(w.heap.size,Z O 0 0,(n,⟨#[]⟩,0))) (S _ _ _ q4 (by decide))).2.1
   ·simp[World.cell?,S _ _ _ q3 (by decide)]
   ·refine q5.fr aD (λa e hx=>?_);cases e
    obtain⟨c',f',Yc⟩:=Vp
    have y:¬(Value.slice x rs.length i).ownBlock=M ad.block:=λe=>by
     obtain⟨c,A⟩:=P _ e;exact aZ Yc A (by decide) rfl
    have h5:=iP J.2.1 ((D.block _ (aM Yc)).trans Yc) y;exact aZ h5 q1 (by decide) hx
 clear hs hh jG gV QL c0 c1 c2 P h hr Vp;go_enter func186,ntmps186;go_wp2_with fail;refine hF.mono ?_;rintro e w ⟨rfl,rfl⟩;go_upto_region 2 with fail;have a0:∀o,(w.alloc o).cell? ⟨b0,0,O⟩=M (U (M ⟨db,0,O⟩)):=λo=>Aay (aO _ _) a9
 have a1:∀o,(w.alloc o).cell? ⟨db,1,O⟩=M (Z x rs.length i):=λo=>Aay (aO _ _) d1;have a2:∀o o2,((w.alloc o).alloc o2).cell? ⟨b0,0,O⟩=M (U (M ⟨db,0,O⟩)):=λo o2=>Aay (aO _ _) (a0 o);have a3:∀o o2,((w.alloc o).alloc o2).cell? ⟨db,1,O⟩=M (Z x rs.length i):=λo o2=>Aay (aO _ _) (a1 o)
 go_cut [14] (λ_ wc=> ∃(W d:F) (g5 z:Nat),wc=d.setCell ⟨db,1,O⟩ (Z (M ⟨g5,0,O⟩) (rs.length+1) z)/\Hid (aL w W)/\Hid (mD W d (Z x rs.length i) (Z (M ⟨g5,0,O⟩) (rs.length+1) z) rs u (w.heap.size,Z O 0 0,(n,⟨#[]⟩,0)))/\Hid (W.heap[w.heap.size]?=M (uR (w.heap.size,Z O 0 0,(n,⟨#[]⟩,0)))))
 case first=>
  go_region_law ((refine dD (by rfl) 187 _ _ (by rfl) _ (by simp[Act.eval];done) LU ((HI.out _ (new2G w _ _) (XY w _ _) (new2b w _ _)).mono ?_);rintro e d ⟨j,rfl,N⟩;refine⟨j,rfl,?_⟩;obtain⟨g5,z,rfl,x0,x1,x2,-⟩:=HA.out _ d j (new2G w _ _) N (XY w _ _)))
  all_goals go_wp2_with fail
  all_goals go_meet
  all_goals exact⟨_,d,g5,z,rfl,new2G w _ _,N,XY w _ _⟩
 case rest=>
  obtain⟨W,d,g5,z,rfl,rG,N,a4⟩:=hcut;obtain⟨g6,b8,e6,-,-,-,y0,y1,y2,y3,y4,y5,y6⟩:=HA.out W d _ rG.out N.out a4.out;cases e6
  clear a0 a1 a2 a3 d1 a9 b4 hF;have b6:Hid _:=N;clear N;have a7:Hid _:=y6;clear y6;have a6:Hid (∃w6,w6=d.setCell ⟨db,1,O⟩ (Z (M ⟨g5,0,O⟩) (rs.length+1) z)):=⟨_,rfl⟩;obtain⟨w6,h6⟩:=a6.out;have R:Hid _:=h6;rw[<-h6]at y0 y1 y2 y3 y4 y5 a7 ⊢;clear h6 a6;have i1:(0:Int)<=(u:Int):=by omega
  have i2:(u:Int)<(rs.length:Int)+1:=by omega
  have b5:Hid (([]++b.data.toList:List UInt8).length=b.size):=rfl;go_wp2_with fail
  go_region_law ((refine zB (by rfl) (.tmp 38) (.tmp 39) (by rfl) 0 (Z O 0 0) [] b.data.toList (by rfl) (by exact bL.nil _ 0) ad b.size Ov (by rfl) (by rfl) (by exact y5) (by show 0+b.size<=_;omega) (Aao _) ?_;intro v7 w7 vX oZ b7;have Yd:w6.grownBy w7 O:=⟨oZ.os,oZ.tape,oZ.output,oZ.size,oZ.block⟩;have X:=iP Yd a7.out (λe=>by cases e);have x1:w7.cell? ⟨w.heap.size,1,O⟩=M (Z O 0 0):=(iC (r:=(w.heap.size,Z O 0 0,(n,⟨#[]⟩,0))) X).2.1;have c5:w7.frozen? ⟨w.heap.size,1,O⟩=false:=(iC (r:=(w.heap.size,Z O 0 0,(n,⟨#[]⟩,0))) X).2.2.2 1;obtain⟨c4,b9,Q,-⟩:=bL.form vX;rw[b5.out]at Q;subst Q))
  all_goals go_wp2_with fail
  all_goals go_end0
  all_goals refine⟨rfl,app_new HD.out HS.out HH.out b3.out (Aak _) rG.out b6.out a4.out (by simpa using vX) (by rw[<-R.out];exact Yd) (by rw[<-R.out];exact b7)⟩
end Go.Proofs.YtfplgfodoiiobabGreatDoor
