/- KxI (joined). -/
import Derived.Test.YtfplgfodoiiobaaGreatDoorJ41
open Option renaming none→O,some→M
open Go.Value renaming int→I,slice→Z,pointer→U
open Go.IntKind renaming i64→V
open Go.Obj renaming cells→C
open Go.Ending renaming returned→G
open Go renaming World→F,Value→Y,Calls→H
open Go.Proofs.Tryz renaming prog→K
namespace Go.Proofs.YtfplgfodoiiobaaGreatDoor
set_option maxHeartbeats 2000000
set_option maxRecDepth 100000
open Go.RowKit
theorem KR {w:F}{ps:Nat->Addr}{qp d:Nat}{g:Gm}{X:Nat->Prop}{P:Int->F->(Nat->Prop)->Prop}{E:Int->Int}{v:Y}{n m kk:Int}{S:ByteArray}(h0:Gl w ps)(hT:∀b,X b->lD w b)(hF:∀r,VK ps (P r))(hU:∀W,aJ w W->∀r,H K 28 #[U (M ⟨qp,0,O⟩),I V r,.string S] W fun e w'=>e=G (I V (E r))/\Ya W w' (P r) X)(hm:eU w v g d)(b1:(g.1.length:Int)<=5000)(b3:g.2.2.2<=900000)(hd:d<=50)(pQ: -9223372036854775808<=n)(oW:n<=9223372036854775807)(hs:S.size<=140737488355328):
 H K 23 #[U (M ⟨qp,0,O⟩),v,.agg #[I V 1,I V n,I V m,I V kk,.string S],I V (d:Int)] w fun e w'=>Yb w w' P E X d e g 1 m S:=by
 obtain⟨su,sr,rfl,h1,h2⟩:=hm.form;obtain⟨uo,un,uc,rfl⟩:=h1.form;obtain⟨ro,rn,rc,rfl⟩:=h2.form;have b2:=hm.d0;have gQ:=iX g.1;obtain⟨w1,dU⟩:∃w1,w1=((w.alloc (C #[.string (aR g.1),Z uo un uc,Z ro rn rc,I V g.2.2.2] 36)).alloc (C #[I V 1,I V n,I V m,I V kk,.string S] 39)).alloc (C #[.string ⟨#[]⟩,Z O 0 0,Z O 0 0,I V 0] 36):=⟨_,rfl⟩
 have kT:w1.heap[w.heap.size]?=M (C #[.string (aR g.1),Z uo un uc,Z ro rn rc,I V g.2.2.2] 36 (0,0)):=by
  rw[dU];exact((aU _ _).block _ (by simp;omega)).trans (((aU _ _).block _ (by simp)).trans (heap_alloc_new w _))
 have bX:w1.heap[w.heap.size+1]?=M (C #[I V 1,I V n,I V m,I V kk,.string S] 39 (0,0)):=by
  rw[dU];refine((aU _ _).block _ (by simp)).trans ?_;have:=heap_alloc_new (w.alloc (C #[.string (aR g.1),Z uo un uc,Z ro rn rc,I V g.2.2.2] 36)) (C #[I V 1,I V n,I V m,I V kk,.string S] 39);rwa[World.size_alloc]at this
 have fP:w1.heap[w.heap.size+1+1]?=M (C #[.string ⟨#[]⟩,Z O 0 0,Z O 0 0,I V 0] 36 (0,0)):=by
  rw[dU];have:=heap_alloc_new ((w.alloc (C #[.string (aR g.1),Z uo un uc,Z ro rn rc,I V g.2.2.2] 36)).alloc (C #[I V 1,I V n,I V m,I V kk,.string S] 39)) (C #[.string ⟨#[]⟩,Z O 0 0,Z O 0 0,I V 0] 36);rwa[World.size_alloc,World.size_alloc]at this
 have G1:aJ w w1:=by rw[dU];exact(((aJ.refl w).alloc _).alloc _).alloc _
 obtain⟨c0,c1,c2,c3⟩:=aZ kT;obtain⟨a0,a1,a2,a3,a4⟩:=kP bX;have Ce:=fun W=>tH (w:=W) pQ oW (show(0:Int)<=((aR g.1).size:Int) by omega) (by rw[gQ];omega)
 have Co:Hid (Gl w ps):=h0;have Rz:Hid (∀b,X b->lD w1 b):=fun b hb=>(hT b hb).aM G1
 have HM:Hid (eU w1 (.agg #[.string (aR g.1),Z uo un uc,Z ro rn rc,I V g.2.2.2]) g d):=hm.aM G1;have qQ:Hid (aJ w w1):=G1;have Gd:Hid (w1.heap[w.heap.size]?=M (C #[.string (aR g.1),Z uo un uc,Z ro rn rc,I V g.2.2.2] 36 (0,0))):=kT;have DK:Hid (w1.heap[w.heap.size+1]?=M (C #[I V 1,I V n,I V m,I V kk,.string S] 39 (0,0))):=bX;have Mq:Hid (w1.heap[w.heap.size+1+1]?=M (C #[.string ⟨#[]⟩,Z O 0 0,Z O 0 0,I V 0] 36 (0,0))):=fP;have HI:Hid (∀r,H K 28 #[U (M ⟨qp,0,O⟩),I V r,.string S] w1 fun e w'=>e=G (I V (E r))/\Ya w1 w' (P r) X):=hU w1 G1;have yO:Hid (∀r,VK ps (P r)):=hF;clear hF h0 hT hU hm h1 h2 kT bX fP G1;go_enter Tryz.func23,Tryz.ntmps23
 go_upto_region 1 with fail
 rw[<-dU];clear dU
 go_upto_region 6 with(first|(go_at_call 41;refine(Ce _).mono ?_;rintro e w2 ⟨r,rfl,r1,r2,rfl⟩)|(go_at_call 28;refine(HI.out _).mono ?_;rintro e w3 ⟨rfl,Pq⟩))
 obtain⟨X',P_,Mw⟩:=Pq;have Ct:=Mw.1.at Gd.out (fun e=>(Rz.out _ e).ne Gd.out (by decide) rfl);have Lr:=Mw.1.at Mq.out (fun e=>(Rz.out _ e).ne Mq.out (by decide) rfl);have UE:=Mw.1.at DK.out (fun e=>(Rz.out _ e).ne DK.out (by decide) rfl);obtain⟨d0,d1,d2,d3⟩:=aZ Ct;obtain⟨-,-,-,-,a4'⟩:=kP UE;have yX:Hid (eU w3 (.agg #[.string (aR g.1),Z uo un uc,Z ro rn rc,I V g.2.2.2]) g d):=HM.out.q Mw.1 Rz.out;have Bl:Hid (Ya w w3 (P r) X):=Oj qQ.out ⟨X',P_,Mw⟩;have jD:Hid (w3.heap[w.heap.size+1+1]?=M (C #[.string ⟨#[]⟩,Z O 0 0,Z O 0 0,I V 0] 36 (0,0))):=Lr;have ZB:Hid (∀pos,dL g 1 pos m S d=(qZ g pos S d).1):=fun pos=>by unfold dL;rw[if_pos rfl]
 have rG:(g.1.length:Int)<=5000:=b1;clear P_ Mw Ct Lr UE Rz HM qQ Gd DK Mq HI c0 c1 c2 c3 a0 a1 a2 a3 a4 gQ b1;by_cases k1:r<0\/(g.1.length:Int)<r
 ·have hq:qZ g r S d=(g,5):=by unfold qZ;rw[if_pos k1]
  have Lx:Hid (dL g 1 r m S d=g):=by show _=_;rw[ZB.out,hq]
  have Ma:Hid (eT g 1 r m S d=5):=by show _=_;unfold eT;rw[if_pos rfl,hq]
  clear hq ZB;by_cases k2:r<0
  ·clear k1
   go_upto_region 7 with fail
   refine fZ jD.out ?_;intro z0 z1 z2 z3 zf;have hne:w.heap.size≠w.heap.size+1+1:=by omega
   have e0:w3.drew.cell? ⟨w.heap.size,0,O⟩=M (.string (aR g.1)):=d0;have e1:w3.drew.cell? ⟨w.heap.size,1,O⟩=M (Z uo un uc):=d1;have e2:w3.drew.cell? ⟨w.heap.size,2,O⟩=M (Z ro rn rc):=d2;have e3:w3.drew.cell? ⟨w.heap.size,3,O⟩=M (I V g.2.2.2):=d3
   go_region_held3 (fun w'=>w'.cell? ⟨w.heap.size,0,O⟩=M (.string (aR g.1))/\w'.cell? ⟨w.heap.size,1,O⟩=M (Z uo un uc)/\w'.cell? ⟨w.heap.size,2,O⟩=M (Z ro rn rc)/\w'.cell? ⟨w.heap.size,3,O⟩=M (I V g.2.2.2))
    (first|(with_reducible exact⟨e0,e1,e2,e3⟩)|(exact⟨gD d0 hne _ _ _ _,gD d1 hne _ _ _ _,gD d2 hne _ _ _ _,gD d3 hne _ _ _ _⟩)) (fail)
   have qK:=iP jD.out (.string (aR g.1)) (Z uo un uc) (Z ro rn rc) (I V g.2.2.2);have vW:=yX.out.sN jD.out (.string (aR g.1)) (Z uo un uc) (Z ro rn rc) (I V g.2.2.2);have sM:=gW (yO.out r) Co.out Bl.out (by omega) jD.out (.string (aR g.1)) (Z uo un uc) (Z ro rn rc) (I V g.2.2.2);clear z0 z1 z2 z3 zf e0 e1 e2 e3 d0 d1 d2 d3 jD yX Bl;generalize ((((w3.setCell ⟨w.heap.size+1+1,0,O⟩ (.string (aR g.1))).setCell ⟨w.heap.size+1+1,1,O⟩ (Z uo un uc)).setCell ⟨w.heap.size+1+1,2,O⟩ (Z ro rn rc)).setCell ⟨w.heap.size+1+1,3,O⟩ (I V g.2.2.2))=w6 at*;have Sb:=vW.aM (aJ.drew (aJ.refl w6));have Mk:=gM (yO.out r) sM (aJ.drew (aJ.refl w6));obtain⟨q0,q1,q2,q3⟩:=aZ (show w6.drew.heap[w.heap.size+1+1]?=_ from qK);clear vW sM qK;generalize w6.drew=w7 at*
   go_wp2_with fail
   refine bodyPost_ret (v:= .tuple #[I V (E r),I V 5,.agg #[.string (aR g.1),Z uo un uc,Z ro rn rc,I V g.2.2.2]]) (by simp[results,Tryz.results23,go_sem,q0,q1,q2,q3]) rfl ?_;exact⟨r,_,by rw[Ma.out],Mk,by rw[Lx.out];exact Sb⟩
  ·have k3:(g.1.length:Int)<r:=k1.resolve_left k2;clear k1
   go_upto_region 7 with fail
   refine fZ jD.out ?_;intro z0 z1 z2 z3 zf;have hne:w.heap.size≠w.heap.size+1+1:=by omega
   have e0:w3.drew.cell? ⟨w.heap.size,0,O⟩=M (.string (aR g.1)):=d0;have e1:w3.drew.cell? ⟨w.heap.size,1,O⟩=M (Z uo un uc):=d1;have e2:w3.drew.cell? ⟨w.heap.size,2,O⟩=M (Z ro rn rc):=d2;have e3:w3.drew.cell? ⟨w.heap.size,3,O⟩=M (I V g.2.2.2):=d3
   go_region_held3 (fun w'=>w'.cell? ⟨w.heap.size,0,O⟩=M (.string (aR g.1))/\w'.cell? ⟨w.heap.size,1,O⟩=M (Z uo un uc)/\w'.cell? ⟨w.heap.size,2,O⟩=M (Z ro rn rc)/\w'.cell? ⟨w.heap.size,3,O⟩=M (I V g.2.2.2))
    (first|(with_reducible exact⟨e0,e1,e2,e3⟩)|(exact⟨gD d0 hne _ _ _ _,gD d1 hne _ _ _ _,gD d2 hne _ _ _ _,gD d3 hne _ _ _ _⟩)) (fail)
   have qK:=iP jD.out (.string (aR g.1)) (Z uo un uc) (Z ro rn rc) (I V g.2.2.2);have vW:=yX.out.sN jD.out (.string (aR g.1)) (Z uo un uc) (Z ro rn rc) (I V g.2.2.2);have sM:=gW (yO.out r) Co.out Bl.out (by omega) jD.out (.string (aR g.1)) (Z uo un uc) (Z ro rn rc) (I V g.2.2.2);clear z0 z1 z2 z3 zf e0 e1 e2 e3 d0 d1 d2 d3 jD yX Bl;generalize ((((w3.setCell ⟨w.heap.size+1+1,0,O⟩ (.string (aR g.1))).setCell ⟨w.heap.size+1+1,1,O⟩ (Z uo un uc)).setCell ⟨w.heap.size+1+1,2,O⟩ (Z ro rn rc)).setCell ⟨w.heap.size+1+1,3,O⟩ (I V g.2.2.2))=w6 at*;have Sb:=vW.aM (aJ.drew (aJ.refl w6));have Mk:=gM (yO.out r) sM (aJ.drew (aJ.refl w6));obtain⟨q0,q1,q2,q3⟩:=aZ (show w6.drew.heap[w.heap.size+1+1]?=_ from qK);clear vW sM qK;generalize w6.drew=w7 at*
   go_wp2_with fail
   refine bodyPost_ret (v:= .tuple #[I V (E r),I V 5,.agg #[.string (aR g.1),Z uo un uc,Z ro rn rc,I V g.2.2.2]]) (by simp[results,Tryz.results23,go_sem,q0,q1,q2,q3]) rfl ?_;exact⟨r,_,by rw[Ma.out],Mk,by rw[Lx.out];exact Sb⟩
 ·have k2:¬r<0:=fun e=>k1 (Or.inl e)
  have k3:¬(g.1.length:Int)<r:=fun e=>k1 (Or.inr e)
  by_cases m1:S.size<1\/200<S.size
  ·have hq:qZ g r S d=(g,6):=by unfold qZ;rw[if_neg k1,if_pos m1]
   have Lx:Hid (dL g 1 r m S d=g):=by show _=_;rw[ZB.out,hq]
   have Ma:Hid (eT g 1 r m S d=6):=by show _=_;unfold eT;rw[if_pos rfl,hq]
   clear hq ZB k1;by_cases m2:S.size<1
   ·have m3:(S.size:Int)<1:=by omega
    clear m1
    go_upto_region 9 with fail
    refine fZ jD.out ?_;intro z0 z1 z2 z3 zf;have hne:w.heap.size≠w.heap.size+1+1:=by omega
    have e0:w3.drew.cell? ⟨w.heap.size,0,O⟩=M (.string (aR g.1)):=d0;have e1:w3.drew.cell? ⟨w.heap.size,1,O⟩=M (Z uo un uc):=d1;have e2:w3.drew.cell? ⟨w.heap.size,2,O⟩=M (Z ro rn rc):=d2;have e3:w3.drew.cell? ⟨w.heap.size,3,O⟩=M (I V g.2.2.2):=d3
    go_region_held3 (fun w'=>w'.cell? ⟨w.heap.size,0,O⟩=M (.string (aR g.1))/\w'.cell? ⟨w.heap.size,1,O⟩=M (Z uo un uc)/\w'.cell? ⟨w.heap.size,2,O⟩=M (Z ro rn rc)/\w'.cell? ⟨w.heap.size,3,O⟩=M (I V g.2.2.2))
     (first|(with_reducible exact⟨e0,e1,e2,e3⟩)|(exact⟨gD d0 hne _ _ _ _,gD d1 hne _ _ _ _,gD d2 hne _ _ _ _,gD d3 hne _ _ _ _⟩)) (fail)
    have qK:=iP jD.out (.string (aR g.1)) (Z uo un uc) (Z ro rn rc) (I V g.2.2.2);have vW:=yX.out.sN jD.out (.string (aR g.1)) (Z uo un uc) (Z ro rn rc) (I V g.2.2.2);have sM:=gW (yO.out r) Co.out Bl.out (by omega) jD.out (.string (aR g.1)) (Z uo un uc) (Z ro rn rc) (I V g.2.2.2);clear z0 z1 z2 z3 zf e0 e1 e2 e3 d0 d1 d2 d3 jD yX Bl;generalize ((((w3.setCell ⟨w.heap.size+1+1,0,O⟩ (.string (aR g.1))).setCell ⟨w.heap.size+1+1,1,O⟩ (Z uo un uc)).setCell ⟨w.heap.size+1+1,2,O⟩ (Z ro rn rc)).setCell ⟨w.heap.size+1+1,3,O⟩ (I V g.2.2.2))=w6 at*;have Sb:=vW.aM (aJ.drew (aJ.refl w6));have Mk:=gM (yO.out r) sM (aJ.drew (aJ.refl w6));obtain⟨q0,q1,q2,q3⟩:=aZ (show w6.drew.heap[w.heap.size+1+1]?=_ from qK);clear vW sM qK;generalize w6.drew=w7 at*
    go_wp2_with fail
    refine bodyPost_ret (v:= .tuple #[I V (E r),I V 6,.agg #[.string (aR g.1),Z uo un uc,Z ro rn rc,I V g.2.2.2]]) (by simp[results,Tryz.results23,go_sem,q0,q1,q2,q3]) rfl ?_;exact⟨r,_,by rw[Ma.out],Mk,by rw[Lx.out];exact Sb⟩
   ·have m3:¬(S.size:Int)<1:=by omega
    have m4:(200:Int)<(S.size:Int):=by omega
    clear m1
    go_upto_region 9 with fail
    refine fZ jD.out ?_;intro z0 z1 z2 z3 zf;have hne:w.heap.size≠w.heap.size+1+1:=by omega
    have e0:w3.drew.cell? ⟨w.heap.size,0,O⟩=M (.string (aR g.1)):=d0;have e1:w3.drew.cell? ⟨w.heap.size,1,O⟩=M (Z uo un uc):=d1;have e2:w3.drew.cell? ⟨w.heap.size,2,O⟩=M (Z ro rn rc):=d2;have e3:w3.drew.cell? ⟨w.heap.size,3,O⟩=M (I V g.2.2.2):=d3
    go_region_held3 (fun w'=>w'.cell? ⟨w.heap.size,0,O⟩=M (.string (aR g.1))/\w'.cell? ⟨w.heap.size,1,O⟩=M (Z uo un uc)/\w'.cell? ⟨w.heap.size,2,O⟩=M (Z ro rn rc)/\w'.cell? ⟨w.heap.size,3,O⟩=M (I V g.2.2.2))
     (first|(with_reducible exact⟨e0,e1,e2,e3⟩)|(exact⟨gD d0 hne _ _ _ _,gD d1 hne _ _ _ _,gD d2 hne _ _ _ _,gD d3 hne _ _ _ _⟩)) (fail)
    have qK:=iP jD.out (.string (aR g.1)) (Z uo un uc) (Z ro rn rc) (I V g.2.2.2);have vW:=yX.out.sN jD.out (.string (aR g.1)) (Z uo un uc) (Z ro rn rc) (I V g.2.2.2);have sM:=gW (yO.out r) Co.out Bl.out (by omega) jD.out (.string (aR g.1)) (Z uo un uc) (Z ro rn rc) (I V g.2.2.2);clear z0 z1 z2 z3 zf e0 e1 e2 e3 d0 d1 d2 d3 jD yX Bl;generalize ((((w3.setCell ⟨w.heap.size+1+1,0,O⟩ (.string (aR g.1))).setCell ⟨w.heap.size+1+1,1,O⟩ (Z uo un uc)).setCell ⟨w.heap.size+1+1,2,O⟩ (Z ro rn rc)).setCell ⟨w.heap.size+1+1,3,O⟩ (I V g.2.2.2))=w6 at*;have Sb:=vW.aM (aJ.drew (aJ.refl w6));have Mk:=gM (yO.out r) sM (aJ.drew (aJ.refl w6));obtain⟨q0,q1,q2,q3⟩:=aZ (show w6.drew.heap[w.heap.size+1+1]?=_ from qK);clear vW sM qK;generalize w6.drew=w7 at*
    go_wp2_with fail
    refine bodyPost_ret (v:= .tuple #[I V (E r),I V 6,.agg #[.string (aR g.1),Z uo un uc,Z ro rn rc,I V g.2.2.2]]) (by simp[results,Tryz.results23,go_sem,q0,q1,q2,q3]) rfl ?_;exact⟨r,_,by rw[Ma.out],Mk,by rw[Lx.out];exact Sb⟩
  ·have m3:¬(S.size:Int)<1:=by omega
   have m4:¬(200:Int)<(S.size:Int):=by omega
   by_cases p1:5000<(g.1.length:Int)+(S.size:Int)
   ·have hq:qZ g r S d=(g,7):=by unfold qZ;rw[if_neg k1,if_neg m1,if_pos p1]
    have Lx:Hid (dL g 1 r m S d=g):=by show _=_;rw[ZB.out,hq]
    have Ma:Hid (eT g 1 r m S d=7):=by show _=_;unfold eT;rw[if_pos rfl,hq]
    clear hq ZB k1 m1
    go_upto_region 11 with fail
    refine fZ jD.out ?_;intro z0 z1 z2 z3 zf;have hne:w.heap.size≠w.heap.size+1+1:=by omega
    have e0:w3.drew.cell? ⟨w.heap.size,0,O⟩=M (.string (aR g.1)):=d0;have e1:w3.drew.cell? ⟨w.heap.size,1,O⟩=M (Z uo un uc):=d1;have e2:w3.drew.cell? ⟨w.heap.size,2,O⟩=M (Z ro rn rc):=d2;have e3:w3.drew.cell? ⟨w.heap.size,3,O⟩=M (I V g.2.2.2):=d3
    go_region_held3 (fun w'=>w'.cell? ⟨w.heap.size,0,O⟩=M (.string (aR g.1))/\w'.cell? ⟨w.heap.size,1,O⟩=M (Z uo un uc)/\w'.cell? ⟨w.heap.size,2,O⟩=M (Z ro rn rc)/\w'.cell? ⟨w.heap.size,3,O⟩=M (I V g.2.2.2))
     (first|(with_reducible exact⟨e0,e1,e2,e3⟩)|(exact⟨gD d0 hne _ _ _ _,gD d1 hne _ _ _ _,gD d2 hne _ _ _ _,gD d3 hne _ _ _ _⟩)) (fail)
    have qK:=iP jD.out (.string (aR g.1)) (Z uo un uc) (Z ro rn rc) (I V g.2.2.2);have vW:=yX.out.sN jD.out (.string (aR g.1)) (Z uo un uc) (Z ro rn rc) (I V g.2.2.2);have sM:=gW (yO.out r) Co.out Bl.out (by omega) jD.out (.string (aR g.1)) (Z uo un uc) (Z ro rn rc) (I V g.2.2.2);clear z0 z1 z2 z3 zf e0 e1 e2 e3 d0 d1 d2 d3 jD yX Bl;generalize ((((w3.setCell ⟨w.heap.size+1+1,0,O⟩ (.string (aR g.1))).setCell ⟨w.heap.size+1+1,1,O⟩ (Z uo un uc)).setCell ⟨w.heap.size+1+1,2,O⟩ (Z ro rn rc)).setCell ⟨w.heap.size+1+1,3,O⟩ (I V g.2.2.2))=w6 at*;have Sb:=vW.aM (aJ.drew (aJ.refl w6));have Mk:=gM (yO.out r) sM (aJ.drew (aJ.refl w6));obtain⟨q0,q1,q2,q3⟩:=aZ (show w6.drew.heap[w.heap.size+1+1]?=_ from qK);clear vW sM qK;generalize w6.drew=w7 at*
    go_wp2_with fail
    refine bodyPost_ret (v:= .tuple #[I V (E r),I V 7,.agg #[.string (aR g.1),Z uo un uc,Z ro rn rc,I V g.2.2.2]]) (by simp[results,Tryz.results23,go_sem,q0,q1,q2,q3]) rfl ?_;exact⟨r,_,by rw[Ma.out],Mk,by rw[Lx.out];exact Sb⟩
   ·have i1:0<=r:=by omega
    have gQ:=iX g.1;have i2:r<=((aR g.1).size:Int):=by omega
    have x1:((aR g.1).extract 0 r.toNat).size=r.toNat:=by rw[ByteArray.size_extract];omega
    have x2:((aR g.1).extract r.toNat (aR g.1).size).size<=5000:=by rw[ByteArray.size_extract];omega
    have Q_:∀w,(Op.stringOp .add ((aR g.1).extract 0 r.toNat) S).run K w= .ok (.string ((aR g.1).extract 0 r.toNat++S)) w:=fun w=>run_string_add_sum w _ _ (by omega)
    have TW:∀w,(Op.stringOp .add ((aR g.1).extract 0 r.toNat++S) ((aR g.1).extract r.toNat (aR g.1).size)).run K w= .ok (.string ((aR g.1).extract 0 r.toNat++S++(aR g.1).extract r.toNat (aR g.1).size)) w:=fun w=>run_string_add_sum w _ _ (by rw[ByteArray.size_append];omega)
    have hq:qZ g r S d=(Kc g (g.1.take r.toNat++S.data.toList++g.1.drop r.toNat) d,0):=by unfold qZ;rw[if_neg k1,if_neg m1,if_neg p1]
    have Lx:Hid (dL g 1 r m S d=Kc g (g.1.take r.toNat++S.data.toList++g.1.drop r.toNat) d):=by show _=_;rw[ZB.out,hq]
    have Ma:Hid (eT g 1 r m S d=0):=by show _=_;unfold eT;rw[if_pos rfl,hq]
    have hX:(aR g.1).extract 0 r.toNat++S++(aR g.1).extract r.toNat (aR g.1).size=aR (g.1.take r.toNat++S.data.toList++g.1.drop r.toNat):=by
     refine pW ?_;rw[eY,eY,iC,iC,gQ];simp only[aR,List.drop_zero,Nat.sub_zero];rw[List.take_of_length_le (l:=g.1.drop r.toNat) (by rw[List.length_drop];omega)]
    have HUn:Hid (∀W,aJ w3 W->H K 43 #[.agg #[.string (aR g.1),Z uo un uc,Z ro rn rc,I V g.2.2.2],.string ((aR g.1).extract 0 r.toNat++S++(aR g.1).extract r.toNat (aR g.1).size),I V (d:Int)] W fun e w'=> ∃t1 a1 a2 a3 b1 b2 b3 dn,e=G (.agg #[.string t1,Z a1 a2 a3,Z b1 b2 b3,I V dn])/\eU w' (.agg #[.string t1,Z a1 a2 a3,Z b1 b2 b3,I V dn]) (Kc g (g.1.take r.toNat++S.data.toList++g.1.drop r.toNat) d) d/\aJ W w'):=fun W hW=>by
     rw[hX];refine(Lv (yX.out.aM hW) hd (by omega)).mono ?_;rintro e w' ⟨v',rfl,k1,k2⟩;obtain⟨su,sr,rfl,s1,s2⟩:=k1.form;obtain⟨x1,x2,x3,rfl⟩:=s1.form;obtain⟨y1,y2,y3,rfl⟩:=s2.form;exact⟨_,_,_,_,_,_,_,_,rfl,k1,k2⟩
    clear hq ZB k1 m1 hX yX
    go_upto_region 12 with fail
    have e0:w3.drew.cell? ⟨w.heap.size,0,O⟩=M (.string (aR g.1)):=d0;have e1:w3.drew.cell? ⟨w.heap.size,1,O⟩=M (Z uo un uc):=d1;have e2:w3.drew.cell? ⟨w.heap.size,2,O⟩=M (Z ro rn rc):=d2;have e3:w3.drew.cell? ⟨w.heap.size,3,O⟩=M (I V g.2.2.2):=d3;have e4:w3.drew.cell? ⟨w.heap.size+1,4,O⟩=M (.string S):=a4';have hne:w.heap.size≠w.heap.size+1+1:=by omega
    have fw:w.heap.size+1≠w.heap.size+1+1:=by omega
    have XW:Hid (∀W,aJ w3.drew W->W.heap[w.heap.size+1+1]?=M (C #[.string ⟨#[]⟩,Z O 0 0,Z O 0 0,I V 0] 36 (0,0))):=fun W hW=>(hW.block _ (aK jD.out)).trans jD.out
    clear gQ x1 x2 k2 k3 m3 m4 p1 rG
    go_region_held3 (fun w'=>w'.cell? ⟨w.heap.size,0,O⟩=M (.string (aR g.1))/\w'.cell? ⟨w.heap.size,1,O⟩=M (Z uo un uc)/\w'.cell? ⟨w.heap.size,2,O⟩=M (Z ro rn rc)/\w'.cell? ⟨w.heap.size,3,O⟩=M (I V g.2.2.2)/\w'.cell? ⟨w.heap.size+1,4,O⟩=M (.string S))
     (first|(with_reducible exact⟨e0,e1,e2,e3,e4⟩)|(with_reducible exact⟨y0,y1,y2,y3,y4⟩)|(exact⟨gD y0 hne _ _ _ _,gD y1 hne _ _ _ _,gD y2 hne _ _ _ _,gD y3 hne _ _ _ _,gD y4 fw _ _ _ _⟩))
     (first|(go_at_call 43;refine(HUn.out _ (aJ.drew (aJ.refl _))).mono ?_;rintro e w5 ⟨t1,x1,x2,x3,q1,q2,q3,dn,rfl,Ux,dK⟩;have y0:=dK.cell e0;have y1:=dK.cell e1;have y2:=dK.cell e2;have y3:=dK.cell e3;have y4:=dK.cell e4;refine fZ (XW.out _ dK) ?_;intro z0 z1 z2 z3 zf))
    have rG:=XW.out _ dK;have qK:=iP rG (.string t1) (Z x1 x2 x3) (Z q1 q2 q3) (I V dn);have vW:=Ux.sN rG (.string t1) (Z x1 x2 x3) (Z q1 q2 q3) (I V dn);have sM:=gW (yO.out r) Co.out (gM (yO.out r) (gM (yO.out r) Bl.out (aJ.drew (aJ.refl _))) dK) (by omega) rG (.string t1) (Z x1 x2 x3) (Z q1 q2 q3) (I V dn);obtain⟨u0,u1,u2,u3⟩:=aZ qK;clear z0 z1 z2 z3 zf y0 y1 y2 y3 y4 e0 e1 e2 e3 e4 d0 d1 d2 d3 a4' rG dK Ux jD Bl XW HUn Q_ TW qK;generalize ((((w5.setCell ⟨w.heap.size+1+1,0,O⟩ (.string t1)).setCell ⟨w.heap.size+1+1,1,O⟩ (Z x1 x2 x3)).setCell ⟨w.heap.size+1+1,2,O⟩ (Z q1 q2 q3)).setCell ⟨w.heap.size+1+1,3,O⟩ (I V dn))=w6 at*
    go_wp2_with fail
    refine bodyPost_ret (v:= .tuple #[I V (E r),I V 0,.agg #[.string t1,Z x1 x2 x3,Z q1 q2 q3,I V dn]]) (by simp[results,Tryz.results23,go_sem,u0,u1,u2,u3]) rfl ?_;exact⟨r,_,by rw[Ma.out],sM,by rw[Lx.out];exact vW⟩
end Go.Proofs.YtfplgfodoiiobaaGreatDoor
