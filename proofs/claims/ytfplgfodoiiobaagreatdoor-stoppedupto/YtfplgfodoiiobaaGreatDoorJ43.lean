/- KxL, KwG, KwJ, KpP (joined). -/
import Derived.Test.YtfplgfodoiiobaaGreatDoorJ42
open Option renaming none→O,some→M
open Go.Value renaming int→I,slice→Z,pointer→U
open Go.IntKind renaming i64→V
open Go.Obj renaming cells→C
open Go.Ending renaming returned→G
open Go renaming World→F,Value→Y,Calls→H
open Go.Proofs.Tryz renaming prog→K
namespace Go.Proofs.YtfplgfodoiiobaaGreatDoor
set_option maxHeartbeats 2000000
set_option maxRecDepth 100000
open Go.RowKit
variable {d k qp:Nat}{ps:Nat->Addr}{g:Gm}{w:F}{X:Nat->Prop}{v:Y}{n m kk ep:Int}{S ck:ByteArray}{B:List UInt8}{rs:List (List UInt8)}{ms:Nat->bT}{ts:Nat->Tm}{gs:Nat->Gm}
theorem KS {P:Int->F->(Nat->Prop)->Prop}{E:Int->Int}(h0:Gl w ps)(hT:∀b,X b->lD w b)(hF:∀r,VK ps (P r))(hU:∀W,aJ w W->∀r,H K 44 #[U (M ⟨qp,0,O⟩),I V r,I V m] W fun e w'=>e=G (I V (E r))/\Ya W w' (P r) X)(hm:eU w v g d)(b1:(g.1.length:Int)<=5000)(b3:g.2.2.2<=900000)(hd:d<=50)(pQ: -9223372036854775808<=n)(oW:n<=9223372036854775807)(BP: -9223372036854775808<=m)(hm2:m<=9223372036854775807):
 H K 23 #[U (M ⟨qp,0,O⟩),v,.agg #[I V 2,I V n,I V m,I V kk,.string S],I V (d:Int)] w fun e w'=>Yb w w' P E X d e g 2 m S:=by
 obtain⟨su,sr,rfl,h1,h2⟩:=hm.form;obtain⟨uo,un,uc,rfl⟩:=h1.form;obtain⟨ro,rn,rc,rfl⟩:=h2.form;have b2:=hm.d0;have gQ:=iX g.1;obtain⟨w1,dU⟩:∃w1,w1=((w.alloc (C #[.string (aR g.1),Z uo un uc,Z ro rn rc,I V g.2.2.2] 36)).alloc (C #[I V 2,I V n,I V m,I V kk,.string S] 39)).alloc (C #[.string ⟨#[]⟩,Z O 0 0,Z O 0 0,I V 0] 36):=⟨_,rfl⟩
 have kT:w1.heap[w.heap.size]?=M (C #[.string (aR g.1),Z uo un uc,Z ro rn rc,I V g.2.2.2] 36 (0,0)):=by
  rw[dU];exact((aU _ _).block _ (by simp;omega)).trans (((aU _ _).block _ (by simp)).trans (heap_alloc_new w _))
 have bX:w1.heap[w.heap.size+1]?=M (C #[I V 2,I V n,I V m,I V kk,.string S] 39 (0,0)):=by
  rw[dU];refine((aU _ _).block _ (by simp)).trans ?_;have:=heap_alloc_new (w.alloc (C #[.string (aR g.1),Z uo un uc,Z ro rn rc,I V g.2.2.2] 36)) (C #[I V 2,I V n,I V m,I V kk,.string S] 39);rwa[World.size_alloc]at this
 have fP:w1.heap[w.heap.size+1+1]?=M (C #[.string ⟨#[]⟩,Z O 0 0,Z O 0 0,I V 0] 36 (0,0)):=by
  rw[dU];have:=heap_alloc_new ((w.alloc (C #[.string (aR g.1),Z uo un uc,Z ro rn rc,I V g.2.2.2] 36)).alloc (C #[I V 2,I V n,I V m,I V kk,.string S] 39)) (C #[.string ⟨#[]⟩,Z O 0 0,Z O 0 0,I V 0] 36);rwa[World.size_alloc,World.size_alloc]at this
 have G1:aJ w w1:=by rw[dU];exact(((aJ.refl w).alloc _).alloc _).alloc _
 obtain⟨c0,c1,c2,c3⟩:=aZ kT;obtain⟨a0,a1,a2,a3,a4⟩:=kP bX;have Ce:=fun W=>tH (w:=W) pQ oW (show(0:Int)<=((aR g.1).size:Int) by omega) (by rw[gQ];omega)
 have Co:Hid (Gl w ps):=h0;have Rz:Hid (∀b,X b->lD w1 b):=fun b hb=>(hT b hb).aM G1
 have HM:Hid (eU w1 (.agg #[.string (aR g.1),Z uo un uc,Z ro rn rc,I V g.2.2.2]) g d):=hm.aM G1;have qQ:Hid (aJ w w1):=G1;have Gd:Hid (w1.heap[w.heap.size]?=M (C #[.string (aR g.1),Z uo un uc,Z ro rn rc,I V g.2.2.2] 36 (0,0))):=kT;have DK:Hid (w1.heap[w.heap.size+1]?=M (C #[I V 2,I V n,I V m,I V kk,.string S] 39 (0,0))):=bX;have Mq:Hid (w1.heap[w.heap.size+1+1]?=M (C #[.string ⟨#[]⟩,Z O 0 0,Z O 0 0,I V 0] 36 (0,0))):=fP;have HI:Hid (∀r,H K 44 #[U (M ⟨qp,0,O⟩),I V r,I V m] w1 fun e w'=>e=G (I V (E r))/\Ya w1 w' (P r) X):=hU w1 G1;have yO:Hid (∀r,VK ps (P r)):=hF;clear hF h0 hT hU hm h1 h2 kT bX fP G1;go_enter Tryz.func23,Tryz.ntmps23
 go_upto_region 1 with fail
 rw[<-dU];clear dU
 go_upto_region 15 with(first|(go_at_call 41;refine(Ce _).mono ?_;rintro e w2 ⟨r,rfl,r1,r2,rfl⟩)|(go_at_call 44;refine(HI.out _).mono ?_;rintro e w3 ⟨rfl,Pq⟩))
 obtain⟨X',P_,Mw⟩:=Pq;have Ct:=Mw.1.at Gd.out (fun e=>(Rz.out _ e).ne Gd.out (by decide) rfl);have Lr:=Mw.1.at Mq.out (fun e=>(Rz.out _ e).ne Mq.out (by decide) rfl);have UE:=Mw.1.at DK.out (fun e=>(Rz.out _ e).ne DK.out (by decide) rfl);obtain⟨d0,d1,d2,d3⟩:=aZ Ct;obtain⟨-,-,a2',-,-⟩:=kP UE;have yX:Hid (eU w3 (.agg #[.string (aR g.1),Z uo un uc,Z ro rn rc,I V g.2.2.2]) g d):=HM.out.q Mw.1 Rz.out;have Bl:Hid (Ya w w3 (P r) X):=Oj qQ.out ⟨X',P_,Mw⟩;have jD:Hid (w3.heap[w.heap.size+1+1]?=M (C #[.string ⟨#[]⟩,Z O 0 0,Z O 0 0,I V 0] 36 (0,0))):=Lr;have ZB:Hid (∀pos,dL g 2 pos m S d=(vB g pos m d).1):=fun pos=>by unfold dL;rw[if_neg (by decide),if_pos rfl]
 have rG:(g.1.length:Int)<=5000:=b1;clear P_ Mw Ct Lr UE Rz HM qQ Gd DK Mq HI c0 c1 c2 c3 a0 a1 a2 a3 a4 gQ b1;by_cases k1:r<0\/(g.1.length:Int)<r\/m<1\/(g.1.length:Int)-r<m
 ·have hq:vB g r m d=(g,5):=by unfold vB;rw[if_pos k1]
  have Lx:Hid (dL g 2 r m S d=g):=by show _=_;rw[ZB.out,hq]
  have Ma:Hid (eT g 2 r m S d=5):=by show _=_;unfold eT;rw[if_neg (by decide),if_pos rfl,hq]
  clear hq ZB;by_cases k2:r<0
  ·clear k1
   go_upto_region 16 with fail
   refine fZ jD.out ?_;intro z0 z1 z2 z3 zf;have hne:w.heap.size≠w.heap.size+1+1:=by omega
   have e0:w3.drew.cell? ⟨w.heap.size,0,O⟩=M (.string (aR g.1)):=d0;have e1:w3.drew.cell? ⟨w.heap.size,1,O⟩=M (Z uo un uc):=d1;have e2:w3.drew.cell? ⟨w.heap.size,2,O⟩=M (Z ro rn rc):=d2;have e3:w3.drew.cell? ⟨w.heap.size,3,O⟩=M (I V g.2.2.2):=d3
   go_region_held3 (fun w'=>w'.cell? ⟨w.heap.size,0,O⟩=M (.string (aR g.1))/\w'.cell? ⟨w.heap.size,1,O⟩=M (Z uo un uc)/\w'.cell? ⟨w.heap.size,2,O⟩=M (Z ro rn rc)/\w'.cell? ⟨w.heap.size,3,O⟩=M (I V g.2.2.2))
    (first|(with_reducible exact⟨e0,e1,e2,e3⟩)|(exact⟨gD d0 hne _ _ _ _,gD d1 hne _ _ _ _,gD d2 hne _ _ _ _,gD d3 hne _ _ _ _⟩)) (fail)
   have qK:=iP jD.out (.string (aR g.1)) (Z uo un uc) (Z ro rn rc) (I V g.2.2.2);have vW:=yX.out.sN jD.out (.string (aR g.1)) (Z uo un uc) (Z ro rn rc) (I V g.2.2.2);have sM:=gW (yO.out r) Co.out Bl.out (by omega) jD.out (.string (aR g.1)) (Z uo un uc) (Z ro rn rc) (I V g.2.2.2);clear z0 z1 z2 z3 zf e0 e1 e2 e3 d0 d1 d2 d3 jD yX Bl;generalize ((((w3.setCell ⟨w.heap.size+1+1,0,O⟩ (.string (aR g.1))).setCell ⟨w.heap.size+1+1,1,O⟩ (Z uo un uc)).setCell ⟨w.heap.size+1+1,2,O⟩ (Z ro rn rc)).setCell ⟨w.heap.size+1+1,3,O⟩ (I V g.2.2.2))=w6 at*;have Sb:=vW.aM (aJ.drew (aJ.refl w6));have Mk:=gM (yO.out r) sM (aJ.drew (aJ.refl w6));obtain⟨q0,q1,q2,q3⟩:=aZ (show w6.drew.heap[w.heap.size+1+1]?=_ from qK);clear vW sM qK;generalize w6.drew=w7 at*
   go_wp2_with fail
   refine bodyPost_ret (v:= .tuple #[I V (E r),I V 5,.agg #[.string (aR g.1),Z uo un uc,Z ro rn rc,I V g.2.2.2]]) (by simp[results,Tryz.results23,go_sem,q0,q1,q2,q3]) rfl ?_;exact⟨r,_,by rw[Ma.out],Mk,by rw[Lx.out];exact Sb⟩
  ·by_cases k3:(g.1.length:Int)<r
   ·clear k1
    go_upto_region 16 with fail
    refine fZ jD.out ?_;intro z0 z1 z2 z3 zf;have hne:w.heap.size≠w.heap.size+1+1:=by omega
    have e0:w3.drew.cell? ⟨w.heap.size,0,O⟩=M (.string (aR g.1)):=d0;have e1:w3.drew.cell? ⟨w.heap.size,1,O⟩=M (Z uo un uc):=d1;have e2:w3.drew.cell? ⟨w.heap.size,2,O⟩=M (Z ro rn rc):=d2;have e3:w3.drew.cell? ⟨w.heap.size,3,O⟩=M (I V g.2.2.2):=d3
    go_region_held3 (fun w'=>w'.cell? ⟨w.heap.size,0,O⟩=M (.string (aR g.1))/\w'.cell? ⟨w.heap.size,1,O⟩=M (Z uo un uc)/\w'.cell? ⟨w.heap.size,2,O⟩=M (Z ro rn rc)/\w'.cell? ⟨w.heap.size,3,O⟩=M (I V g.2.2.2))
     (first|(with_reducible exact⟨e0,e1,e2,e3⟩)|(exact⟨gD d0 hne _ _ _ _,gD d1 hne _ _ _ _,gD d2 hne _ _ _ _,gD d3 hne _ _ _ _⟩)) (fail)
    have qK:=iP jD.out (.string (aR g.1)) (Z uo un uc) (Z ro rn rc) (I V g.2.2.2);have vW:=yX.out.sN jD.out (.string (aR g.1)) (Z uo un uc) (Z ro rn rc) (I V g.2.2.2);have sM:=gW (yO.out r) Co.out Bl.out (by omega) jD.out (.string (aR g.1)) (Z uo un uc) (Z ro rn rc) (I V g.2.2.2);clear z0 z1 z2 z3 zf e0 e1 e2 e3 d0 d1 d2 d3 jD yX Bl;generalize ((((w3.setCell ⟨w.heap.size+1+1,0,O⟩ (.string (aR g.1))).setCell ⟨w.heap.size+1+1,1,O⟩ (Z uo un uc)).setCell ⟨w.heap.size+1+1,2,O⟩ (Z ro rn rc)).setCell ⟨w.heap.size+1+1,3,O⟩ (I V g.2.2.2))=w6 at*;have Sb:=vW.aM (aJ.drew (aJ.refl w6));have Mk:=gM (yO.out r) sM (aJ.drew (aJ.refl w6));obtain⟨q0,q1,q2,q3⟩:=aZ (show w6.drew.heap[w.heap.size+1+1]?=_ from qK);clear vW sM qK;generalize w6.drew=w7 at*
    go_wp2_with fail
    refine bodyPost_ret (v:= .tuple #[I V (E r),I V 5,.agg #[.string (aR g.1),Z uo un uc,Z ro rn rc,I V g.2.2.2]]) (by simp[results,Tryz.results23,go_sem,q0,q1,q2,q3]) rfl ?_;exact⟨r,_,by rw[Ma.out],Mk,by rw[Lx.out];exact Sb⟩
   ·by_cases k4:m<1
    ·clear k1
     go_upto_region 16 with fail
     refine fZ jD.out ?_;intro z0 z1 z2 z3 zf;have hne:w.heap.size≠w.heap.size+1+1:=by omega
     have e0:w3.drew.cell? ⟨w.heap.size,0,O⟩=M (.string (aR g.1)):=d0;have e1:w3.drew.cell? ⟨w.heap.size,1,O⟩=M (Z uo un uc):=d1;have e2:w3.drew.cell? ⟨w.heap.size,2,O⟩=M (Z ro rn rc):=d2;have e3:w3.drew.cell? ⟨w.heap.size,3,O⟩=M (I V g.2.2.2):=d3
     go_region_held3 (fun w'=>w'.cell? ⟨w.heap.size,0,O⟩=M (.string (aR g.1))/\w'.cell? ⟨w.heap.size,1,O⟩=M (Z uo un uc)/\w'.cell? ⟨w.heap.size,2,O⟩=M (Z ro rn rc)/\w'.cell? ⟨w.heap.size,3,O⟩=M (I V g.2.2.2))
      (first|(with_reducible exact⟨e0,e1,e2,e3⟩)|(exact⟨gD d0 hne _ _ _ _,gD d1 hne _ _ _ _,gD d2 hne _ _ _ _,gD d3 hne _ _ _ _⟩)) (fail)
     have qK:=iP jD.out (.string (aR g.1)) (Z uo un uc) (Z ro rn rc) (I V g.2.2.2);have vW:=yX.out.sN jD.out (.string (aR g.1)) (Z uo un uc) (Z ro rn rc) (I V g.2.2.2);have sM:=gW (yO.out r) Co.out Bl.out (by omega) jD.out (.string (aR g.1)) (Z uo un uc) (Z ro rn rc) (I V g.2.2.2);clear z0 z1 z2 z3 zf e0 e1 e2 e3 d0 d1 d2 d3 jD yX Bl;generalize ((((w3.setCell ⟨w.heap.size+1+1,0,O⟩ (.string (aR g.1))).setCell ⟨w.heap.size+1+1,1,O⟩ (Z uo un uc)).setCell ⟨w.heap.size+1+1,2,O⟩ (Z ro rn rc)).setCell ⟨w.heap.size+1+1,3,O⟩ (I V g.2.2.2))=w6 at*;have Sb:=vW.aM (aJ.drew (aJ.refl w6));have Mk:=gM (yO.out r) sM (aJ.drew (aJ.refl w6));obtain⟨q0,q1,q2,q3⟩:=aZ (show w6.drew.heap[w.heap.size+1+1]?=_ from qK);clear vW sM qK;generalize w6.drew=w7 at*
     go_wp2_with fail
     refine bodyPost_ret (v:= .tuple #[I V (E r),I V 5,.agg #[.string (aR g.1),Z uo un uc,Z ro rn rc,I V g.2.2.2]]) (by simp[results,Tryz.results23,go_sem,q0,q1,q2,q3]) rfl ?_;exact⟨r,_,by rw[Ma.out],Mk,by rw[Lx.out];exact Sb⟩
    ·have k5:(g.1.length:Int)-r<m:=by omega
     clear k1
     go_upto_region 16 with fail
     refine fZ jD.out ?_;intro z0 z1 z2 z3 zf;have hne:w.heap.size≠w.heap.size+1+1:=by omega
     have e0:w3.drew.cell? ⟨w.heap.size,0,O⟩=M (.string (aR g.1)):=d0;have e1:w3.drew.cell? ⟨w.heap.size,1,O⟩=M (Z uo un uc):=d1;have e2:w3.drew.cell? ⟨w.heap.size,2,O⟩=M (Z ro rn rc):=d2;have e3:w3.drew.cell? ⟨w.heap.size,3,O⟩=M (I V g.2.2.2):=d3
     go_region_held3 (fun w'=>w'.cell? ⟨w.heap.size,0,O⟩=M (.string (aR g.1))/\w'.cell? ⟨w.heap.size,1,O⟩=M (Z uo un uc)/\w'.cell? ⟨w.heap.size,2,O⟩=M (Z ro rn rc)/\w'.cell? ⟨w.heap.size,3,O⟩=M (I V g.2.2.2))
      (first|(with_reducible exact⟨e0,e1,e2,e3⟩)|(exact⟨gD d0 hne _ _ _ _,gD d1 hne _ _ _ _,gD d2 hne _ _ _ _,gD d3 hne _ _ _ _⟩)) (fail)
     have qK:=iP jD.out (.string (aR g.1)) (Z uo un uc) (Z ro rn rc) (I V g.2.2.2);have vW:=yX.out.sN jD.out (.string (aR g.1)) (Z uo un uc) (Z ro rn rc) (I V g.2.2.2);have sM:=gW (yO.out r) Co.out Bl.out (by omega) jD.out (.string (aR g.1)) (Z uo un uc) (Z ro rn rc) (I V g.2.2.2);clear z0 z1 z2 z3 zf e0 e1 e2 e3 d0 d1 d2 d3 jD yX Bl;generalize ((((w3.setCell ⟨w.heap.size+1+1,0,O⟩ (.string (aR g.1))).setCell ⟨w.heap.size+1+1,1,O⟩ (Z uo un uc)).setCell ⟨w.heap.size+1+1,2,O⟩ (Z ro rn rc)).setCell ⟨w.heap.size+1+1,3,O⟩ (I V g.2.2.2))=w6 at*;have Sb:=vW.aM (aJ.drew (aJ.refl w6));have Mk:=gM (yO.out r) sM (aJ.drew (aJ.refl w6));obtain⟨q0,q1,q2,q3⟩:=aZ (show w6.drew.heap[w.heap.size+1+1]?=_ from qK);clear vW sM qK;generalize w6.drew=w7 at*
     go_wp2_with fail
     refine bodyPost_ret (v:= .tuple #[I V (E r),I V 5,.agg #[.string (aR g.1),Z uo un uc,Z ro rn rc,I V g.2.2.2]]) (by simp[results,Tryz.results23,go_sem,q0,q1,q2,q3]) rfl ?_;exact⟨r,_,by rw[Ma.out],Mk,by rw[Lx.out];exact Sb⟩
 ·have k2:¬r<0:=by omega
  have k3:¬(g.1.length:Int)<r:=by omega
  have k4:¬m<1:=by omega
  have k5:¬(g.1.length:Int)-r<m:=by omega
  have i1:0<=r:=by omega
  have gQ:=iX g.1;have i2:r<=((aR g.1).size:Int):=by omega
  have i3:0<=r+m:=by omega
  have i4:r+m<=((aR g.1).size:Int):=by omega
  have ru:IntKind.i64.wrap (r+m)=r+m:=by rw[IntKind.wrap_i64];omega
  have x1:((aR g.1).extract 0 r.toNat).size=r.toNat:=by rw[ByteArray.size_extract];omega
  have x2:((aR g.1).extract (r+m).toNat (aR g.1).size).size<=5000:=by rw[ByteArray.size_extract];omega
  have Q_:∀w,(Op.stringOp .add ((aR g.1).extract 0 r.toNat) ((aR g.1).extract (r+m).toNat (aR g.1).size)).run K w= .ok (.string ((aR g.1).extract 0 r.toNat++(aR g.1).extract (r+m).toNat (aR g.1).size)) w:=fun w=>run_string_add_sum w _ _ (by omega)
  have hq:vB g r m d=(Kc g (g.1.take r.toNat++g.1.drop (r+m).toNat) d,0):=by unfold vB;rw[if_neg k1]
  have Lx:Hid (dL g 2 r m S d=Kc g (g.1.take r.toNat++g.1.drop (r+m).toNat) d):=by show _=_;rw[ZB.out,hq]
  have Ma:Hid (eT g 2 r m S d=0):=by show _=_;unfold eT;rw[if_neg (by decide),if_pos rfl,hq]
  have hX:(aR g.1).extract 0 r.toNat++(aR g.1).extract (r+m).toNat (aR g.1).size=aR (g.1.take r.toNat++g.1.drop (r+m).toNat):=by
   refine pW ?_;rw[eY,iC,iC,gQ];simp only[aR,List.drop_zero,Nat.sub_zero];rw[List.take_of_length_le (l:=g.1.drop (r+m).toNat) (by rw[List.length_drop];omega)]
  have HUn:Hid (∀W,aJ w3 W->H K 43 #[.agg #[.string (aR g.1),Z uo un uc,Z ro rn rc,I V g.2.2.2],.string ((aR g.1).extract 0 r.toNat++(aR g.1).extract (r+m).toNat (aR g.1).size),I V (d:Int)] W fun e w'=> ∃t1 a1 a2 a3 b1 b2 b3 dn,e=G (.agg #[.string t1,Z a1 a2 a3,Z b1 b2 b3,I V dn])/\eU w' (.agg #[.string t1,Z a1 a2 a3,Z b1 b2 b3,I V dn]) (Kc g (g.1.take r.toNat++g.1.drop (r+m).toNat) d) d/\aJ W w'):=fun W hW=>by
   rw[hX];refine(Lv (yX.out.aM hW) hd (by omega)).mono ?_;rintro e w' ⟨v',rfl,k1,k2⟩;obtain⟨su,sr,rfl,s1,s2⟩:=k1.form;obtain⟨x1,x2,x3,rfl⟩:=s1.form;obtain⟨y1,y2,y3,rfl⟩:=s2.form;exact⟨_,_,_,_,_,_,_,_,rfl,k1,k2⟩
  clear hq ZB k1 hX yX
  go_upto_region 17 with fail
  have e0:w3.drew.cell? ⟨w.heap.size,0,O⟩=M (.string (aR g.1)):=d0;have e1:w3.drew.cell? ⟨w.heap.size,1,O⟩=M (Z uo un uc):=d1;have e2:w3.drew.cell? ⟨w.heap.size,2,O⟩=M (Z ro rn rc):=d2;have e3:w3.drew.cell? ⟨w.heap.size,3,O⟩=M (I V g.2.2.2):=d3;have e4:w3.drew.cell? ⟨w.heap.size+1,2,O⟩=M (I V m):=a2';have hne:w.heap.size≠w.heap.size+1+1:=by omega
  have fw:w.heap.size+1≠w.heap.size+1+1:=by omega
  have XW:Hid (∀W,aJ w3.drew W->W.heap[w.heap.size+1+1]?=M (C #[.string ⟨#[]⟩,Z O 0 0,Z O 0 0,I V 0] 36 (0,0))):=fun W hW=>(hW.block _ (aK jD.out)).trans jD.out
  clear gQ x1 x2 k2 k3 k4 k5
  go_region_held3 (fun w'=>w'.cell? ⟨w.heap.size,0,O⟩=M (.string (aR g.1))/\w'.cell? ⟨w.heap.size,1,O⟩=M (Z uo un uc)/\w'.cell? ⟨w.heap.size,2,O⟩=M (Z ro rn rc)/\w'.cell? ⟨w.heap.size,3,O⟩=M (I V g.2.2.2)/\w'.cell? ⟨w.heap.size+1,2,O⟩=M (I V m))
   (first|(with_reducible exact⟨e0,e1,e2,e3,e4⟩)|(with_reducible exact⟨y0,y1,y2,y3,y4⟩)|(exact⟨gD y0 hne _ _ _ _,gD y1 hne _ _ _ _,gD y2 hne _ _ _ _,gD y3 hne _ _ _ _,gD y4 fw _ _ _ _⟩))
   (first|(go_at_call 43;refine(HUn.out _ (aJ.drew (aJ.refl _))).mono ?_;rintro e w5 ⟨t1,x1,x2,x3,q1,q2,q3,dn,rfl,Ux,dK⟩;have y0:=dK.cell e0;have y1:=dK.cell e1;have y2:=dK.cell e2;have y3:=dK.cell e3;have y4:=dK.cell e4;refine fZ (XW.out _ dK) ?_;intro z0 z1 z2 z3 zf))
  have hb5':=XW.out _ dK;have qK:=iP hb5' (.string t1) (Z x1 x2 x3) (Z q1 q2 q3) (I V dn);have vW:=Ux.sN hb5' (.string t1) (Z x1 x2 x3) (Z q1 q2 q3) (I V dn);have sM:=gW (yO.out r) Co.out (gM (yO.out r) (gM (yO.out r) Bl.out (aJ.drew (aJ.refl _))) dK) (by omega) hb5' (.string t1) (Z x1 x2 x3) (Z q1 q2 q3) (I V dn);obtain⟨u0,u1,u2,u3⟩:=aZ qK;clear z0 z1 z2 z3 zf y0 y1 y2 y3 y4 e0 e1 e2 e3 e4 d0 d1 d2 d3 a2' hb5' dK Ux jD Bl XW HUn Q_ ru qK;generalize ((((w5.setCell ⟨w.heap.size+1+1,0,O⟩ (.string t1)).setCell ⟨w.heap.size+1+1,1,O⟩ (Z x1 x2 x3)).setCell ⟨w.heap.size+1+1,2,O⟩ (Z q1 q2 q3)).setCell ⟨w.heap.size+1+1,3,O⟩ (I V dn))=w6 at*
  go_wp2_with fail
  refine bodyPost_ret (v:= .tuple #[I V (E r),I V 0,.agg #[.string t1,Z x1 x2 x3,Z q1 q2 q3,I V dn]]) (by simp[results,Tryz.results23,go_sem,u0,u1,u2,u3]) rfl ?_;exact⟨r,_,by rw[Ma.out],sM,by rw[Lx.out];exact vW⟩
def Mc (w w':F)(ps:Nat->Addr)(qp d:Nat)(X:Nat->Prop)(k:Nat)(e:Ending)(g:Gm)(kind m:Int)(S:ByteArray):Prop:=
 ∃pos c v',e=G (.tuple #[I V c,I V c,v'])/\BM w w' ps qp d X (dL g kind pos m S d) (k+1)/\eU w' v' (dL g kind pos m S d) d
theorem rO.off {w':F}{R:Nat}{aT:Array Y}{f:Nat×Nat}(h:rO w ps qp d g k X)(hF:Fr w w' (fun b=>b=R))(hR:w.heap[R]?=M (C aT 36 f))(hp:∀k,k<5->(ps k).block≠R):rO w' ps qp d g k X:=by
 obtain⟨h1,s,fs,m,t,h2,h3⟩:=h;refine⟨h1.off hF hR hp,s,fs,m,t,h2.fr2 hF ?_ ?_,h3⟩
 ·rintro b rfl;exact KQ.of hR (by decide) (by decide) (by decide) (by decide)
 ·rintro b hb rfl;exact(h2.ty hb).ne hR (by decide) rfl
theorem KT {W:F}{R:Nat}{x y z u:Y}(hG:Gl w ps)(h:BM w W ps qp d X g k)(hR:w.heap.size<=R)(hb:W.heap[R]?=M (C #[x,y,z,u] 36 (0,0)))(a b c e:Y):BM w ((((W.setCell ⟨R,0,O⟩ a).setCell ⟨R,1,O⟩ b).setCell ⟨R,2,O⟩ c).setCell ⟨R,3,O⟩ e) ps qp d X g k:=by
 obtain⟨X',h1,h2⟩:=h;have hF:=fr4 W R a b c e;refine⟨X',h1.off hF hb (fun k hk e=>by have:=hG.lt k hk;omega),⟨RI h2.1 hF hR,⟨h2.2.1.1,h2.2.1.2.1,h2.2.1.2.2⟩,h2.2.2⟩⟩
theorem KU {w1 W:F}(h:BM w w1 ps qp d X g k)(hg:aJ w1 W):BM w W ps qp d X g k:=by
 obtain⟨X',h1,h2⟩:=h;exact⟨X',h1.aM hg,h2.aM hg⟩
theorem Ia:VK ps (fun w X=>rO w ps qp d g k X):=⟨fun h hg=>h.aM hg,fun h a b c=>h.off a b c⟩
theorem ZC (h:rO w ps qp d g k X)(hm:eU w v g d)(hk:k<=400)(hd:d<=50)(pQ: -9223372036854775808<=n)(oW:n<=9223372036854775807):
 H K 23 #[U (M ⟨qp,0,O⟩),v,.agg #[I V 3,I V n,I V m,I V kk,.string S],I V (d:Int)] w fun e w'=>Mc w w' ps qp d X k e g 3 m S:=by
 obtain⟨b1,b2,b3,-,-⟩:=h.gm;refine(Yc (P:=fun r w' X'=>rO w' ps qp d (nC g d).1 (k+1) X') (E:=fun r=>(nC g d).2) h.1 (fun b hb=>h.ty hb) (fun _=>Ia) (fun W hW=>s_undo (h.aM hW) hk) hm b1 (by omega) hd pQ oW).mono ?_;rintro e w' ⟨r,v',rfl,h1,h2⟩;have e1:dL g 3 r m S d=(nC g d).1:=by simp[dL]
 have e2:eT g 3 r m S d=(nC g d).2:=by simp[eT]
 exact⟨r,_,v',by rw[e2],by rw[e1];exact h1,h2⟩
theorem ZE (h:rO w ps qp d g k X)(hm:eU w v g d)(hk:k<=400)(hd:d<=50)(pQ: -9223372036854775808<=n)(oW:n<=9223372036854775807):
 H K 23 #[U (M ⟨qp,0,O⟩),v,.agg #[I V 4,I V n,I V m,I V kk,.string S],I V (d:Int)] w fun e w'=>Mc w w' ps qp d X k e g 4 m S:=by
 obtain⟨b1,b2,b3,-,-⟩:=h.gm;refine(Yd (P:=fun r w' X'=>rO w' ps qp d (nD g d).1 (k+1) X') (E:=fun r=>(nD g d).2) h.1 (fun b hb=>h.ty hb) (fun _=>Ia) (fun W hW=>s_redo (h.aM hW) hk) hm b1 (by omega) hd pQ oW).mono ?_;rintro e w' ⟨r,v',rfl,h1,h2⟩;have e1:dL g 4 r m S d=(nD g d).1:=by simp[dL]
 have e2:eT g 4 r m S d=(nD g d).2:=by simp[eT]
 exact⟨r,_,v',by rw[e2],by rw[e1];exact h1,h2⟩
theorem R_ (h:rO w ps qp d g k X)(hm:eU w v g d)(hk:k<=400)(hd:d<=50)(pQ: -9223372036854775808<=n)(oW:n<=9223372036854775807)(hs:S.size<=140737488355328):
 H K 23 #[U (M ⟨qp,0,O⟩),v,.agg #[I V 1,I V n,I V m,I V kk,.string S],I V (d:Int)] w fun e w'=>Mc w w' ps qp d X k e g 1 m S:=by
 obtain⟨b1,b2,b3,-,-⟩:=h.gm;refine(KR (P:=fun r w' X'=>rO w' ps qp d (qZ g r S d).1 (k+1) X') (E:=fun r=>(qZ g r S d).2) h.1 (fun b hb=>h.ty hb) (fun _=>Ia) (fun W hW r=>K_ (h.aM hW) hk hs) hm b1 (by omega) hd pQ oW hs).mono ?_;rintro e w' ⟨r,v',rfl,h1,h2⟩;have e1:dL g 1 r m S d=(qZ g r S d).1:=by simp[dL]
 have e2:eT g 1 r m S d=(qZ g r S d).2:=by simp[eT]
 exact⟨r,_,v',by rw[e2],by rw[e1];exact h1,h2⟩
theorem S_ (h:rO w ps qp d g k X)(hm:eU w v g d)(hk:k<=400)(hd:d<=50)(pQ: -9223372036854775808<=n)(oW:n<=9223372036854775807)(BP: -9223372036854775808<=m)(hm2:m<=9223372036854775807):
 H K 23 #[U (M ⟨qp,0,O⟩),v,.agg #[I V 2,I V n,I V m,I V kk,.string S],I V (d:Int)] w fun e w'=>Mc w w' ps qp d X k e g 2 m S:=by
 obtain⟨b1,b2,b3,-,-⟩:=h.gm;refine(KS (P:=fun r w' X'=>rO w' ps qp d (vB g r m d).1 (k+1) X') (E:=fun r=>(vB g r m d).2) h.1 (fun b hb=>h.ty hb) (fun _=>Ia) (fun W hW r=>L_ (h.aM hW) hk hm2) hm b1 (by omega) hd pQ oW BP hm2).mono ?_;rintro e w' ⟨r,v',rfl,h1,h2⟩;have e1:dL g 2 r m S d=(vB g r m d).1:=by simp[dL]
 have e2:eT g 2 r m S d=(vB g r m d).2:=by simp[eT]
 exact⟨r,_,v',by rw[e2],by rw[e1];exact h1,h2⟩
theorem ZF {q:Int}(h:rO w ps qp d g k X)(hm:eU w v g d)(pQ: -9223372036854775808<=n)(oW:n<=9223372036854775807)(Xd:¬q=1)(xA:¬q=2)(hq3:¬q=3)(YB:¬q=4):
 H K 23 #[U (M ⟨qp,0,O⟩),v,.agg #[I V q,I V n,I V m,I V kk,.string S],I V (d:Int)] w fun e w'=>Mc w w' ps qp d X k e g q m S:=by
 obtain⟨b1,b2,b3,-,-⟩:=h.gm;refine(Ye (P:=fun r w' X'=>rO w' ps qp d g (k+1) X') (E:=fun _=>0) h.1 (fun b hb=>h.ty hb) (fun _=>Ia) (h.more (by omega)) rfl hm b1 pQ oW Xd xA hq3 YB).mono ?_;rintro e w' ⟨r,v',rfl,h1,h2⟩;have e1:dL g q r m S d=g:=by simp[dL,Xd,xA,hq3,YB]
 have e2:eT g q r m S d=0:=by simp[eT,Xd,xA,hq3,YB]
 exact⟨r,_,v',by rw[e2],by rw[e1];exact h1,h2⟩
def ClAt (w:F)(ps:Nat->Addr)(qp d:Nat)(g:Gm)(k:Nat)(X:Nat->Prop):Prop:=Gl w ps/\∃s fs m t,pF w qp { s with aS:=false } fs m X/\nG (aY s,fs,m) g k t/\s.depth=(d:Int)/\Hy s k
theorem Ol (h:rO w ps qp d g k X):
 H K 32 #[U (M ⟨qp,0,O⟩)] w fun e w'=>e=G (I V 0)/\∃X',ClAt w' ps qp d g k X'/\Dk w w' X X':=by
 obtain⟨hG,s,fs,m,t,hQ,hS,hd⟩:=h;have xY:s.aS=true:=hS.snd.op;have e:jW s=({ s with aS:=false },0):=by unfold jW;rw[if_pos xY]
 refine(BJ hQ).mono ?_;rintro e' w' ⟨rfl,X',h1,h2⟩;rw[e]at h1 ⊢;exact⟨rfl,X',⟨hG.q h2.1 (fun b hb=>hQ.ty hb),s,fs,m,t,h1,hS,hd⟩,h2⟩
theorem Md {s:Sc}{fs:List bF}{m:bT}{t:Tm}(h:En (aY s,fs,m) t k):jM ({ s with aS:=false },fs,m)=((s,fs,m),0):=by
 have xY:s.aS=true:=h.op;have hro:s.ro=false:=h.ro;have Xo:=h.gs.wU h.op h.ro;have:=Rv (s:= { s with aS:=false }) (fs:=fs) (m:=m) (m':=m) rfl h.rd h.gs.bk.inv h.QX Xo;rw[this];obtain⟨q1,q2,q3,q4,q5,q6,q7,q8,q9,q10,q11,q12⟩:=s;simp only at xY hro;rw[xY,hro]
theorem BQ (h:ClAt w ps qp d g k X):
 H K 24 #[U (M ⟨qp,0,O⟩)] w fun e w'=>e=G (I V 0)/\BM w w' ps qp d X g k:=by
 obtain⟨hG,s,fs,m,t,hQ,hS,hd⟩:=h;have xY:s.aS=true:=hS.snd.op;have e:jW s=({ s with aS:=false },0):=by unfold jW;rw[if_pos xY]
 have hr:=Md hS.snd;have MW:=JS (jK hS.snd.gs hd.2.bK hd.2.qC);simp only at MW;rw[e]at MW;refine(KL hQ hG MW).mono ?_;rintro e' w' ⟨rfl,hq⟩;rw[hr]at hq ⊢;exact⟨rfl,Oi hG hQ hq ⟨t,hS⟩ hd.1 hd.2⟩
theorem KV (d:Nat):jE (aL [] 2) ((aL [] 1).size:Int) d=M (0,([],[],[],0,0)):=QI _ _ rfl
theorem Yf (d:Nat):Rds [] d 0 jF:=⟨jF,[],KV d,rfl,by simp,rfl⟩
theorem RJ (d:Nat):dM jF d:=⟨Int.le_refl _,by decide,oJ _,by decide,by decide,(fun e he=>by simp[jF]at he),(fun e he=>by simp[jF]at he),Nat.zero_le _,Nat.zero_le _,rfl,rfl,Int.le_refl _⟩
theorem Bn:dY 1000000 []:=⟨⟨List.Pairwise.nil,(fun f hf=>by simp at hf)⟩,(fun f hf=>by simp at hf),(fun f hf=>by simp at hf),by decide⟩
theorem KW (d:Nat):jM (iF 5000 (d:Int) 1000000,[],jF)=(({ iF 5000 (d:Int) 1000000 with aS:=true,ro:=false },[],jF),0):=
 Rv (s:=iF 5000 (d:Int) 1000000) rfl (by simpa[iF]using Yf d) Bn (fun f hf=>by simp at hf) rfl
theorem rA (hd:d<=50)(o:Bool):fU { iF 5000 (d:Int) 1000000 with aS:=o,ro:=false }:=by
 constructor<;>simp[iF]<;>omega
theorem ZG (hd:d<=50):nG ({ iF 5000 (d:Int) 1000000 with aS:=true,ro:=false },[],jF) ([],[],[],0) 0 ([],[],[],0):=by
 refine⟨⟨⟨⟨rA hd true,Int.le_refl _,Bn,Nat.zero_le _⟩,fun _=>RJ _,fun _=>Int.le_refl _,(fun _ f hf=>by simp at hf),fun _=>Int.le_refl _,fun _ _=>rfl⟩,rfl,rfl,rfl,rfl,rfl,rfl,⟨rfl,rfl,rfl,trivial,trivial,rfl⟩,⟨[],Nat.zero_le _,⟨wP _,(fun e he=>by simp[jF]at he),List.nodup_nil,(fun g hg=>by simp at hg),(fun g hg=>by simp at hg)⟩⟩,?_,(fun f hf=>by simp at hf),Nat.zero_le _,Nat.zero_le _,Nat.zero_le _,Int.le_refl _⟩,rfl⟩;simpa[iF]using Yf d
structure Uy (d:Nat)(ep:Int)(ck:ByteArray)(B:List UInt8)(rs:List (List UInt8))(ms:Nat->bT)(ts:Nat->Tm)(gs:Nat->Gm)(k:Nat):Prop where
 chk:jE ck (B.length:Int) d=M (ep,ms 0)
 r22:∀r∈rs,r.length=22
 stp:∀j,j<rs.length->nI (ms j) (rs.getD j []) (B.length:Int) d=M (ms (j+1))
 bK:∀j,j<=rs.length->dM (ms j) d
 yV:∀j,j<=rs.length->Yw (ms j) (ts j)
 cnt:∀j,j<=rs.length->∃X:List Int,X.length<=3*k+1/\QK (ms j) (ts j) X
 tell:∀j,j<=rs.length->rM B (ts j)=gs j
 top:(ms rs.length).2.2.2.2=(B.length:Int)
 bB:B.length<=200*k
 bck:ck.size<=301000
 bep:ep<=(k:Int)
 bdn:(ms rs.length).2.2.2.1<=(k:Int)
 brs:rs.length<=k
theorem ok_next {m m':bT}{l:List UInt8}{buf:Int}(hg:dM m d)(h:nI m l buf d=M m'):m.2.2.2.2<=m'.2.2.2.2/\m'.2.2.2.1=m.2.2.2.1+1/\(m.2.2.2.2<=buf->m'.2.2.2.2<=buf)/\∀b,m'.2.2.2.2<=b->nI m l b d=M m':=by
 obtain⟨-,kind,a,b,c,ho,hz,e,hall⟩:=Qx h;obtain⟨q1,q2⟩:=Hf hz
 have Wj:(kind=73/\b=m.2.2.2.2/\b+c<=buf/\1<=c)\/kind≠73:=by
  by_cases hk:kind=73
  ·subst hk;unfold pI at ho;simp at ho;refine Or.inl ⟨rfl,ho.1,ho.2,?_⟩;have:=(JY hz hg (fun _=>ho.1) (fun q=>by omega) (fun q=>absurd rfl q)).2.2.2 rfl;exact this.1
  ·exact Or.inr hk
 refine⟨?_,by rw[e];exact q1,?_,fun b' pR=>?_⟩
 ·rw[e,q2];rcases Wj with⟨hk,-,-,hc⟩|hk
  ·rw[if_pos hk];omega
  ·rw[if_neg hk];omega
 ·intro hm;rw[e,q2];rcases Wj with⟨hk,hb,hc,-⟩|hk
  ·rw[if_pos hk];omega
  ·rw[if_neg hk];omega
 ·rw[hall,if_pos];rw[e,q2]at pR;unfold pI at ho ⊢;rcases Wj with⟨hk,hb,hc,-⟩|hk
  ·rw[if_pos hk]at pR;simp[hk,hb];omega
  ·simp[hk]at ho ⊢;exact ho
theorem Uy.nxt (h:Uy d ep ck B rs ms ts gs k){j:Nat}(hj:j<rs.length):(ms j).2.2.2.2<=(ms (j+1)).2.2.2.2/\(ms (j+1)).2.2.2.1=(ms j).2.2.2.1+1:=by
 obtain⟨a,b,-⟩:=ok_next (h.bK j (by omega)) (h.stp j hj);exact⟨a,b⟩
theorem Uy.mono (h:Uy d ep ck B rs ms ts gs k){i:Nat}:∀ {n:Nat},i+n<=rs.length->(ms i).2.2.2.2<=(ms (i+n)).2.2.2.2/\(ms (i+n)).2.2.2.1=(ms i).2.2.2.1+(n:Int)
 |0,_=>⟨Int.le_refl _,by simp⟩
 |n+1,hn=>by
  obtain⟨a,b⟩:=h.mono (i:=i) (n:=n) (by omega);have bV:i+n<rs.length:=by omega
  obtain⟨c,e⟩:=h.nxt bV;refine⟨Int.le_trans a c,?_⟩;have e':(ms (i+(n+1))).2.2.2.1=(ms (i+n)).2.2.2.1+1:=e;rw[e',b];omega
theorem Uy.le (h:Uy d ep ck B rs ms ts gs k){i j:Nat}(hij:i<=j)(hj:j<=rs.length):(ms i).2.2.2.2<=(ms j).2.2.2.2/\(ms j).2.2.2.1=(ms i).2.2.2.1+((j-i:Nat):Int):=by
 have:=h.mono (i:=i) (n:=j-i) (by omega);rw[show i+(j-i)=j by omega]at this;exact this
end Go.Proofs.YtfplgfodoiiobaaGreatDoor
