/- KwI (joined). -/
import Derived.Test.YtfplgfodoiiobaaGreatDoorJ44
open Option renaming none→O,some→M
open Go.Value renaming int→I,slice→Z,pointer→U
open Go.IntKind renaming i64→V
open Go.Obj renaming cells→C
open Go.Ending renaming returned→G
open Go renaming World→F,Value→Y,Calls→H
open Go.Proofs.Tryz renaming prog→K
namespace Go.Proofs.YtfplgfodoiiobaaGreatDoor
set_option maxHeartbeats 2000000
set_option maxRecDepth 100000
open Go.RowKit
theorem dw {w:F}{ps:Nat->Addr}{qp d:Nat}{g:Gm}{k:Nat}{X:Nat->Prop}{v:Y}{n m kk:Int}{S:ByteArray}(h:qM w ps qp d g k X)(hm:eZ w v g d)(hk:k<=400)(hd:d<=50)(xO: -9223372036854775808<=n)(uY:n<=9223372036854775807)(hs:S.size<=140737488355328):
 H K 23 #[U (M ⟨qp,0,O⟩),v,.agg #[I V 1,I V n,I V m,I V kk,.string S],I V (d:Int)] w fun e w'=>Fq w w' ps qp d X k e g 1 m S:=by
 obtain⟨su,sr,rfl,h1,h2⟩:=hm.form;obtain⟨uo,un,uc,rfl⟩:=h1.form;obtain⟨ro,rn,rc,rfl⟩:=h2.form;obtain⟨b1,b2,b3,-,-⟩:=h.gm;have iU:=lC g.1;obtain⟨w1,dU⟩:∃w1,w1=((w.alloc (C #[.string (aT g.1),Z uo un uc,Z ro rn rc,I V g.2.2.2] 36)).alloc (C #[I V 1,I V n,I V m,I V kk,.string S] 39)).alloc (C #[.string ⟨#[]⟩,Z O 0 0,Z O 0 0,I V 0] 36):=⟨_,rfl⟩
 have lG:w1.heap[w.heap.size]?=M (C #[.string (aT g.1),Z uo un uc,Z ro rn rc,I V g.2.2.2] 36 (0,0)):=by
  rw[dU];exact((aU _ _).block _ (by simp;omega)).trans (((aU _ _).block _ (by simp)).trans (heap_alloc_new w _))
 have bX:w1.heap[w.heap.size+1]?=M (C #[I V 1,I V n,I V m,I V kk,.string S] 39 (0,0)):=by
  rw[dU];refine((aU _ _).block _ (by simp)).trans ?_;have:=heap_alloc_new (w.alloc (C #[.string (aT g.1),Z uo un uc,Z ro rn rc,I V g.2.2.2] 36)) (C #[I V 1,I V n,I V m,I V kk,.string S] 39);rwa[World.size_alloc]at this
 have fG:w1.heap[w.heap.size+1+1]?=M (C #[.string ⟨#[]⟩,Z O 0 0,Z O 0 0,I V 0] 36 (0,0)):=by
  rw[dU];have:=heap_alloc_new ((w.alloc (C #[.string (aT g.1),Z uo un uc,Z ro rn rc,I V g.2.2.2] 36)).alloc (C #[I V 1,I V n,I V m,I V kk,.string S] 39)) (C #[.string ⟨#[]⟩,Z O 0 0,Z O 0 0,I V 0] 36);rwa[World.size_alloc,World.size_alloc]at this
 have G1:aK w w1:=by rw[dU];exact(((aK.refl w).alloc _).alloc _).alloc _
 obtain⟨c0,c1,c2,c3⟩:=bC lG;obtain⟨a0,a1,a2,a3,a4⟩:=nD bX;have Av:=fun W=>rU (w:=W) xO uY (show(0:Int)<=((aT g.1).size:Int) by omega) (by rw[iU];omega)
 have Be:Hid (Gl w ps):=h.1;have Pq:Hid (∀b,X b->Qi w1 b):=fun b hb=>(h.aM G1).ty hb
 have HM:Hid (eZ w1 (.agg #[.string (aT g.1),Z uo un uc,Z ro rn rc,I V g.2.2.2]) g d):=hm.aM G1;have pW:Hid (aK w w1):=G1;have El:Hid (w1.heap[w.heap.size]?=M (C #[.string (aT g.1),Z uo un uc,Z ro rn rc,I V g.2.2.2] 36 (0,0))):=lG;have Xp:Hid (w1.heap[w.heap.size+1]?=M (C #[I V 1,I V n,I V m,I V kk,.string S] 39 (0,0))):=bX;have Jt:Hid (w1.heap[w.heap.size+1+1]?=M (C #[.string ⟨#[]⟩,Z O 0 0,Z O 0 0,I V 0] 36 (0,0))):=fG;have HI:Hid (∀r,H K 28 #[U (M ⟨qp,0,O⟩),I V r,.string S] w1 fun e w'=>e=G (I V (uT g r S d).2)/\uU w1 w' ps qp d X (uT g r S d).1 (k+1)):=fun r=>Po (h.aM G1) hk hs
 clear h hm h1 h2 lG bX fG G1;go_enter Tryz.func23,Tryz.ntmps23
 go_upto_region 1 with fail
 rw[<-dU];clear dU
 go_upto_region 6 with(first|(go_at_call 41;refine(Av _).mono ?_;rintro e w2 ⟨r,rfl,r1,r2,rfl⟩)|(go_at_call 28;refine(HI.out _).mono ?_;rintro e w3 ⟨rfl,Na⟩))
 obtain⟨X',dm,Jw⟩:=Na;have Bj:=Jw.1.at El.out (fun e=>(Pq.out _ e).ne El.out (by decide) rfl);have Jm:=Jw.1.at Jt.out (fun e=>(Pq.out _ e).ne Jt.out (by decide) rfl);have MP:=Jw.1.at Xp.out (fun e=>(Pq.out _ e).ne Xp.out (by decide) rfl);obtain⟨d0,d1,d2,d3⟩:=bC Bj;obtain⟨-,-,-,-,a4'⟩:=nD MP;have yI:Hid (eZ w3 (.agg #[.string (aT g.1),Z uo un uc,Z ro rn rc,I V g.2.2.2]) g d):=HM.out.q Jw.1 Pq.out;have uI:Hid (uU w w3 ps qp d X (uT g r S d).1 (k+1)):=Lh pW.out ⟨X',dm,Jw⟩;have iT:Hid (w3.heap[w.heap.size+1+1]?=M (C #[.string ⟨#[]⟩,Z O 0 0,Z O 0 0,I V 0] 36 (0,0))):=Jm;have SA:Hid (∀pos,iZ g 1 pos m S d=(uT g pos S d).1):=fun pos=>by unfold iZ;rw[if_pos rfl]
 have qK:(g.1.length:Int)<=5000:=b1;clear dm Jw Bj Jm MP Pq HM pW El Xp Jt HI c0 c1 c2 c3 a0 a1 a2 a3 a4 iU b1;by_cases k1:r<0\/(g.1.length:Int)<r
 ·have hq:uT g r S d=(g,5):=by unfold uT;rw[if_pos k1]
  have uW:Hid (iZ g 1 r m S d=g):=by show _=_;rw[SA.out,hq]
  simp only[hq]at uI ⊢;clear hq SA;by_cases k2:r<0
  ·clear k1
   go_upto_region 7 with fail
   refine fT iT.out ?_;intro z0 z1 z2 z3 zf;have hne:w.heap.size≠w.heap.size+1+1:=by omega
   have e0:w3.drew.cell? ⟨w.heap.size,0,O⟩=M (.string (aT g.1)):=d0;have e1:w3.drew.cell? ⟨w.heap.size,1,O⟩=M (Z uo un uc):=d1;have e2:w3.drew.cell? ⟨w.heap.size,2,O⟩=M (Z ro rn rc):=d2;have e3:w3.drew.cell? ⟨w.heap.size,3,O⟩=M (I V g.2.2.2):=d3
   go_region_held3 (fun w'=>w'.cell? ⟨w.heap.size,0,O⟩=M (.string (aT g.1))/\w'.cell? ⟨w.heap.size,1,O⟩=M (Z uo un uc)/\w'.cell? ⟨w.heap.size,2,O⟩=M (Z ro rn rc)/\w'.cell? ⟨w.heap.size,3,O⟩=M (I V g.2.2.2))
    (first|(with_reducible exact⟨e0,e1,e2,e3⟩)|(exact⟨fZ d0 hne _ _ _ _,fZ d1 hne _ _ _ _,fZ d2 hne _ _ _ _,fZ d3 hne _ _ _ _⟩)) (fail)
   have pI:=iG iT.out (.string (aT g.1)) (Z uo un uc) (Z ro rn rc) (I V g.2.2.2);have uV:=yI.out.tJ iT.out (.string (aT g.1)) (Z uo un uc) (Z ro rn rc) (I V g.2.2.2);have rE:=fI Be.out uI.out (by omega) iT.out (.string (aT g.1)) (Z uo un uc) (Z ro rn rc) (I V g.2.2.2);clear z0 z1 z2 z3 zf e0 e1 e2 e3 d0 d1 d2 d3 iT yI uI;generalize ((((w3.setCell ⟨w.heap.size+1+1,0,O⟩ (.string (aT g.1))).setCell ⟨w.heap.size+1+1,1,O⟩ (Z uo un uc)).setCell ⟨w.heap.size+1+1,2,O⟩ (Z ro rn rc)).setCell ⟨w.heap.size+1+1,3,O⟩ (I V g.2.2.2))=w6 at*;have Pt:=uV.aM (aK.drew (aK.refl w6));have Js:=eU rE (aK.drew (aK.refl w6));obtain⟨q0,q1,q2,q3⟩:=bC (show w6.drew.heap[w.heap.size+1+1]?=_ from pI);clear uV rE pI;generalize w6.drew=w7 at*
   go_wp2_with fail
   refine bodyPost_ret (v:= .tuple #[I V 5,I V 5,.agg #[.string (aT g.1),Z uo un uc,Z ro rn rc,I V g.2.2.2]]) (by simp[results,Tryz.results23,go_sem,q0,q1,q2,q3]) rfl ?_;exact⟨r,5,_,rfl,by rw[uW.out];exact Js,by rw[uW.out];exact Pt⟩
  ·have k3:(g.1.length:Int)<r:=k1.resolve_left k2;clear k1
   go_upto_region 7 with fail
   refine fT iT.out ?_;intro z0 z1 z2 z3 zf;have hne:w.heap.size≠w.heap.size+1+1:=by omega
   have e0:w3.drew.cell? ⟨w.heap.size,0,O⟩=M (.string (aT g.1)):=d0;have e1:w3.drew.cell? ⟨w.heap.size,1,O⟩=M (Z uo un uc):=d1;have e2:w3.drew.cell? ⟨w.heap.size,2,O⟩=M (Z ro rn rc):=d2;have e3:w3.drew.cell? ⟨w.heap.size,3,O⟩=M (I V g.2.2.2):=d3
   go_region_held3 (fun w'=>w'.cell? ⟨w.heap.size,0,O⟩=M (.string (aT g.1))/\w'.cell? ⟨w.heap.size,1,O⟩=M (Z uo un uc)/\w'.cell? ⟨w.heap.size,2,O⟩=M (Z ro rn rc)/\w'.cell? ⟨w.heap.size,3,O⟩=M (I V g.2.2.2))
    (first|(with_reducible exact⟨e0,e1,e2,e3⟩)|(exact⟨fZ d0 hne _ _ _ _,fZ d1 hne _ _ _ _,fZ d2 hne _ _ _ _,fZ d3 hne _ _ _ _⟩)) (fail)
   have pI:=iG iT.out (.string (aT g.1)) (Z uo un uc) (Z ro rn rc) (I V g.2.2.2);have uV:=yI.out.tJ iT.out (.string (aT g.1)) (Z uo un uc) (Z ro rn rc) (I V g.2.2.2);have rE:=fI Be.out uI.out (by omega) iT.out (.string (aT g.1)) (Z uo un uc) (Z ro rn rc) (I V g.2.2.2);clear z0 z1 z2 z3 zf e0 e1 e2 e3 d0 d1 d2 d3 iT yI uI;generalize ((((w3.setCell ⟨w.heap.size+1+1,0,O⟩ (.string (aT g.1))).setCell ⟨w.heap.size+1+1,1,O⟩ (Z uo un uc)).setCell ⟨w.heap.size+1+1,2,O⟩ (Z ro rn rc)).setCell ⟨w.heap.size+1+1,3,O⟩ (I V g.2.2.2))=w6 at*;have Pt:=uV.aM (aK.drew (aK.refl w6));have Js:=eU rE (aK.drew (aK.refl w6));obtain⟨q0,q1,q2,q3⟩:=bC (show w6.drew.heap[w.heap.size+1+1]?=_ from pI);clear uV rE pI;generalize w6.drew=w7 at*
   go_wp2_with fail
   refine bodyPost_ret (v:= .tuple #[I V 5,I V 5,.agg #[.string (aT g.1),Z uo un uc,Z ro rn rc,I V g.2.2.2]]) (by simp[results,Tryz.results23,go_sem,q0,q1,q2,q3]) rfl ?_;exact⟨r,5,_,rfl,by rw[uW.out];exact Js,by rw[uW.out];exact Pt⟩
 ·have k2:¬r<0:=fun e=>k1 (Or.inl e)
  have k3:¬(g.1.length:Int)<r:=fun e=>k1 (Or.inr e)
  by_cases m1:S.size<1\/200<S.size
  ·have hq:uT g r S d=(g,6):=by unfold uT;rw[if_neg k1,if_pos m1]
   have uW:Hid (iZ g 1 r m S d=g):=by show _=_;rw[SA.out,hq]
   simp only[hq]at uI ⊢;clear hq SA k1;by_cases m2:S.size<1
   ·have m3:(S.size:Int)<1:=by omega
    clear m1
    go_upto_region 9 with fail
    refine fT iT.out ?_;intro z0 z1 z2 z3 zf;have hne:w.heap.size≠w.heap.size+1+1:=by omega
    have e0:w3.drew.cell? ⟨w.heap.size,0,O⟩=M (.string (aT g.1)):=d0;have e1:w3.drew.cell? ⟨w.heap.size,1,O⟩=M (Z uo un uc):=d1;have e2:w3.drew.cell? ⟨w.heap.size,2,O⟩=M (Z ro rn rc):=d2;have e3:w3.drew.cell? ⟨w.heap.size,3,O⟩=M (I V g.2.2.2):=d3
    go_region_held3 (fun w'=>w'.cell? ⟨w.heap.size,0,O⟩=M (.string (aT g.1))/\w'.cell? ⟨w.heap.size,1,O⟩=M (Z uo un uc)/\w'.cell? ⟨w.heap.size,2,O⟩=M (Z ro rn rc)/\w'.cell? ⟨w.heap.size,3,O⟩=M (I V g.2.2.2))
     (first|(with_reducible exact⟨e0,e1,e2,e3⟩)|(exact⟨fZ d0 hne _ _ _ _,fZ d1 hne _ _ _ _,fZ d2 hne _ _ _ _,fZ d3 hne _ _ _ _⟩)) (fail)
    have pI:=iG iT.out (.string (aT g.1)) (Z uo un uc) (Z ro rn rc) (I V g.2.2.2);have uV:=yI.out.tJ iT.out (.string (aT g.1)) (Z uo un uc) (Z ro rn rc) (I V g.2.2.2);have rE:=fI Be.out uI.out (by omega) iT.out (.string (aT g.1)) (Z uo un uc) (Z ro rn rc) (I V g.2.2.2);clear z0 z1 z2 z3 zf e0 e1 e2 e3 d0 d1 d2 d3 iT yI uI;generalize ((((w3.setCell ⟨w.heap.size+1+1,0,O⟩ (.string (aT g.1))).setCell ⟨w.heap.size+1+1,1,O⟩ (Z uo un uc)).setCell ⟨w.heap.size+1+1,2,O⟩ (Z ro rn rc)).setCell ⟨w.heap.size+1+1,3,O⟩ (I V g.2.2.2))=w6 at*;have Pt:=uV.aM (aK.drew (aK.refl w6));have Js:=eU rE (aK.drew (aK.refl w6));obtain⟨q0,q1,q2,q3⟩:=bC (show w6.drew.heap[w.heap.size+1+1]?=_ from pI);clear uV rE pI;generalize w6.drew=w7 at*
    go_wp2_with fail
    refine bodyPost_ret (v:= .tuple #[I V 6,I V 6,.agg #[.string (aT g.1),Z uo un uc,Z ro rn rc,I V g.2.2.2]]) (by simp[results,Tryz.results23,go_sem,q0,q1,q2,q3]) rfl ?_;exact⟨r,6,_,rfl,by rw[uW.out];exact Js,by rw[uW.out];exact Pt⟩
   ·have m3:¬(S.size:Int)<1:=by omega
    have m4:(200:Int)<(S.size:Int):=by omega
    clear m1
    go_upto_region 9 with fail
    refine fT iT.out ?_;intro z0 z1 z2 z3 zf;have hne:w.heap.size≠w.heap.size+1+1:=by omega
    have e0:w3.drew.cell? ⟨w.heap.size,0,O⟩=M (.string (aT g.1)):=d0;have e1:w3.drew.cell? ⟨w.heap.size,1,O⟩=M (Z uo un uc):=d1;have e2:w3.drew.cell? ⟨w.heap.size,2,O⟩=M (Z ro rn rc):=d2;have e3:w3.drew.cell? ⟨w.heap.size,3,O⟩=M (I V g.2.2.2):=d3
    go_region_held3 (fun w'=>w'.cell? ⟨w.heap.size,0,O⟩=M (.string (aT g.1))/\w'.cell? ⟨w.heap.size,1,O⟩=M (Z uo un uc)/\w'.cell? ⟨w.heap.size,2,O⟩=M (Z ro rn rc)/\w'.cell? ⟨w.heap.size,3,O⟩=M (I V g.2.2.2))
     (first|(with_reducible exact⟨e0,e1,e2,e3⟩)|(exact⟨fZ d0 hne _ _ _ _,fZ d1 hne _ _ _ _,fZ d2 hne _ _ _ _,fZ d3 hne _ _ _ _⟩)) (fail)
    have pI:=iG iT.out (.string (aT g.1)) (Z uo un uc) (Z ro rn rc) (I V g.2.2.2);have uV:=yI.out.tJ iT.out (.string (aT g.1)) (Z uo un uc) (Z ro rn rc) (I V g.2.2.2);have rE:=fI Be.out uI.out (by omega) iT.out (.string (aT g.1)) (Z uo un uc) (Z ro rn rc) (I V g.2.2.2);clear z0 z1 z2 z3 zf e0 e1 e2 e3 d0 d1 d2 d3 iT yI uI;generalize ((((w3.setCell ⟨w.heap.size+1+1,0,O⟩ (.string (aT g.1))).setCell ⟨w.heap.size+1+1,1,O⟩ (Z uo un uc)).setCell ⟨w.heap.size+1+1,2,O⟩ (Z ro rn rc)).setCell ⟨w.heap.size+1+1,3,O⟩ (I V g.2.2.2))=w6 at*;have Pt:=uV.aM (aK.drew (aK.refl w6));have Js:=eU rE (aK.drew (aK.refl w6));obtain⟨q0,q1,q2,q3⟩:=bC (show w6.drew.heap[w.heap.size+1+1]?=_ from pI);clear uV rE pI;generalize w6.drew=w7 at*
    go_wp2_with fail
    refine bodyPost_ret (v:= .tuple #[I V 6,I V 6,.agg #[.string (aT g.1),Z uo un uc,Z ro rn rc,I V g.2.2.2]]) (by simp[results,Tryz.results23,go_sem,q0,q1,q2,q3]) rfl ?_;exact⟨r,6,_,rfl,by rw[uW.out];exact Js,by rw[uW.out];exact Pt⟩
  ·have m3:¬(S.size:Int)<1:=by omega
   have m4:¬(200:Int)<(S.size:Int):=by omega
   by_cases p1:5000<(g.1.length:Int)+(S.size:Int)
   ·have hq:uT g r S d=(g,7):=by unfold uT;rw[if_neg k1,if_neg m1,if_pos p1]
    have uW:Hid (iZ g 1 r m S d=g):=by show _=_;rw[SA.out,hq]
    simp only[hq]at uI ⊢;clear hq SA k1 m1
    go_upto_region 11 with fail
    refine fT iT.out ?_;intro z0 z1 z2 z3 zf;have hne:w.heap.size≠w.heap.size+1+1:=by omega
    have e0:w3.drew.cell? ⟨w.heap.size,0,O⟩=M (.string (aT g.1)):=d0;have e1:w3.drew.cell? ⟨w.heap.size,1,O⟩=M (Z uo un uc):=d1;have e2:w3.drew.cell? ⟨w.heap.size,2,O⟩=M (Z ro rn rc):=d2;have e3:w3.drew.cell? ⟨w.heap.size,3,O⟩=M (I V g.2.2.2):=d3
    go_region_held3 (fun w'=>w'.cell? ⟨w.heap.size,0,O⟩=M (.string (aT g.1))/\w'.cell? ⟨w.heap.size,1,O⟩=M (Z uo un uc)/\w'.cell? ⟨w.heap.size,2,O⟩=M (Z ro rn rc)/\w'.cell? ⟨w.heap.size,3,O⟩=M (I V g.2.2.2))
     (first|(with_reducible exact⟨e0,e1,e2,e3⟩)|(exact⟨fZ d0 hne _ _ _ _,fZ d1 hne _ _ _ _,fZ d2 hne _ _ _ _,fZ d3 hne _ _ _ _⟩)) (fail)
    have pI:=iG iT.out (.string (aT g.1)) (Z uo un uc) (Z ro rn rc) (I V g.2.2.2);have uV:=yI.out.tJ iT.out (.string (aT g.1)) (Z uo un uc) (Z ro rn rc) (I V g.2.2.2);have rE:=fI Be.out uI.out (by omega) iT.out (.string (aT g.1)) (Z uo un uc) (Z ro rn rc) (I V g.2.2.2);clear z0 z1 z2 z3 zf e0 e1 e2 e3 d0 d1 d2 d3 iT yI uI;generalize ((((w3.setCell ⟨w.heap.size+1+1,0,O⟩ (.string (aT g.1))).setCell ⟨w.heap.size+1+1,1,O⟩ (Z uo un uc)).setCell ⟨w.heap.size+1+1,2,O⟩ (Z ro rn rc)).setCell ⟨w.heap.size+1+1,3,O⟩ (I V g.2.2.2))=w6 at*;have Pt:=uV.aM (aK.drew (aK.refl w6));have Js:=eU rE (aK.drew (aK.refl w6));obtain⟨q0,q1,q2,q3⟩:=bC (show w6.drew.heap[w.heap.size+1+1]?=_ from pI);clear uV rE pI;generalize w6.drew=w7 at*
    go_wp2_with fail
    refine bodyPost_ret (v:= .tuple #[I V 7,I V 7,.agg #[.string (aT g.1),Z uo un uc,Z ro rn rc,I V g.2.2.2]]) (by simp[results,Tryz.results23,go_sem,q0,q1,q2,q3]) rfl ?_;exact⟨r,7,_,rfl,by rw[uW.out];exact Js,by rw[uW.out];exact Pt⟩
   ·have i1:0<=r:=by omega
    have iU:=lC g.1;have i2:r<=((aT g.1).size:Int):=by omega
    have x1:((aT g.1).extract 0 r.toNat).size=r.toNat:=by rw[ByteArray.size_extract];omega
    have x2:((aT g.1).extract r.toNat (aT g.1).size).size<=5000:=by rw[ByteArray.size_extract];omega
    have dx:∀w,(Op.stringOp .add ((aT g.1).extract 0 r.toNat) S).run K w= .ok (.string ((aT g.1).extract 0 r.toNat++S)) w:=fun w=>run_string_add_sum w _ _ (by omega)
    have MJ:∀w,(Op.stringOp .add ((aT g.1).extract 0 r.toNat++S) ((aT g.1).extract r.toNat (aT g.1).size)).run K w= .ok (.string ((aT g.1).extract 0 r.toNat++S++(aT g.1).extract r.toNat (aT g.1).size)) w:=fun w=>run_string_add_sum w _ _ (by rw[ByteArray.size_append];omega)
    have hq:uT g r S d=(Cq g (g.1.take r.toNat++S.data.toList++g.1.drop r.toNat) d,0):=by unfold uT;rw[if_neg k1,if_neg m1,if_neg p1]
    have uW:Hid (iZ g 1 r m S d=Cq g (g.1.take r.toNat++S.data.toList++g.1.drop r.toNat) d):=by show _=_;rw[SA.out,hq]
    have hX:(aT g.1).extract 0 r.toNat++S++(aT g.1).extract r.toNat (aT g.1).size=aT (g.1.take r.toNat++S.data.toList++g.1.drop r.toNat):=by
     refine Bw ?_;rw[gI,gI,jM,jM,iU];simp only[aT,List.drop_zero,Nat.sub_zero];rw[List.take_of_length_le (l:=g.1.drop r.toNat) (by rw[List.length_drop];omega)]
    have E_:Hid (∀W,aK w3 W->H K 43 #[.agg #[.string (aT g.1),Z uo un uc,Z ro rn rc,I V g.2.2.2],.string ((aT g.1).extract 0 r.toNat++S++(aT g.1).extract r.toNat (aT g.1).size),I V (d:Int)] W fun e w'=> ∃t1 a1 a2 a3 b1 b2 b3 dn,e=G (.agg #[.string t1,Z a1 a2 a3,Z b1 b2 b3,I V dn])/\eZ w' (.agg #[.string t1,Z a1 a2 a3,Z b1 b2 b3,I V dn]) (Cq g (g.1.take r.toNat++S.data.toList++g.1.drop r.toNat) d) d/\aK W w'):=fun W hW=>by
     rw[hX];refine(Jp (yI.out.aM hW) hd (by omega)).mono ?_;rintro e w' ⟨v',rfl,k1,k2⟩;obtain⟨su,sr,rfl,s1,s2⟩:=k1.form;obtain⟨x1,x2,x3,rfl⟩:=s1.form;obtain⟨y1,y2,y3,rfl⟩:=s2.form;exact⟨_,_,_,_,_,_,_,_,rfl,k1,k2⟩
    simp only[hq]at uI ⊢;clear hq SA k1 m1 hX yI
    go_upto_region 12 with fail
    have e0:w3.drew.cell? ⟨w.heap.size,0,O⟩=M (.string (aT g.1)):=d0;have e1:w3.drew.cell? ⟨w.heap.size,1,O⟩=M (Z uo un uc):=d1;have e2:w3.drew.cell? ⟨w.heap.size,2,O⟩=M (Z ro rn rc):=d2;have e3:w3.drew.cell? ⟨w.heap.size,3,O⟩=M (I V g.2.2.2):=d3;have e4:w3.drew.cell? ⟨w.heap.size+1,4,O⟩=M (.string S):=a4';have hne:w.heap.size≠w.heap.size+1+1:=by omega
    have TR:w.heap.size+1≠w.heap.size+1+1:=by omega
    have QT:Hid (∀W,aK w3.drew W->W.heap[w.heap.size+1+1]?=M (C #[.string ⟨#[]⟩,Z O 0 0,Z O 0 0,I V 0] 36 (0,0))):=fun W hW=>(hW.block _ (aL iT.out)).trans iT.out
    clear iU x1 x2 k2 k3 m3 m4 p1 qK
    go_region_held3 (fun w'=>w'.cell? ⟨w.heap.size,0,O⟩=M (.string (aT g.1))/\w'.cell? ⟨w.heap.size,1,O⟩=M (Z uo un uc)/\w'.cell? ⟨w.heap.size,2,O⟩=M (Z ro rn rc)/\w'.cell? ⟨w.heap.size,3,O⟩=M (I V g.2.2.2)/\w'.cell? ⟨w.heap.size+1,4,O⟩=M (.string S))
     (first|(with_reducible exact⟨e0,e1,e2,e3,e4⟩)|(with_reducible exact⟨y0,y1,y2,y3,y4⟩)|(exact⟨fZ y0 hne _ _ _ _,fZ y1 hne _ _ _ _,fZ y2 hne _ _ _ _,fZ y3 hne _ _ _ _,fZ y4 TR _ _ _ _⟩))
     (first|(go_at_call 43;refine(E_.out _ (aK.drew (aK.refl _))).mono ?_;rintro e w5 ⟨t1,x1,x2,x3,q1,q2,q3,dn,rfl,Rj,dY⟩;have y0:=dY.cell e0;have y1:=dY.cell e1;have y2:=dY.cell e2;have y3:=dY.cell e3;have y4:=dY.cell e4;refine fT (QT.out _ dY) ?_;intro z0 z1 z2 z3 zf))
    have qK:=QT.out _ dY;have pI:=iG qK (.string t1) (Z x1 x2 x3) (Z q1 q2 q3) (I V dn);have uV:=Rj.tJ qK (.string t1) (Z x1 x2 x3) (Z q1 q2 q3) (I V dn);have rE:=fI Be.out (eU (eU uI.out (aK.drew (aK.refl _))) dY) (by omega) qK (.string t1) (Z x1 x2 x3) (Z q1 q2 q3) (I V dn);obtain⟨u0,u1,u2,u3⟩:=bC pI;clear z0 z1 z2 z3 zf y0 y1 y2 y3 y4 e0 e1 e2 e3 e4 d0 d1 d2 d3 a4' qK dY Rj iT uI QT E_ dx MJ pI;generalize ((((w5.setCell ⟨w.heap.size+1+1,0,O⟩ (.string t1)).setCell ⟨w.heap.size+1+1,1,O⟩ (Z x1 x2 x3)).setCell ⟨w.heap.size+1+1,2,O⟩ (Z q1 q2 q3)).setCell ⟨w.heap.size+1+1,3,O⟩ (I V dn))=w6 at*
    go_wp2_with fail
    refine bodyPost_ret (v:= .tuple #[I V 0,I V 0,.agg #[.string t1,Z x1 x2 x3,Z q1 q2 q3,I V dn]]) (by simp[results,Tryz.results23,go_sem,u0,u1,u2,u3]) rfl ?_;exact⟨r,0,_,rfl,by rw[uW.out];exact rE,by rw[uW.out];exact uV⟩
end Go.Proofs.YtfplgfodoiiobaaGreatDoor
