/- KwL, KwJ, KwK, KwM, KwN (joined). -/
import Derived.Test.YtfplgfodoiiobaaGreatDoorJ45
open Option renaming none→O,some→M
open Go.Value renaming int→I,slice→Z,pointer→U
open Go.IntKind renaming i64→V
open Go.Obj renaming cells→C
open Go.Ending renaming returned→G
open Go renaming World→F,Value→Y,Calls→H
open Go.Proofs.Tryz renaming prog→K
namespace Go.Proofs.YtfplgfodoiiobaaGreatDoor
set_option maxHeartbeats 2000000
set_option maxRecDepth 100000
open Go.RowKit
variable {w:F}{d qp k:Nat}{ps:Nat->Addr}{X:Nat->Prop}{g:Gm}
theorem dz {v:Y}{n m kk:Int}{S:ByteArray}(h:qM w ps qp d g k X)(hm:eZ w v g d)(hk:k<=400)(hd:d<=50)(xO: -9223372036854775808<=n)(uY:n<=9223372036854775807)(KC: -9223372036854775808<=m)(hm2:m<=9223372036854775807):
 H K 23 #[U (M ⟨qp,0,O⟩),v,.agg #[I V 2,I V n,I V m,I V kk,.string S],I V (d:Int)] w fun e w'=>Fq w w' ps qp d X k e g 2 m S:=by
 obtain⟨su,sr,rfl,h1,h2⟩:=hm.form;obtain⟨uo,un,uc,rfl⟩:=h1.form;obtain⟨ro,rn,rc,rfl⟩:=h2.form;obtain⟨b1,b2,b3,-,-⟩:=h.gm;have iU:=lC g.1;obtain⟨w1,dU⟩:∃w1,w1=((w.alloc (C #[.string (aT g.1),Z uo un uc,Z ro rn rc,I V g.2.2.2] 36)).alloc (C #[I V 2,I V n,I V m,I V kk,.string S] 39)).alloc (C #[.string ⟨#[]⟩,Z O 0 0,Z O 0 0,I V 0] 36):=⟨_,rfl⟩
 have lG:w1.heap[w.heap.size]?=M (C #[.string (aT g.1),Z uo un uc,Z ro rn rc,I V g.2.2.2] 36 (0,0)):=by
  rw[dU];exact((aU _ _).block _ (by simp;omega)).trans (((aU _ _).block _ (by simp)).trans (heap_alloc_new w _))
 have bX:w1.heap[w.heap.size+1]?=M (C #[I V 2,I V n,I V m,I V kk,.string S] 39 (0,0)):=by
  rw[dU];refine((aU _ _).block _ (by simp)).trans ?_;have:=heap_alloc_new (w.alloc (C #[.string (aT g.1),Z uo un uc,Z ro rn rc,I V g.2.2.2] 36)) (C #[I V 2,I V n,I V m,I V kk,.string S] 39);rwa[World.size_alloc]at this
 have fG:w1.heap[w.heap.size+1+1]?=M (C #[.string ⟨#[]⟩,Z O 0 0,Z O 0 0,I V 0] 36 (0,0)):=by
  rw[dU];have:=heap_alloc_new ((w.alloc (C #[.string (aT g.1),Z uo un uc,Z ro rn rc,I V g.2.2.2] 36)).alloc (C #[I V 2,I V n,I V m,I V kk,.string S] 39)) (C #[.string ⟨#[]⟩,Z O 0 0,Z O 0 0,I V 0] 36);rwa[World.size_alloc,World.size_alloc]at this
 have G1:aK w w1:=by rw[dU];exact(((aK.refl w).alloc _).alloc _).alloc _
 obtain⟨c0,c1,c2,c3⟩:=bC lG;obtain⟨a0,a1,a2,a3,a4⟩:=nD bX;have Av:=fun W=>rU (w:=W) xO uY (show(0:Int)<=((aT g.1).size:Int) by omega) (by rw[iU];omega)
 have Be:Hid (Gl w ps):=h.1;have Pq:Hid (∀b,X b->Qi w1 b):=fun b hb=>(h.aM G1).ty hb
 have HM:Hid (eZ w1 (.agg #[.string (aT g.1),Z uo un uc,Z ro rn rc,I V g.2.2.2]) g d):=hm.aM G1;have pW:Hid (aK w w1):=G1;have El:Hid (w1.heap[w.heap.size]?=M (C #[.string (aT g.1),Z uo un uc,Z ro rn rc,I V g.2.2.2] 36 (0,0))):=lG;have Xp:Hid (w1.heap[w.heap.size+1]?=M (C #[I V 2,I V n,I V m,I V kk,.string S] 39 (0,0))):=bX;have Jt:Hid (w1.heap[w.heap.size+1+1]?=M (C #[.string ⟨#[]⟩,Z O 0 0,Z O 0 0,I V 0] 36 (0,0))):=fG;have HI:Hid (∀r,H K 44 #[U (M ⟨qp,0,O⟩),I V r,I V m] w1 fun e w'=>e=G (I V (Cr g r m d).2)/\uU w1 w' ps qp d X (Cr g r m d).1 (k+1)):=fun r=>aj (h.aM G1) hk hm2
 clear h hm h1 h2 lG bX fG G1;go_enter Tryz.func23,Tryz.ntmps23
 go_upto_region 1 with fail
 rw[<-dU];clear dU
 go_upto_region 15 with(first|(go_at_call 41;refine(Av _).mono ?_;rintro e w2 ⟨r,rfl,r1,r2,rfl⟩)|(go_at_call 44;refine(HI.out _).mono ?_;rintro e w3 ⟨rfl,Na⟩))
 obtain⟨X',dm,Jw⟩:=Na;have Bj:=Jw.1.at El.out (fun e=>(Pq.out _ e).ne El.out (by decide) rfl);have Jm:=Jw.1.at Jt.out (fun e=>(Pq.out _ e).ne Jt.out (by decide) rfl);have MP:=Jw.1.at Xp.out (fun e=>(Pq.out _ e).ne Xp.out (by decide) rfl);obtain⟨d0,d1,d2,d3⟩:=bC Bj;obtain⟨-,-,a2',-,-⟩:=nD MP;have yI:Hid (eZ w3 (.agg #[.string (aT g.1),Z uo un uc,Z ro rn rc,I V g.2.2.2]) g d):=HM.out.q Jw.1 Pq.out;have uI:Hid (uU w w3 ps qp d X (Cr g r m d).1 (k+1)):=Lh pW.out ⟨X',dm,Jw⟩;have iT:Hid (w3.heap[w.heap.size+1+1]?=M (C #[.string ⟨#[]⟩,Z O 0 0,Z O 0 0,I V 0] 36 (0,0))):=Jm;have SA:Hid (∀pos,iZ g 2 pos m S d=(Cr g pos m d).1):=fun pos=>by unfold iZ;rw[if_neg (by decide),if_pos rfl]
 have qK:(g.1.length:Int)<=5000:=b1;clear dm Jw Bj Jm MP Pq HM pW El Xp Jt HI c0 c1 c2 c3 a0 a1 a2 a3 a4 iU b1;by_cases k1:r<0\/(g.1.length:Int)<r\/m<1\/(g.1.length:Int)-r<m
 ·have hq:Cr g r m d=(g,5):=by unfold Cr;rw[if_pos k1]
  have uW:Hid (iZ g 2 r m S d=g):=by show _=_;rw[SA.out,hq]
  simp only[hq]at uI ⊢;clear hq SA;by_cases k2:r<0
  ·clear k1
   go_upto_region 16 with fail
   refine fT iT.out ?_;intro z0 z1 z2 z3 zf;have hne:w.heap.size≠w.heap.size+1+1:=by omega
   have e0:w3.drew.cell? ⟨w.heap.size,0,O⟩=M (.string (aT g.1)):=d0;have e1:w3.drew.cell? ⟨w.heap.size,1,O⟩=M (Z uo un uc):=d1;have e2:w3.drew.cell? ⟨w.heap.size,2,O⟩=M (Z ro rn rc):=d2;have e3:w3.drew.cell? ⟨w.heap.size,3,O⟩=M (I V g.2.2.2):=d3
   go_region_held3 (fun w'=>w'.cell? ⟨w.heap.size,0,O⟩=M (.string (aT g.1))/\w'.cell? ⟨w.heap.size,1,O⟩=M (Z uo un uc)/\w'.cell? ⟨w.heap.size,2,O⟩=M (Z ro rn rc)/\w'.cell? ⟨w.heap.size,3,O⟩=M (I V g.2.2.2))
    (first|(with_reducible exact⟨e0,e1,e2,e3⟩)|(exact⟨fZ d0 hne _ _ _ _,fZ d1 hne _ _ _ _,fZ d2 hne _ _ _ _,fZ d3 hne _ _ _ _⟩)) (fail)
   have pI:=iG iT.out (.string (aT g.1)) (Z uo un uc) (Z ro rn rc) (I V g.2.2.2);have uV:=yI.out.tJ iT.out (.string (aT g.1)) (Z uo un uc) (Z ro rn rc) (I V g.2.2.2);have rE:=fI Be.out uI.out (by omega) iT.out (.string (aT g.1)) (Z uo un uc) (Z ro rn rc) (I V g.2.2.2);clear z0 z1 z2 z3 zf e0 e1 e2 e3 d0 d1 d2 d3 iT yI uI;generalize ((((w3.setCell ⟨w.heap.size+1+1,0,O⟩ (.string (aT g.1))).setCell ⟨w.heap.size+1+1,1,O⟩ (Z uo un uc)).setCell ⟨w.heap.size+1+1,2,O⟩ (Z ro rn rc)).setCell ⟨w.heap.size+1+1,3,O⟩ (I V g.2.2.2))=w6 at*;have Pt:=uV.aM (aK.drew (aK.refl w6));have Js:=eU rE (aK.drew (aK.refl w6));obtain⟨q0,q1,q2,q3⟩:=bC (show w6.drew.heap[w.heap.size+1+1]?=_ from pI);clear uV rE pI;generalize w6.drew=w7 at*
   go_wp2_with fail
   refine bodyPost_ret (v:= .tuple #[I V 5,I V 5,.agg #[.string (aT g.1),Z uo un uc,Z ro rn rc,I V g.2.2.2]]) (by simp[results,Tryz.results23,go_sem,q0,q1,q2,q3]) rfl ?_;exact⟨r,5,_,rfl,by rw[uW.out];exact Js,by rw[uW.out];exact Pt⟩
  ·by_cases k3:(g.1.length:Int)<r
   ·clear k1
    go_upto_region 16 with fail
    refine fT iT.out ?_;intro z0 z1 z2 z3 zf;have hne:w.heap.size≠w.heap.size+1+1:=by omega
    have e0:w3.drew.cell? ⟨w.heap.size,0,O⟩=M (.string (aT g.1)):=d0;have e1:w3.drew.cell? ⟨w.heap.size,1,O⟩=M (Z uo un uc):=d1;have e2:w3.drew.cell? ⟨w.heap.size,2,O⟩=M (Z ro rn rc):=d2;have e3:w3.drew.cell? ⟨w.heap.size,3,O⟩=M (I V g.2.2.2):=d3
    go_region_held3 (fun w'=>w'.cell? ⟨w.heap.size,0,O⟩=M (.string (aT g.1))/\w'.cell? ⟨w.heap.size,1,O⟩=M (Z uo un uc)/\w'.cell? ⟨w.heap.size,2,O⟩=M (Z ro rn rc)/\w'.cell? ⟨w.heap.size,3,O⟩=M (I V g.2.2.2))
     (first|(with_reducible exact⟨e0,e1,e2,e3⟩)|(exact⟨fZ d0 hne _ _ _ _,fZ d1 hne _ _ _ _,fZ d2 hne _ _ _ _,fZ d3 hne _ _ _ _⟩)) (fail)
    have pI:=iG iT.out (.string (aT g.1)) (Z uo un uc) (Z ro rn rc) (I V g.2.2.2);have uV:=yI.out.tJ iT.out (.string (aT g.1)) (Z uo un uc) (Z ro rn rc) (I V g.2.2.2);have rE:=fI Be.out uI.out (by omega) iT.out (.string (aT g.1)) (Z uo un uc) (Z ro rn rc) (I V g.2.2.2);clear z0 z1 z2 z3 zf e0 e1 e2 e3 d0 d1 d2 d3 iT yI uI;generalize ((((w3.setCell ⟨w.heap.size+1+1,0,O⟩ (.string (aT g.1))).setCell ⟨w.heap.size+1+1,1,O⟩ (Z uo un uc)).setCell ⟨w.heap.size+1+1,2,O⟩ (Z ro rn rc)).setCell ⟨w.heap.size+1+1,3,O⟩ (I V g.2.2.2))=w6 at*;have Pt:=uV.aM (aK.drew (aK.refl w6));have Js:=eU rE (aK.drew (aK.refl w6));obtain⟨q0,q1,q2,q3⟩:=bC (show w6.drew.heap[w.heap.size+1+1]?=_ from pI);clear uV rE pI;generalize w6.drew=w7 at*
    go_wp2_with fail
    refine bodyPost_ret (v:= .tuple #[I V 5,I V 5,.agg #[.string (aT g.1),Z uo un uc,Z ro rn rc,I V g.2.2.2]]) (by simp[results,Tryz.results23,go_sem,q0,q1,q2,q3]) rfl ?_;exact⟨r,5,_,rfl,by rw[uW.out];exact Js,by rw[uW.out];exact Pt⟩
   ·by_cases k4:m<1
    ·clear k1
     go_upto_region 16 with fail
     refine fT iT.out ?_;intro z0 z1 z2 z3 zf;have hne:w.heap.size≠w.heap.size+1+1:=by omega
     have e0:w3.drew.cell? ⟨w.heap.size,0,O⟩=M (.string (aT g.1)):=d0;have e1:w3.drew.cell? ⟨w.heap.size,1,O⟩=M (Z uo un uc):=d1;have e2:w3.drew.cell? ⟨w.heap.size,2,O⟩=M (Z ro rn rc):=d2;have e3:w3.drew.cell? ⟨w.heap.size,3,O⟩=M (I V g.2.2.2):=d3
     go_region_held3 (fun w'=>w'.cell? ⟨w.heap.size,0,O⟩=M (.string (aT g.1))/\w'.cell? ⟨w.heap.size,1,O⟩=M (Z uo un uc)/\w'.cell? ⟨w.heap.size,2,O⟩=M (Z ro rn rc)/\w'.cell? ⟨w.heap.size,3,O⟩=M (I V g.2.2.2))
      (first|(with_reducible exact⟨e0,e1,e2,e3⟩)|(exact⟨fZ d0 hne _ _ _ _,fZ d1 hne _ _ _ _,fZ d2 hne _ _ _ _,fZ d3 hne _ _ _ _⟩)) (fail)
     have pI:=iG iT.out (.string (aT g.1)) (Z uo un uc) (Z ro rn rc) (I V g.2.2.2);have uV:=yI.out.tJ iT.out (.string (aT g.1)) (Z uo un uc) (Z ro rn rc) (I V g.2.2.2);have rE:=fI Be.out uI.out (by omega) iT.out (.string (aT g.1)) (Z uo un uc) (Z ro rn rc) (I V g.2.2.2);clear z0 z1 z2 z3 zf e0 e1 e2 e3 d0 d1 d2 d3 iT yI uI;generalize ((((w3.setCell ⟨w.heap.size+1+1,0,O⟩ (.string (aT g.1))).setCell ⟨w.heap.size+1+1,1,O⟩ (Z uo un uc)).setCell ⟨w.heap.size+1+1,2,O⟩ (Z ro rn rc)).setCell ⟨w.heap.size+1+1,3,O⟩ (I V g.2.2.2))=w6 at*;have Pt:=uV.aM (aK.drew (aK.refl w6));have Js:=eU rE (aK.drew (aK.refl w6));obtain⟨q0,q1,q2,q3⟩:=bC (show w6.drew.heap[w.heap.size+1+1]?=_ from pI);clear uV rE pI;generalize w6.drew=w7 at*
     go_wp2_with fail
     refine bodyPost_ret (v:= .tuple #[I V 5,I V 5,.agg #[.string (aT g.1),Z uo un uc,Z ro rn rc,I V g.2.2.2]]) (by simp[results,Tryz.results23,go_sem,q0,q1,q2,q3]) rfl ?_;exact⟨r,5,_,rfl,by rw[uW.out];exact Js,by rw[uW.out];exact Pt⟩
    ·have k5:(g.1.length:Int)-r<m:=by omega
     clear k1
     go_upto_region 16 with fail
     refine fT iT.out ?_;intro z0 z1 z2 z3 zf;have hne:w.heap.size≠w.heap.size+1+1:=by omega
     have e0:w3.drew.cell? ⟨w.heap.size,0,O⟩=M (.string (aT g.1)):=d0;have e1:w3.drew.cell? ⟨w.heap.size,1,O⟩=M (Z uo un uc):=d1;have e2:w3.drew.cell? ⟨w.heap.size,2,O⟩=M (Z ro rn rc):=d2;have e3:w3.drew.cell? ⟨w.heap.size,3,O⟩=M (I V g.2.2.2):=d3
     go_region_held3 (fun w'=>w'.cell? ⟨w.heap.size,0,O⟩=M (.string (aT g.1))/\w'.cell? ⟨w.heap.size,1,O⟩=M (Z uo un uc)/\w'.cell? ⟨w.heap.size,2,O⟩=M (Z ro rn rc)/\w'.cell? ⟨w.heap.size,3,O⟩=M (I V g.2.2.2))
      (first|(with_reducible exact⟨e0,e1,e2,e3⟩)|(exact⟨fZ d0 hne _ _ _ _,fZ d1 hne _ _ _ _,fZ d2 hne _ _ _ _,fZ d3 hne _ _ _ _⟩)) (fail)
     have pI:=iG iT.out (.string (aT g.1)) (Z uo un uc) (Z ro rn rc) (I V g.2.2.2);have uV:=yI.out.tJ iT.out (.string (aT g.1)) (Z uo un uc) (Z ro rn rc) (I V g.2.2.2);have rE:=fI Be.out uI.out (by omega) iT.out (.string (aT g.1)) (Z uo un uc) (Z ro rn rc) (I V g.2.2.2);clear z0 z1 z2 z3 zf e0 e1 e2 e3 d0 d1 d2 d3 iT yI uI;generalize ((((w3.setCell ⟨w.heap.size+1+1,0,O⟩ (.string (aT g.1))).setCell ⟨w.heap.size+1+1,1,O⟩ (Z uo un uc)).setCell ⟨w.heap.size+1+1,2,O⟩ (Z ro rn rc)).setCell ⟨w.heap.size+1+1,3,O⟩ (I V g.2.2.2))=w6 at*;have Pt:=uV.aM (aK.drew (aK.refl w6));have Js:=eU rE (aK.drew (aK.refl w6));obtain⟨q0,q1,q2,q3⟩:=bC (show w6.drew.heap[w.heap.size+1+1]?=_ from pI);clear uV rE pI;generalize w6.drew=w7 at*
     go_wp2_with fail
     refine bodyPost_ret (v:= .tuple #[I V 5,I V 5,.agg #[.string (aT g.1),Z uo un uc,Z ro rn rc,I V g.2.2.2]]) (by simp[results,Tryz.results23,go_sem,q0,q1,q2,q3]) rfl ?_;exact⟨r,5,_,rfl,by rw[uW.out];exact Js,by rw[uW.out];exact Pt⟩
 ·have k2:¬r<0:=by omega
  have k3:¬(g.1.length:Int)<r:=by omega
  have k4:¬m<1:=by omega
  have k5:¬(g.1.length:Int)-r<m:=by omega
  have i1:0<=r:=by omega
  have iU:=lC g.1;have i2:r<=((aT g.1).size:Int):=by omega
  have i3:0<=r+m:=by omega
  have i4:r+m<=((aT g.1).size:Int):=by omega
  have WR:IntKind.i64.wrap (r+m)=r+m:=by rw[IntKind.wrap_i64];omega
  have x1:((aT g.1).extract 0 r.toNat).size=r.toNat:=by rw[ByteArray.size_extract];omega
  have x2:((aT g.1).extract (r+m).toNat (aT g.1).size).size<=5000:=by rw[ByteArray.size_extract];omega
  have dx:∀w,(Op.stringOp .add ((aT g.1).extract 0 r.toNat) ((aT g.1).extract (r+m).toNat (aT g.1).size)).run K w= .ok (.string ((aT g.1).extract 0 r.toNat++(aT g.1).extract (r+m).toNat (aT g.1).size)) w:=fun w=>run_string_add_sum w _ _ (by omega)
  have hq:Cr g r m d=(Cq g (g.1.take r.toNat++g.1.drop (r+m).toNat) d,0):=by unfold Cr;rw[if_neg k1]
  have uW:Hid (iZ g 2 r m S d=Cq g (g.1.take r.toNat++g.1.drop (r+m).toNat) d):=by show _=_;rw[SA.out,hq]
  have hX:(aT g.1).extract 0 r.toNat++(aT g.1).extract (r+m).toNat (aT g.1).size=aT (g.1.take r.toNat++g.1.drop (r+m).toNat):=by
   refine Bw ?_;rw[gI,jM,jM,iU];simp only[aT,List.drop_zero,Nat.sub_zero];rw[List.take_of_length_le (l:=g.1.drop (r+m).toNat) (by rw[List.length_drop];omega)]
  have E_:Hid (∀W,aK w3 W->H K 43 #[.agg #[.string (aT g.1),Z uo un uc,Z ro rn rc,I V g.2.2.2],.string ((aT g.1).extract 0 r.toNat++(aT g.1).extract (r+m).toNat (aT g.1).size),I V (d:Int)] W fun e w'=> ∃t1 a1 a2 a3 b1 b2 b3 dn,e=G (.agg #[.string t1,Z a1 a2 a3,Z b1 b2 b3,I V dn])/\eZ w' (.agg #[.string t1,Z a1 a2 a3,Z b1 b2 b3,I V dn]) (Cq g (g.1.take r.toNat++g.1.drop (r+m).toNat) d) d/\aK W w'):=fun W hW=>by
   rw[hX];refine(Jp (yI.out.aM hW) hd (by omega)).mono ?_;rintro e w' ⟨v',rfl,k1,k2⟩;obtain⟨su,sr,rfl,s1,s2⟩:=k1.form;obtain⟨x1,x2,x3,rfl⟩:=s1.form;obtain⟨y1,y2,y3,rfl⟩:=s2.form;exact⟨_,_,_,_,_,_,_,_,rfl,k1,k2⟩
  simp only[hq]at uI ⊢;clear hq SA k1 hX yI
  go_upto_region 17 with fail
  have e0:w3.drew.cell? ⟨w.heap.size,0,O⟩=M (.string (aT g.1)):=d0;have e1:w3.drew.cell? ⟨w.heap.size,1,O⟩=M (Z uo un uc):=d1;have e2:w3.drew.cell? ⟨w.heap.size,2,O⟩=M (Z ro rn rc):=d2;have e3:w3.drew.cell? ⟨w.heap.size,3,O⟩=M (I V g.2.2.2):=d3;have e4:w3.drew.cell? ⟨w.heap.size+1,2,O⟩=M (I V m):=a2';have hne:w.heap.size≠w.heap.size+1+1:=by omega
  have TR:w.heap.size+1≠w.heap.size+1+1:=by omega
  have QT:Hid (∀W,aK w3.drew W->W.heap[w.heap.size+1+1]?=M (C #[.string ⟨#[]⟩,Z O 0 0,Z O 0 0,I V 0] 36 (0,0))):=fun W hW=>(hW.block _ (aL iT.out)).trans iT.out
  clear iU x1 x2 k2 k3 k4 k5
  go_region_held3 (fun w'=>w'.cell? ⟨w.heap.size,0,O⟩=M (.string (aT g.1))/\w'.cell? ⟨w.heap.size,1,O⟩=M (Z uo un uc)/\w'.cell? ⟨w.heap.size,2,O⟩=M (Z ro rn rc)/\w'.cell? ⟨w.heap.size,3,O⟩=M (I V g.2.2.2)/\w'.cell? ⟨w.heap.size+1,2,O⟩=M (I V m))
   (first|(with_reducible exact⟨e0,e1,e2,e3,e4⟩)|(with_reducible exact⟨y0,y1,y2,y3,y4⟩)|(exact⟨fZ y0 hne _ _ _ _,fZ y1 hne _ _ _ _,fZ y2 hne _ _ _ _,fZ y3 hne _ _ _ _,fZ y4 TR _ _ _ _⟩))
   (first|(go_at_call 43;refine(E_.out _ (aK.drew (aK.refl _))).mono ?_;rintro e w5 ⟨t1,x1,x2,x3,q1,q2,q3,dn,rfl,Rj,dY⟩;have y0:=dY.cell e0;have y1:=dY.cell e1;have y2:=dY.cell e2;have y3:=dY.cell e3;have y4:=dY.cell e4;refine fT (QT.out _ dY) ?_;intro z0 z1 z2 z3 zf))
  have F_:=QT.out _ dY;have pI:=iG F_ (.string t1) (Z x1 x2 x3) (Z q1 q2 q3) (I V dn);have uV:=Rj.tJ F_ (.string t1) (Z x1 x2 x3) (Z q1 q2 q3) (I V dn);have rE:=fI Be.out (eU (eU uI.out (aK.drew (aK.refl _))) dY) (by omega) F_ (.string t1) (Z x1 x2 x3) (Z q1 q2 q3) (I V dn);obtain⟨u0,u1,u2,u3⟩:=bC pI;clear z0 z1 z2 z3 zf y0 y1 y2 y3 y4 e0 e1 e2 e3 e4 d0 d1 d2 d3 a2' F_ dY Rj iT uI QT E_ dx WR pI;generalize ((((w5.setCell ⟨w.heap.size+1+1,0,O⟩ (.string t1)).setCell ⟨w.heap.size+1+1,1,O⟩ (Z x1 x2 x3)).setCell ⟨w.heap.size+1+1,2,O⟩ (Z q1 q2 q3)).setCell ⟨w.heap.size+1+1,3,O⟩ (I V dn))=w6 at*
  go_wp2_with fail
  refine bodyPost_ret (v:= .tuple #[I V 0,I V 0,.agg #[.string t1,Z x1 x2 x3,Z q1 q2 q3,I V dn]]) (by simp[results,Tryz.results23,go_sem,u0,u1,u2,u3]) rfl ?_;exact⟨r,0,_,rfl,by rw[uW.out];exact rE,by rw[uW.out];exact uV⟩
def ClAt (w:F)(ps:Nat->Addr)(qp d:Nat)(g:Gm)(k:Nat)(X:Nat->Prop):Prop:=Gl w ps/\∃s fs m t,uR w qp { s with aX:=false } fs m X/\Aj (s,fs,m) g k t/\s.depth=(d:Int)
theorem NR (h:qM w ps qp d g k X):
 H K 32 #[U (M ⟨qp,0,O⟩)] w fun e w'=>e=G (I V 0)/\∃X',ClAt w' ps qp d g k X'/\Dk w w' X X':=by
 obtain⟨hG,s,fs,m,t,hQ,hS,hd⟩:=h;have Co:s.aX=true:=hS.snd.op;have e:kD s=({ s with aX:=false },0):=by unfold kD;rw[if_pos Co]
 refine(ai hQ).mono ?_;rintro e' w' ⟨rfl,X',h1,h2⟩;rw[e]at h1 ⊢;exact⟨rfl,X',⟨hG.q h2.1 (fun b hb=>hQ.ty hb),s,fs,m,t,h1,hS,hd⟩,h2⟩
theorem fo (h:ClAt w ps qp d g k X):
 H K 24 #[U (M ⟨qp,0,O⟩)] w fun e w'=>e=G (I V 0)/\uU w w' ps qp d X g k:=by
 obtain⟨hG,s,fs,m,t,hQ,hS,hd⟩:=h;have Co:s.aX=true:=hS.snd.op;have e:kD s=({ s with aX:=false },0):=by unfold kD;rw[if_pos Co]
 have hr:=(JX hS.snd).2;simp only at hr;rw[e]at hr;have w_:=ZK hS.snd.gs;simp only at w_;rw[e]at w_;refine(qopen hQ hG w_).mono ?_;rintro e' w' ⟨rfl,hq⟩;rw[hr]at hq ⊢;exact⟨rfl,zL hG hQ hq ⟨t,hS⟩ hd⟩
theorem fw (d:Nat):lM (aN [] 2) ((aN [] 1).size:Int) d=M (0,([],[],[],0,0)):=JF _ _ rfl
theorem Ue (d:Nat):Rds [] d 0 oN:=⟨oN,[],fw d,rfl,by simp,rfl⟩
theorem KD (d:Nat):dJ oN d:=⟨Int.le_refl _,by decide,nR _,by decide,by decide,(fun e he=>by simp[oN]at he),(fun e he=>by simp[oN]at he),Nat.zero_le _,Nat.zero_le _,rfl,rfl,Int.le_refl _⟩
theorem Ij:eO 1000000 []:=⟨⟨List.Pairwise.nil,(fun f hf=>by simp at hf)⟩,(fun f hf=>by simp at hf),(fun f hf=>by simp at hf),by decide⟩
theorem DT (d:Nat):uK (nV 5000 (d:Int) 1000000,[],oN)=(({ nV 5000 (d:Int) 1000000 with aX:=true,ro:=false },[],oN),0):=
 Pn (s:=nV 5000 (d:Int) 1000000) rfl (by simpa[nV]using Ue d) Ij (fun f hf=>by simp at hf) rfl
theorem Jq (hd:d<=50)(o:Bool):kH { nV 5000 (d:Int) 1000000 with aX:=o,ro:=false }:=by
 constructor<;>simp[nV]<;>omega
theorem SB (hd:d<=50):Aj ({ nV 5000 (d:Int) 1000000 with aX:=true,ro:=false },[],oN) ([],[],[],0) 0 ([],[],[],0):=by
 refine⟨⟨⟨⟨Jq hd true,Int.le_refl _,Ij,Nat.zero_le _⟩,fun _=>KD _,fun _=>Int.le_refl _,(fun _ f hf=>by simp at hf),fun _=>Int.le_refl _,fun _ _=>rfl⟩,rfl,rfl,rfl,rfl,rfl,rfl,⟨rfl,rfl,rfl,trivial,trivial,rfl⟩,⟨[],Nat.zero_le _,⟨vW _,(fun e he=>by simp[oN]at he),List.nodup_nil,(fun g hg=>by simp at hg),(fun g hg=>by simp at hg)⟩⟩,?_,(fun f hf=>by simp at hf),Nat.zero_le _,Nat.zero_le _,Nat.zero_le _,Int.le_refl _⟩,rfl⟩;simpa[nV]using Ue d
theorem Wv {w1 w2:F}{X1:Nat->Prop}(h:Dk w w1 X X1)(h2:uU w1 w2 ps qp d X1 g k):uU w w2 ps qp d X g k:=by
 obtain⟨X',a,b⟩:=h2;exact⟨X',a,h.trans b⟩
theorem gu {w':F}{k':Nat}(h:uU w w' ps qp d X g k)(hk:k<=k'):uU w w' ps qp d X g k':=by
 obtain⟨X',a,b⟩:=h;exact⟨X',a.more hk,b⟩
theorem gy {kind:Int}(h:qM w ps qp d g k X)(hk:k<=122):
 H K 22 #[U (M ⟨qp,0,O⟩),I V kind] w fun e w'=>e=G (I V 0)/\uU w w' ps qp d X g (k+1):=by
 have hS:=s_sync h;have hC:=s_ckpt h hk;have hX:=NR h;clear h;by_cases k1:kind=6
 ·subst k1;go_enter Tryz.func22,Tryz.ntmps22
  go_wp2_with (go_at_call 30;refine hS.mono ?_;rintro e w' ⟨rfl,hd⟩)
  go_ret;exact⟨rfl,hd⟩
 ·by_cases k2:kind=7
  ·subst k2;go_enter Tryz.func22,Tryz.ntmps22
   go_wp2_with (go_at_call 31;refine hC.mono ?_;rintro e w' ⟨rfl,hd⟩)
   go_ret;exact⟨rfl,hd⟩
  ·have p1:(kind==6)=false:=by simpa using k1
   have p2:(kind==7)=false:=by simpa using k2
   go_enter Tryz.func22,Tryz.ntmps22
   go_wp2_with (first|(go_at_call 32;refine hX.mono ?_;rintro e w1 ⟨rfl,X1,hc,MI⟩;have hO:=fo hc)|(go_at_call 24;refine hO.mono ?_;rintro e w2 ⟨rfl,hd2⟩))
   go_ret;exact⟨rfl,gu (Wv MI hd2) (by omega)⟩
theorem xK {w1 w2:F}{X1:Nat->Prop}(hg:aK w w1)(hX:∀b,X b->w.heap.size<=b)(h:Dk w1 w2 X X1):aK w w2/\∀b,X1 b->w.heap.size<=b:=by
 refine⟨⟨h.2.1.1.trans hg.os,h.2.1.2.1.trans hg.tape,h.2.1.2.2.trans hg.output,Nat.le_trans hg.size h.1.1,fun b hb=>(h.1.2 b (Nat.lt_of_lt_of_le hb hg.size) (fun e=>by have:=hX b e;omega)).trans (hg.block b hb)⟩,fun b hb=>?_⟩;rcases h.2.2 b hb with e|e
 ·exact hX b e
 ·exact Nat.le_trans hg.size e
theorem Uf (hG:Gl w ps)(hd:d<=50):
 H K 17 #[I V (d:Int)] w fun e w'=> ∃qp X,e=G (U (M ⟨qp,0,O⟩))/\qM w' ps qp d ([],[],[],0) 0 X/\(∀b,X b->w.heap.size<=b)/\aK w w':=by
 have hN:=xnew (w:=w) (most:=5000) (depth:=(d:Int)) (room:=1000000) (by unfold NI;omega)
 have HC:Hid (∀W qp X,uR W qp (nV 5000 (d:Int) 1000000) [] oN X->H K 32 #[U (M ⟨qp,0,O⟩)] W fun e w'=>e=G (I V 3)/\Bf W w' qp X (nV 5000 (d:Int) 1000000,[],oN)):=fun W qp X h=>by
  have:=ai h;have e:kD (nV 5000 (d:Int) 1000000)=(nV 5000 (d:Int) 1000000,3):=rfl;rwa[e]at this
 have HO:Hid (∀W qp X,Gl W ps->uR W qp (nV 5000 (d:Int) 1000000) [] oN X->H K 24 #[U (M ⟨qp,0,O⟩)] W fun e w'=>e=G (I V 0)/\uU W w' ps qp d X ([],[],[],0) 0):=fun W qp X hg h=>by
  refine(qopen (D:=0) h hg (GS.shut ⟨Jq hd false,Int.le_refl _,Ij,Nat.zero_le _⟩ rfl)).mono ?_;rintro e w' ⟨rfl,hq⟩;rw[DT]at hq ⊢;exact⟨rfl,zL hg h hq ⟨_,SB hd⟩ rfl⟩
 have HG:Hid (Gl w ps):=hG;clear hG;go_enter Tryz.func17,Tryz.ntmps17
 go_wp2_with (first|(go_at_call 33;refine hN.mono ?_;clear hN;rintro e w1 ⟨X1,rfl,q1,TF,g1⟩;have hC:=HC.out _ _ _ q1)|(go_at_call 32;refine hC.mono ?_;clear hC;rintro e w2 ⟨rfl,X2,q2,k2⟩;obtain⟨g2,hx2⟩:=xK g1 TF k2;have hO:=HO.out _ _ _ (HG.out.aM g2) q2)|(go_at_call 24;refine hO.mono ?_;clear hO;rintro e w3 ⟨rfl,X3,q3,k3⟩;obtain⟨g3,hx3⟩:=xK g2 hx2 k3;have hL:=DN q3)|(go_at_call 40;refine hL.mono ?_;rintro e w4 ⟨rfl,rfl⟩))
 go_ret;exact⟨_,_,rfl,q3,hx3,g3⟩
def gA:Gm:=(Cq ([],[],[],0) [97,98] 3)
def gB:Gm:=(Cq gA [97,120,98] 3)
theorem ins_a:uT ([],[],[],0) 0 ⟨#[97,98]⟩ 3=(gA,0):=by decide
theorem ins_b:uT gA 1 ⟨#[120]⟩ 3=(gB,0):=by decide
theorem read_b:wB gB 0 3=(⟨#[97,120,98]⟩,0):=by decide
theorem undo_b:sU gB 3=(qL gB 3,0):=by decide
theorem read_c:wB (qL gB 3) 0 2=(⟨#[97,98]⟩,0):=by decide
theorem KE (hG:Gl w ps):
 H K 16 #[] w fun e w'=>e=G (.bool true)/\aK w w':=by
 have hF:=Uf (d:=3) hG (by decide)
 have HA:Hid (∀W qp X,qM W ps qp 3 ([],[],[],0) 0 X->H K 28 #[U (M ⟨qp,0,O⟩),I V 0,.string ⟨#[97,98]⟩] W fun e w'=>e=G (I V 0)/\uU W w' ps qp 3 X gA 1):=fun W qp X h=>by
  have:=Po (pos:=0) (text:=⟨#[97,98]⟩) h (by decide) (by decide);rwa[ins_a]at this
 have HB:Hid (∀W qp X,qM W ps qp 3 gA 1 X->H K 28 #[U (M ⟨qp,0,O⟩),I V 1,.string ⟨#[120]⟩] W fun e w'=>e=G (I V 0)/\uU W w' ps qp 3 X gB 2):=fun W qp X h=>by
  have:=Po (pos:=1) (text:=⟨#[120]⟩) h (by decide) (by decide);rwa[ins_b]at this
 have HR:Hid (∀W qp X,qM W ps qp 3 gB 2 X->H K 39 #[U (M ⟨qp,0,O⟩),I V 0,I V 3] W fun e w'=>e=G (.tuple #[.string ⟨#[97,120,98]⟩,I V 0])/\aK W w'):=fun W qp X h=>by
  have:=Ws (pos:=0) (n:=3) h (by decide);rwa[read_b]at this
 have HU:Hid (∀W qp X,qM W ps qp 3 gB 2 X->H K 29 #[U (M ⟨qp,0,O⟩)] W fun e w'=>e=G (I V 0)/\uU W w' ps qp 3 X (qL gB 3) 3):=fun W qp X h=>by
  have:=au h (by decide);rwa[undo_b]at this
 have HT:Hid (∀W qp X,qM W ps qp 3 (qL gB 3) 3 X->H K 39 #[U (M ⟨qp,0,O⟩),I V 0,I V 2] W fun e w'=>e=G (.tuple #[.string ⟨#[97,98]⟩,I V 0])/\aK W w'):=fun W qp X h=>by
  have:=Ws (pos:=0) (n:=2) h (by decide);rwa[read_c]at this
 clear hG;go_enter Tryz.func16,Tryz.ntmps16
 go_wp2_with (first|(go_at_call 17;refine hF.mono ?_;clear hF;rintro e w1 ⟨qp,X1,rfl,s1,x1,g1⟩;have hA:=HA.out _ _ _ s1)|(go_at_call 28;refine hA.mono ?_;clear hA;rintro e w2 ⟨rfl,X2,s2,k2⟩;obtain⟨g2,x2⟩:=xK g1 x1 k2;clear s1 x1 g1 k2;have hB:=HB.out _ _ _ s2)|(go_at_call 28;refine hB.mono ?_;clear hB;rintro e w3 ⟨rfl,X3,s3,k3⟩;obtain⟨g3,x3⟩:=xK g2 x2 k3;clear s2 x2 g2 k3;have hC:=NR s3)|(go_at_call 32;refine hC.mono ?_;clear hC;rintro e w4 ⟨rfl,X4,s4,k4⟩;obtain⟨g4,x4⟩:=xK g3 x3 k4;clear s3 x3 g3 k4;have hO:=fo s4)|(go_at_call 24;refine hO.mono ?_;clear hO;rintro e w5 ⟨rfl,X5,s5,k5⟩;obtain⟨g5,x5⟩:=xK g4 x4 k5;clear s4 x4 g4 k5;have hR:=HR.out _ _ _ s5)|(go_at_call 39;refine hR.mono ?_;clear hR;rintro e w6 ⟨rfl,g6⟩;have s6:=s5.aM g6;have hU:=HU.out _ _ _ s6)|(go_at_call 29;refine hU.mono ?_;clear hU;rintro e w7 ⟨rfl,X7,s7,k7⟩;obtain⟨g7,x7⟩:=xK (g5.then g6) x5 k7;clear s6 k7;have hT:=HT.out _ _ _ s7)|(go_at_call 39;refine hT.mono ?_;clear hT;rintro e w8 ⟨rfl,g8⟩))
 go_ret;exact⟨by simp,g7.then g8⟩
theorem Pv {v:Y}{q n m kk:Int}{S:ByteArray}(h:qM w ps qp d g k X)(hm:eZ w v g d)(hk:k<=400)(hd:d<=50)(xO: -9223372036854775808<=n)(uY:n<=9223372036854775807)(KC: -9223372036854775808<=m)(hm2:m<=9223372036854775807)(hs:S.size<=140737488355328):
 H K 23 #[U (M ⟨qp,0,O⟩),v,.agg #[I V q,I V n,I V m,I V kk,.string S],I V (d:Int)] w fun e w'=>Fq w w' ps qp d X k e g q m S:=by
 by_cases h1:q=1
 ·subst h1;exact dw h hm hk hd xO uY hs
 ·by_cases h2:q=2
  ·subst h2;exact dz h hm hk hd xO uY KC hm2
  ·by_cases h3:q=3
   ·subst h3;exact RX h hm hk hd xO uY
   ·by_cases h4:q=4
    ·subst h4;exact RY h hm hk hd xO uY
    ·exact RZ h hm xO uY h1 h2 h3 h4
end Go.Proofs.YtfplgfodoiiobaaGreatDoor
