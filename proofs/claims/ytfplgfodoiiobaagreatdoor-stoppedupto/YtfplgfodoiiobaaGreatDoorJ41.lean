/- KxG (joined). -/
import Derived.Test.YtfplgfodoiiobaaGreatDoorJ40
open Option renaming none→O,some→M
open Go.Value renaming int→I,slice→Z,pointer→U
open Go.IntKind renaming i64→V
open Go.Obj renaming cells→C
open Go.Ending renaming returned→G
open Go renaming World→F,Value→Y,Calls→H
open Go.Proofs.Tryz renaming prog→K
namespace Go.Proofs.YtfplgfodoiiobaaGreatDoor
set_option maxHeartbeats 2000000
set_option maxRecDepth 100000
open Go.RowKit
variable {w W:F}{ps:Nat->Addr}{X:Nat->Prop}{R b qp d:Nat}{v x y z u:Y}{g:Gm}{P:F->(Nat->Prop)->Prop}{E:Int->Int}{n m kk:Int}{S:ByteArray}
def dL (g:Gm)(kind pos m:Int)(S:ByteArray)(d:Nat):Gm:=if kind=1 then (qZ g pos S d).1 else if kind=2 then (vB g pos m d).1 else if kind=3 then (nC g d).1 else if kind=4 then (nD g d).1 else g
def eT (g:Gm)(kind pos m:Int)(S:ByteArray)(d:Nat):Int:=if kind=1 then (qZ g pos S d).2 else if kind=2 then (vB g pos m d).2 else if kind=3 then (nC g d).2 else if kind=4 then (nD g d).2 else 0
structure VK (ps:Nat->Addr)(P:F->(Nat->Prop)->Prop):Prop where
 aM:∀ {w w':F} {X:Nat->Prop},P w X->aJ w w'->P w' X
 off:∀ {w w':F} {X:Nat->Prop} {R:Nat} {aT:Array Y} {f:Nat×Nat},P w X->Fr w w' (fun b=>b=R)->w.heap[R]?=M (C aT 36 f)->(∀k,k<5->(ps k).block≠R)->P w' X
def Ya (w w':F)(P:F->(Nat->Prop)->Prop)(X:Nat->Prop):Prop:=∃X',P w' X'/\Dk w w' X X'
def Yb (w w':F)(P:Int->F->(Nat->Prop)->Prop)(E:Int->Int)(X:Nat->Prop)(d:Nat)(e:Ending)(g:Gm)(kind m:Int)(S:ByteArray):Prop:=
 ∃pos v',e=G (.tuple #[I V (E pos),I V (eT g kind pos m S d),v'])/\Ya w w' (P pos) X/\eU w' v' (dL g kind pos m S d) d
theorem kP {s:Y}(h:w.heap[b]?=M (C #[x,y,z,u,s] 39 (0,0))):w.cell? ⟨b,0,O⟩=M x/\w.cell? ⟨b,1,O⟩=M y/\w.cell? ⟨b,2,O⟩=M z/\w.cell? ⟨b,3,O⟩=M u/\w.cell? ⟨b,4,O⟩=M s:=by simp[World.cell?,h]
theorem Gl.off {w':F}{aT:Array Y}{f:Nat×Nat}(h:Gl w ps)(hF:Fr w w' (fun b=>b=R))(hR:w.heap[R]?=M (C aT 36 f))(hp:∀k,k<5->(ps k).block≠R):Gl w' ps:=
 ⟨h.uM.fr hF (fun b c hb e=>aW hb hR (by decide) e),fun k hk=>by obtain⟨c,t,hc,ht⟩:=h.box k hk;exact⟨c,t,hF.at hc (hp k hk),ht⟩,hF.at h.XO (fun e=>aW h.XO hR (by decide) e),hF.at h.tab (fun e=>aW h.tab hR (by decide) e)⟩
theorem Gl.lt (h:Gl w ps):∀k,k<5->(ps k).block<w.heap.size:=fun k hk=>by
 obtain⟨c,t,hc,-⟩:=h.box k hk;exact aK hc
theorem RI {W':F}(h:Fr w W X)(hF:Fr W W' (fun b=>b=R))(hR:w.heap.size<=R):Fr w W' X:=⟨Nat.le_trans h.1 hF.1,fun b hb hx=>(hF.2 b (Nat.lt_of_lt_of_le hb h.1) (fun e=>by omega)).trans (h.2 b hb hx)⟩
theorem fr4 (W:F)(g:Nat)(a b c d:Y):Fr W ((((W.setCell ⟨g,0,O⟩ a).setCell ⟨g,1,O⟩ b).setCell ⟨g,2,O⟩ c).setCell ⟨g,3,O⟩ d) (fun b=>b=g):=(((Fr.set W ⟨g,0,O⟩ a).trans (Fr.set _ ⟨g,1,O⟩ b)).trans (Fr.set _ ⟨g,2,O⟩ c)).trans (Fr.set _ ⟨g,3,O⟩ d)
theorem eU.sN {dd:Nat}(h:eU w v g dd)(hb:w.heap[R]?=M (C #[x,y,z,u] 36 (0,0)))(a b c d:Y):eU ((((w.setCell ⟨R,0,O⟩ a).setCell ⟨R,1,O⟩ b).setCell ⟨R,2,O⟩ c).setCell ⟨R,3,O⟩ d) v g dd:=by
 obtain⟨su,sr,e,h1,h2⟩:=h.form;exact⟨⟨su,sr,e,xZ h1 hb a b c d,xZ h2 hb a b c d⟩,h.ul,h.rl,h.d0,h.d1⟩
theorem gD {i:Nat}(h:W.cell? ⟨b,i,O⟩=M v)(hb:b≠R)(x y z u:Y):((((W.setCell ⟨R,0,O⟩ x).setCell ⟨R,1,O⟩ y).setCell ⟨R,2,O⟩ z).setCell ⟨R,3,O⟩ u).drew.cell? ⟨b,i,O⟩=M v:=by
 have hF:=fr4 W R x y z u;have:=hF.2 b (World.block_lt_of_cell? _ _ h) hb;exact(World.cell?_of_block (a:=⟨b,i,O⟩) this).trans h
theorem gW (hF:VK ps P)(hG:Gl w ps)(h:Ya w W P X)(hR:w.heap.size<=R)(hb:W.heap[R]?=M (C #[x,y,z,u] 36 (0,0)))(a b c e:Y):Ya w ((((W.setCell ⟨R,0,O⟩ a).setCell ⟨R,1,O⟩ b).setCell ⟨R,2,O⟩ c).setCell ⟨R,3,O⟩ e) P X:=by
 obtain⟨X',h1,h2⟩:=h;have hF4:=fr4 W R a b c e;refine⟨X',hF.off h1 hF4 hb (fun k hk e=>by have:=hG.lt k hk;omega),⟨RI h2.1 hF4 hR,⟨h2.2.1.1,h2.2.1.2.1,h2.2.1.2.2⟩,h2.2.2⟩⟩
theorem Oj {w1:F}(hg:aJ w w1)(h:Ya w1 W P X):Ya w W P X:=by
 obtain⟨X',h1,h2⟩:=h;exact⟨X',h1,(Dk.bH hg).trans h2⟩
theorem gM {w1:F}(hF:VK ps P)(h:Ya w w1 P X)(hg:aJ w1 W):Ya w W P X:=by
 obtain⟨X',h1,h2⟩:=h;exact⟨X',hF.aM h1 hg,h2.aM hg⟩
theorem lD.aM {w':F}(h:lD w b)(hg:aJ w w'):lD w' b:=by
 obtain⟨aT,t,mk,h1,h2⟩:=h;exact⟨aT,t,mk,(hg.block _ (aK h1)).trans h1,h2⟩
theorem Yc {P:Int->F->(Nat->Prop)->Prop}(h0:Gl w ps)(hT:∀b,X b->lD w b)(hF:∀r,VK ps (P r))(hU:∀W,aJ w W->H K 29 #[U (M ⟨qp,0,O⟩)] W fun e w'=>e=G (I V (E 0))/\Ya W w' (P 0) X)(hm:eU w v g d)(b1:(g.1.length:Int)<=5000)(b3:g.2.2.2<=900000)(hd:d<=50)(pQ: -9223372036854775808<=n)(oW:n<=9223372036854775807):
 H K 23 #[U (M ⟨qp,0,O⟩),v,.agg #[I V 3,I V n,I V m,I V kk,.string S],I V (d:Int)] w fun e w'=>Yb w w' P E X d e g 3 m S:=by
 obtain⟨su,sr,rfl,h1,h2⟩:=hm.form;obtain⟨uo,un,uc,rfl⟩:=h1.form;obtain⟨ro,rn,rc,rfl⟩:=h2.form;have b2:=hm.d0;have gQ:=iX g.1;obtain⟨w1,dU⟩:∃w1,w1=((w.alloc (C #[.string (aR g.1),Z uo un uc,Z ro rn rc,I V g.2.2.2] 36)).alloc (C #[I V 3,I V n,I V m,I V kk,.string S] 39)).alloc (C #[.string ⟨#[]⟩,Z O 0 0,Z O 0 0,I V 0] 36):=⟨_,rfl⟩
 have kT:w1.heap[w.heap.size]?=M (C #[.string (aR g.1),Z uo un uc,Z ro rn rc,I V g.2.2.2] 36 (0,0)):=by
  rw[dU];exact((aU _ _).block _ (by simp;omega)).trans (((aU _ _).block _ (by simp)).trans (heap_alloc_new w _))
 have bX:w1.heap[w.heap.size+1]?=M (C #[I V 3,I V n,I V m,I V kk,.string S] 39 (0,0)):=by
  rw[dU];refine((aU _ _).block _ (by simp)).trans ?_;have:=heap_alloc_new (w.alloc (C #[.string (aR g.1),Z uo un uc,Z ro rn rc,I V g.2.2.2] 36)) (C #[I V 3,I V n,I V m,I V kk,.string S] 39);rwa[World.size_alloc]at this
 have fP:w1.heap[w.heap.size+1+1]?=M (C #[.string ⟨#[]⟩,Z O 0 0,Z O 0 0,I V 0] 36 (0,0)):=by
  rw[dU];have:=heap_alloc_new ((w.alloc (C #[.string (aR g.1),Z uo un uc,Z ro rn rc,I V g.2.2.2] 36)).alloc (C #[I V 3,I V n,I V m,I V kk,.string S] 39)) (C #[.string ⟨#[]⟩,Z O 0 0,Z O 0 0,I V 0] 36);rwa[World.size_alloc,World.size_alloc]at this
 have G1:aJ w w1:=by rw[dU];exact(((aJ.refl w).alloc _).alloc _).alloc _
 obtain⟨c0,c1,c2,c3⟩:=aZ kT;obtain⟨a0,a1,a2,a3,a4⟩:=kP bX;have Ce:=fun W=>tH (w:=W) pQ oW (show(0:Int)<=((aR g.1).size:Int) by omega) (by rw[gQ];omega)
 have HU:Hid (H K 29 #[U (M ⟨qp,0,O⟩)] w1 fun e w'=>e=G (I V (E 0))/\Ya w1 w' (P 0) X):=hU w1 G1;have Co:Hid (Gl w ps):=h0;have Rz:Hid (∀b,X b->lD w1 b):=fun b hb=>(hT b hb).aM G1
 have HM:Hid (eU w1 (.agg #[.string (aR g.1),Z uo un uc,Z ro rn rc,I V g.2.2.2]) g d):=hm.aM G1;have qQ:Hid (aJ w w1):=G1;have HX:Hid (∀b,X b->b<w.heap.size):=fun b hb=>(hT b hb).lt
 have HS:Hid (jI w (Z uo un uc) g.2.1.reverse):=h1;have Gd:Hid (w1.heap[w.heap.size]?=M (C #[.string (aR g.1),Z uo un uc,Z ro rn rc,I V g.2.2.2] 36 (0,0))):=kT;have Mq:Hid (w1.heap[w.heap.size+1+1]?=M (C #[.string ⟨#[]⟩,Z O 0 0,Z O 0 0,I V 0] 36 (0,0))):=fP;have yO:Hid (∀r,VK ps (P r)):=hF;clear hF h0 hT hU hm h1 h2 kT bX fP G1 b1 gQ;go_enter Tryz.func23,Tryz.ntmps23
 go_upto_region 1 with fail
 rw[<-dU];clear dU
 go_upto_region 20 with(first|(go_at_call 41;refine(Ce _).mono ?_;rintro e w2 ⟨r,rfl,r1,r2,rfl⟩)|(go_at_call 29;refine HU.out.mono ?_;rintro e w3 ⟨rfl,Pq⟩))
 obtain⟨X',P_,Mw⟩:=Pq;have Ct:=Mw.1.at Gd.out (fun e=>(Rz.out _ e).ne Gd.out (by decide) rfl);have Lr:=Mw.1.at Mq.out (fun e=>(Rz.out _ e).ne Mq.out (by decide) rfl);obtain⟨d0,d1,d2,d3⟩:=aZ Ct;have yX:Hid (eU w3 (.agg #[.string (aR g.1),Z uo un uc,Z ro rn rc,I V g.2.2.2]) g d):=HM.out.q Mw.1 Rz.out;have Bl:Hid (Ya w w3 (P 0) X):=Oj qQ.out ⟨X',P_,Mw⟩
 have hlen:un=g.2.1.length:=by
  obtain⟨ao,cc,e,-⟩:=HS.out;simp only[Value.slice.injEq]at e;rw[e.2.1,List.length_reverse]
 have jD:Hid (w3.heap[w.heap.size+1+1]?=M (C #[.string ⟨#[]⟩,Z O 0 0,Z O 0 0,I V 0] 36 (0,0))):=Lr;clear P_ Mw Ct Rz HM qQ Gd Mq HU HS HX c0 c1 c2 c3 a0 a1 a2 a3 a4;have e0:w3.drew.cell? ⟨w.heap.size,0,O⟩=M (.string (aR g.1)):=d0;have e1:w3.drew.cell? ⟨w.heap.size,1,O⟩=M (Z uo un uc):=d1;have e2:w3.drew.cell? ⟨w.heap.size,2,O⟩=M (Z ro rn rc):=d2;have e3:w3.drew.cell? ⟨w.heap.size,3,O⟩=M (I V g.2.2.2):=d3;by_cases hz:g.2.1=[]
 ·have hq:nC g d=(g,8):=by unfold nC;rw[if_pos hz]
  have hu0:un=0:=by rw[hlen,hz];rfl
  have Lx:Hid (∀pos,dL g 3 pos m S d=g):=fun pos=>by unfold dL;simp[hq]
  have Ma:Hid (∀pos,eT g 3 pos m S d=8):=fun pos=>by unfold eT;simp[hq]
  clear hlen hq hz;subst hu0
  go_upto_region 21 with fail
  refine fZ jD.out ?_;intro z0 z1 z2 z3 zf;have hne:w.heap.size≠w.heap.size+1+1:=by omega
  go_region_held3 (fun w'=>w'.cell? ⟨w.heap.size,0,O⟩=M (.string (aR g.1))/\w'.cell? ⟨w.heap.size,1,O⟩=M (Z uo 0 uc)/\w'.cell? ⟨w.heap.size,2,O⟩=M (Z ro rn rc)/\w'.cell? ⟨w.heap.size,3,O⟩=M (I V g.2.2.2))
   (first|(with_reducible exact⟨e0,e1,e2,e3⟩)|(exact⟨gD d0 hne _ _ _ _,gD d1 hne _ _ _ _,gD d2 hne _ _ _ _,gD d3 hne _ _ _ _⟩)) (fail)
  have qK:=iP jD.out (.string (aR g.1)) (Z uo 0 uc) (Z ro rn rc) (I V g.2.2.2);have vW:=yX.out.sN jD.out (.string (aR g.1)) (Z uo 0 uc) (Z ro rn rc) (I V g.2.2.2);have sM:=gW (yO.out 0) Co.out Bl.out (by omega) jD.out (.string (aR g.1)) (Z uo 0 uc) (Z ro rn rc) (I V g.2.2.2);clear z0 z1 z2 z3 zf e0 e1 e2 e3 d0 d1 d2 d3 jD yX Bl;generalize ((((w3.setCell ⟨w.heap.size+1+1,0,O⟩ (.string (aR g.1))).setCell ⟨w.heap.size+1+1,1,O⟩ (Z uo 0 uc)).setCell ⟨w.heap.size+1+1,2,O⟩ (Z ro rn rc)).setCell ⟨w.heap.size+1+1,3,O⟩ (I V g.2.2.2))=w6 at*;have Sb:=vW.aM (aJ.drew (aJ.refl w6));have Mk:=gM (yO.out 0) sM (aJ.drew (aJ.refl w6));obtain⟨q0,q1,q2,q3⟩:=aZ (show w6.drew.heap[w.heap.size+1+1]?=_ from qK);clear vW sM qK;generalize w6.drew=w7 at*
  go_wp2_with fail
  refine bodyPost_ret (v:= .tuple #[I V (E 0),I V 8,.agg #[.string (aR g.1),Z uo 0 uc,Z ro rn rc,I V g.2.2.2]]) (by simp[results,Tryz.results23,go_sem,q0,q1,q2,q3]) rfl ?_;exact⟨0,_,by rw[Ma.out],Mk,by rw[Lx.out];exact Sb⟩
 ·obtain⟨f,l,Yx⟩:=List.exists_cons_of_ne_nil hz;have hq:nC g d=(yM g d,0):=by unfold nC;rw[if_neg hz]
  have Lx:Hid (∀pos,dL g 3 pos m S d=yM g d):=fun pos=>by unfold dL;simp[hq]
  have Ma:Hid (∀pos,eT g 3 pos m S d=0):=fun pos=>by unfold eT;simp[hq]
  have hun:((un:Int)==0)=false:=by
   rw[beq_eq_false_iff_ne,hlen,Yx];simp;omega
  have HUn:Hid (H K 45 #[.agg #[.string (aR g.1),Z uo un uc,Z ro rn rc,I V g.2.2.2],I V (d:Int)] w3 fun e w'=> ∃t1 a1 a2 a3 b1 b2 b3 dn,e=G (.agg #[.string t1,Z a1 a2 a3,Z b1 b2 b3,I V dn])/\eU w' (.agg #[.string t1,Z a1 a2 a3,Z b1 b2 b3,I V dn]) (yM g d) d/\aJ w3 w'):=by
   refine(RG yX.out Yx hd (by omega)).mono ?_;rintro e w' ⟨v',rfl,k1,k2⟩;obtain⟨su,sr,rfl,s1,s2⟩:=k1.form;obtain⟨x1,x2,x3,rfl⟩:=s1.form;obtain⟨y1,y2,y3,rfl⟩:=s2.form;exact⟨_,_,_,_,_,_,_,_,rfl,k1,k2⟩
  clear hlen hq hz Yx e0 e1 e2 e3 yX
  go_wp2_with (go_at_call 45;refine HUn.out.mono ?_;rintro e w5 ⟨t1,x1,x2,x3,y1,y2,y3,dn,rfl,Ux,dK⟩;refine fZ ((dK.block _ (aK jD.out)).trans jD.out) ?_;intro z0 z1 z2 z3 zf)
  have rG:=(dK.block _ (aK jD.out)).trans jD.out;have qK:=iP rG (.string t1) (Z x1 x2 x3) (Z y1 y2 y3) (I V dn);have vW:=Ux.sN rG (.string t1) (Z x1 x2 x3) (Z y1 y2 y3) (I V dn);have sM:=gW (yO.out 0) Co.out (gM (yO.out 0) Bl.out dK) (by omega) rG (.string t1) (Z x1 x2 x3) (Z y1 y2 y3) (I V dn);obtain⟨q0,q1,q2,q3⟩:=aZ qK;refine bodyPost_ret (v:= .tuple #[I V (E 0),I V 0,.agg #[.string t1,Z x1 x2 x3,Z y1 y2 y3,I V dn]]) (by simp[results,Tryz.results23,go_sem,q0,q1,q2,q3]) rfl ?_;exact⟨0,_,by rw[Ma.out],sM,by rw[Lx.out];exact vW⟩
theorem Yd {P:Int->F->(Nat->Prop)->Prop}(h0:Gl w ps)(hT:∀b,X b->lD w b)(hF:∀r,VK ps (P r))(hU:∀W,aJ w W->H K 46 #[U (M ⟨qp,0,O⟩)] W fun e w'=>e=G (I V (E 0))/\Ya W w' (P 0) X)(hm:eU w v g d)(b1:(g.1.length:Int)<=5000)(b3:g.2.2.2<=900000)(hd:d<=50)(pQ: -9223372036854775808<=n)(oW:n<=9223372036854775807):
 H K 23 #[U (M ⟨qp,0,O⟩),v,.agg #[I V 4,I V n,I V m,I V kk,.string S],I V (d:Int)] w fun e w'=>Yb w w' P E X d e g 4 m S:=by
 obtain⟨su,sr,rfl,h1,h2⟩:=hm.form;obtain⟨uo,un,uc,rfl⟩:=h1.form;obtain⟨ro,rn,rc,rfl⟩:=h2.form;have b2:=hm.d0;have gQ:=iX g.1;obtain⟨w1,dU⟩:∃w1,w1=((w.alloc (C #[.string (aR g.1),Z uo un uc,Z ro rn rc,I V g.2.2.2] 36)).alloc (C #[I V 4,I V n,I V m,I V kk,.string S] 39)).alloc (C #[.string ⟨#[]⟩,Z O 0 0,Z O 0 0,I V 0] 36):=⟨_,rfl⟩
 have kT:w1.heap[w.heap.size]?=M (C #[.string (aR g.1),Z uo un uc,Z ro rn rc,I V g.2.2.2] 36 (0,0)):=by
  rw[dU];exact((aU _ _).block _ (by simp;omega)).trans (((aU _ _).block _ (by simp)).trans (heap_alloc_new w _))
 have bX:w1.heap[w.heap.size+1]?=M (C #[I V 4,I V n,I V m,I V kk,.string S] 39 (0,0)):=by
  rw[dU];refine((aU _ _).block _ (by simp)).trans ?_;have:=heap_alloc_new (w.alloc (C #[.string (aR g.1),Z uo un uc,Z ro rn rc,I V g.2.2.2] 36)) (C #[I V 4,I V n,I V m,I V kk,.string S] 39);rwa[World.size_alloc]at this
 have fP:w1.heap[w.heap.size+1+1]?=M (C #[.string ⟨#[]⟩,Z O 0 0,Z O 0 0,I V 0] 36 (0,0)):=by
  rw[dU];have:=heap_alloc_new ((w.alloc (C #[.string (aR g.1),Z uo un uc,Z ro rn rc,I V g.2.2.2] 36)).alloc (C #[I V 4,I V n,I V m,I V kk,.string S] 39)) (C #[.string ⟨#[]⟩,Z O 0 0,Z O 0 0,I V 0] 36);rwa[World.size_alloc,World.size_alloc]at this
 have G1:aJ w w1:=by rw[dU];exact(((aJ.refl w).alloc _).alloc _).alloc _
 obtain⟨c0,c1,c2,c3⟩:=aZ kT;obtain⟨a0,a1,a2,a3,a4⟩:=kP bX;have Ce:=fun W=>tH (w:=W) pQ oW (show(0:Int)<=((aR g.1).size:Int) by omega) (by rw[gQ];omega)
 have HU:Hid (H K 46 #[U (M ⟨qp,0,O⟩)] w1 fun e w'=>e=G (I V (E 0))/\Ya w1 w' (P 0) X):=hU w1 G1;have Co:Hid (Gl w ps):=h0;have Rz:Hid (∀b,X b->lD w1 b):=fun b hb=>(hT b hb).aM G1
 have HM:Hid (eU w1 (.agg #[.string (aR g.1),Z uo un uc,Z ro rn rc,I V g.2.2.2]) g d):=hm.aM G1;have qQ:Hid (aJ w w1):=G1;have HX:Hid (∀b,X b->b<w.heap.size):=fun b hb=>(hT b hb).lt
 have HS:Hid (jI w (Z ro rn rc) g.2.2.1.reverse):=h2;have Gd:Hid (w1.heap[w.heap.size]?=M (C #[.string (aR g.1),Z uo un uc,Z ro rn rc,I V g.2.2.2] 36 (0,0))):=kT;have Mq:Hid (w1.heap[w.heap.size+1+1]?=M (C #[.string ⟨#[]⟩,Z O 0 0,Z O 0 0,I V 0] 36 (0,0))):=fP;have yO:Hid (∀r,VK ps (P r)):=hF;clear hF h0 hT hU hm h1 h2 kT bX fP G1 b1 gQ;go_enter Tryz.func23,Tryz.ntmps23
 go_upto_region 1 with fail
 rw[<-dU];clear dU
 go_upto_region 25 with(first|(go_at_call 41;refine(Ce _).mono ?_;rintro e w2 ⟨r,rfl,r1,r2,rfl⟩)|(go_at_call 46;refine HU.out.mono ?_;rintro e w3 ⟨rfl,Pq⟩))
 obtain⟨X',P_,Mw⟩:=Pq;have Ct:=Mw.1.at Gd.out (fun e=>(Rz.out _ e).ne Gd.out (by decide) rfl);have Lr:=Mw.1.at Mq.out (fun e=>(Rz.out _ e).ne Mq.out (by decide) rfl);obtain⟨d0,d1,d2,d3⟩:=aZ Ct;have yX:Hid (eU w3 (.agg #[.string (aR g.1),Z uo un uc,Z ro rn rc,I V g.2.2.2]) g d):=HM.out.q Mw.1 Rz.out;have Bl:Hid (Ya w w3 (P 0) X):=Oj qQ.out ⟨X',P_,Mw⟩
 have hlen:rn=g.2.2.1.length:=by
  obtain⟨ao,cc,e,-⟩:=HS.out;simp only[Value.slice.injEq]at e;rw[e.2.1,List.length_reverse]
 have jD:Hid (w3.heap[w.heap.size+1+1]?=M (C #[.string ⟨#[]⟩,Z O 0 0,Z O 0 0,I V 0] 36 (0,0))):=Lr;clear P_ Mw Ct Rz HM qQ Gd Mq HU HS HX c0 c1 c2 c3 a0 a1 a2 a3 a4;have e0:w3.drew.cell? ⟨w.heap.size,0,O⟩=M (.string (aR g.1)):=d0;have e1:w3.drew.cell? ⟨w.heap.size,1,O⟩=M (Z uo un uc):=d1;have e2:w3.drew.cell? ⟨w.heap.size,2,O⟩=M (Z ro rn rc):=d2;have e3:w3.drew.cell? ⟨w.heap.size,3,O⟩=M (I V g.2.2.2):=d3;by_cases hz:g.2.2.1=[]
 ·have hq:nD g d=(g,8):=by unfold nD;rw[if_pos hz]
  have hu0:rn=0:=by rw[hlen,hz];rfl
  have Lx:Hid (∀pos,dL g 4 pos m S d=g):=fun pos=>by unfold dL;simp[hq]
  have Ma:Hid (∀pos,eT g 4 pos m S d=8):=fun pos=>by unfold eT;simp[hq]
  clear hlen hq hz;subst hu0
  go_upto_region 26 with fail
  refine fZ jD.out ?_;intro z0 z1 z2 z3 zf;have hne:w.heap.size≠w.heap.size+1+1:=by omega
  go_region_held3 (fun w'=>w'.cell? ⟨w.heap.size,0,O⟩=M (.string (aR g.1))/\w'.cell? ⟨w.heap.size,1,O⟩=M (Z uo un uc)/\w'.cell? ⟨w.heap.size,2,O⟩=M (Z ro 0 rc)/\w'.cell? ⟨w.heap.size,3,O⟩=M (I V g.2.2.2))
   (first|(with_reducible exact⟨e0,e1,e2,e3⟩)|(exact⟨gD d0 hne _ _ _ _,gD d1 hne _ _ _ _,gD d2 hne _ _ _ _,gD d3 hne _ _ _ _⟩)) (fail)
  have qK:=iP jD.out (.string (aR g.1)) (Z uo un uc) (Z ro 0 rc) (I V g.2.2.2);have vW:=yX.out.sN jD.out (.string (aR g.1)) (Z uo un uc) (Z ro 0 rc) (I V g.2.2.2);have sM:=gW (yO.out 0) Co.out Bl.out (by omega) jD.out (.string (aR g.1)) (Z uo un uc) (Z ro 0 rc) (I V g.2.2.2);clear z0 z1 z2 z3 zf e0 e1 e2 e3 d0 d1 d2 d3 jD yX Bl;generalize ((((w3.setCell ⟨w.heap.size+1+1,0,O⟩ (.string (aR g.1))).setCell ⟨w.heap.size+1+1,1,O⟩ (Z uo un uc)).setCell ⟨w.heap.size+1+1,2,O⟩ (Z ro 0 rc)).setCell ⟨w.heap.size+1+1,3,O⟩ (I V g.2.2.2))=w6 at*;have Sb:=vW.aM (aJ.drew (aJ.refl w6));have Mk:=gM (yO.out 0) sM (aJ.drew (aJ.refl w6));obtain⟨q0,q1,q2,q3⟩:=aZ (show w6.drew.heap[w.heap.size+1+1]?=_ from qK);clear vW sM qK;generalize w6.drew=w7 at*
  go_wp2_with fail
  refine bodyPost_ret (v:= .tuple #[I V (E 0),I V 8,.agg #[.string (aR g.1),Z uo un uc,Z ro 0 rc,I V g.2.2.2]]) (by simp[results,Tryz.results23,go_sem,q0,q1,q2,q3]) rfl ?_;exact⟨0,_,by rw[Ma.out],Mk,by rw[Lx.out];exact Sb⟩
 ·obtain⟨f,l,Yx⟩:=List.exists_cons_of_ne_nil hz;have hq:nD g d=(yN g d,0):=by unfold nD;rw[if_neg hz]
  have Lx:Hid (∀pos,dL g 4 pos m S d=yN g d):=fun pos=>by unfold dL;simp[hq]
  have Ma:Hid (∀pos,eT g 4 pos m S d=0):=fun pos=>by unfold eT;simp[hq]
  have hun:((rn:Int)==0)=false:=by
   rw[beq_eq_false_iff_ne,hlen,Yx];simp;omega
  have HUn:Hid (H K 47 #[.agg #[.string (aR g.1),Z uo un uc,Z ro rn rc,I V g.2.2.2],I V (d:Int)] w3 fun e w'=> ∃t1 a1 a2 a3 b1 b2 b3 dn,e=G (.agg #[.string t1,Z a1 a2 a3,Z b1 b2 b3,I V dn])/\eU w' (.agg #[.string t1,Z a1 a2 a3,Z b1 b2 b3,I V dn]) (yN g d) d/\aJ w3 w'):=by
   refine(RH yX.out Yx hd (by omega)).mono ?_;rintro e w' ⟨v',rfl,k1,k2⟩;obtain⟨su,sr,rfl,s1,s2⟩:=k1.form;obtain⟨x1,x2,x3,rfl⟩:=s1.form;obtain⟨y1,y2,y3,rfl⟩:=s2.form;exact⟨_,_,_,_,_,_,_,_,rfl,k1,k2⟩
  clear hlen hq hz Yx e0 e1 e2 e3 yX
  go_wp2_with (go_at_call 47;refine HUn.out.mono ?_;rintro e w5 ⟨t1,x1,x2,x3,y1,y2,y3,dn,rfl,Ux,dK⟩;refine fZ ((dK.block _ (aK jD.out)).trans jD.out) ?_;intro z0 z1 z2 z3 zf)
  have rG:=(dK.block _ (aK jD.out)).trans jD.out;have qK:=iP rG (.string t1) (Z x1 x2 x3) (Z y1 y2 y3) (I V dn);have vW:=Ux.sN rG (.string t1) (Z x1 x2 x3) (Z y1 y2 y3) (I V dn);have sM:=gW (yO.out 0) Co.out (gM (yO.out 0) Bl.out dK) (by omega) rG (.string t1) (Z x1 x2 x3) (Z y1 y2 y3) (I V dn);obtain⟨q0,q1,q2,q3⟩:=aZ qK;refine bodyPost_ret (v:= .tuple #[I V (E 0),I V 0,.agg #[.string t1,Z x1 x2 x3,Z y1 y2 y3,I V dn]]) (by simp[results,Tryz.results23,go_sem,q0,q1,q2,q3]) rfl ?_;exact⟨0,_,by rw[Ma.out],sM,by rw[Lx.out];exact vW⟩
theorem Ye {P:Int->F->(Nat->Prop)->Prop}{q:Int}(h0:Gl w ps)(hT:∀b,X b->lD w b)(hF:∀r,VK ps (P r))(hU:P 0 w X)(hE:E 0=0)(hm:eU w v g d)(b1:(g.1.length:Int)<=5000)(pQ: -9223372036854775808<=n)(oW:n<=9223372036854775807)(Xd:¬q=1)(xA:¬q=2)(hq3:¬q=3)(YB:¬q=4):
 H K 23 #[U (M ⟨qp,0,O⟩),v,.agg #[I V q,I V n,I V m,I V kk,.string S],I V (d:Int)] w fun e w'=>Yb w w' P E X d e g q m S:=by
 obtain⟨su,sr,rfl,h1,h2⟩:=hm.form;obtain⟨uo,un,uc,rfl⟩:=h1.form;obtain⟨ro,rn,rc,rfl⟩:=h2.form;have b2:=hm.d0;have gQ:=iX g.1;obtain⟨w1,dU⟩:∃w1,w1=((w.alloc (C #[.string (aR g.1),Z uo un uc,Z ro rn rc,I V g.2.2.2] 36)).alloc (C #[I V q,I V n,I V m,I V kk,.string S] 39)).alloc (C #[.string ⟨#[]⟩,Z O 0 0,Z O 0 0,I V 0] 36):=⟨_,rfl⟩
 have kT:w1.heap[w.heap.size]?=M (C #[.string (aR g.1),Z uo un uc,Z ro rn rc,I V g.2.2.2] 36 (0,0)):=by
  rw[dU];exact((aU _ _).block _ (by simp;omega)).trans (((aU _ _).block _ (by simp)).trans (heap_alloc_new w _))
 have bX:w1.heap[w.heap.size+1]?=M (C #[I V q,I V n,I V m,I V kk,.string S] 39 (0,0)):=by
  rw[dU];refine((aU _ _).block _ (by simp)).trans ?_;have:=heap_alloc_new (w.alloc (C #[.string (aR g.1),Z uo un uc,Z ro rn rc,I V g.2.2.2] 36)) (C #[I V q,I V n,I V m,I V kk,.string S] 39);rwa[World.size_alloc]at this
 have fP:w1.heap[w.heap.size+1+1]?=M (C #[.string ⟨#[]⟩,Z O 0 0,Z O 0 0,I V 0] 36 (0,0)):=by
  rw[dU];have:=heap_alloc_new ((w.alloc (C #[.string (aR g.1),Z uo un uc,Z ro rn rc,I V g.2.2.2] 36)).alloc (C #[I V q,I V n,I V m,I V kk,.string S] 39)) (C #[.string ⟨#[]⟩,Z O 0 0,Z O 0 0,I V 0] 36);rwa[World.size_alloc,World.size_alloc]at this
 have G1:aJ w w1:=by rw[dU];exact(((aJ.refl w).alloc _).alloc _).alloc _
 obtain⟨c0,c1,c2,c3⟩:=aZ kT;obtain⟨a0,a1,a2,a3,a4⟩:=kP bX;have Ce:=fun W=>tH (w:=W) pQ oW (show(0:Int)<=((aR g.1).size:Int) by omega) (by rw[gQ];omega)
 have Co:Hid (Gl w ps):=h0;have Rz:Hid (∀b,X b->lD w1 b):=fun b hb=>(hT b hb).aM G1
 have HM:Hid (eU w1 (.agg #[.string (aR g.1),Z uo un uc,Z ro rn rc,I V g.2.2.2]) g d):=hm.aM G1;have qQ:Hid (aJ w w1):=G1;have Gd:Hid (w1.heap[w.heap.size]?=M (C #[.string (aR g.1),Z uo un uc,Z ro rn rc,I V g.2.2.2] 36 (0,0))):=kT;have DK:Hid (w1.heap[w.heap.size+1]?=M (C #[I V q,I V n,I V m,I V kk,.string S] 39 (0,0))):=bX;have Mq:Hid (w1.heap[w.heap.size+1+1]?=M (C #[.string ⟨#[]⟩,Z O 0 0,Z O 0 0,I V 0] 36 (0,0))):=fP;have Lx:Hid (dL g q 0 m S d=g):=by show _=_;unfold dL;rw[if_neg Xd,if_neg xA,if_neg hq3,if_neg YB]
 have Ma:Hid (eT g q 0 m S d=0):=by show _=_;unfold eT;rw[if_neg Xd,if_neg xA,if_neg hq3,if_neg YB]
 have Bl:Hid (Ya w w1 (P 0) X):=⟨X,(hF 0).aM hU G1,Dk.bH G1⟩;have yX:=HM;have jD:=Mq;have p1:(q==1)=false:=by simpa using Xd
 have p2:(q==2)=false:=by simpa using xA
 have p3:(q==3)=false:=by simpa using hq3
 have p4:(q==4)=false:=by simpa using YB
 have yO:Hid (∀r,VK ps (P r)):=hF;clear hF h0 hT hU hm h1 h2 kT bX fP G1 b1 gQ Xd xA hq3 YB Rz HM Gd DK Mq;go_enter Tryz.func23,Tryz.ntmps23
 go_upto_region 1 with fail
 rw[<-dU];clear dU;have d0:=c0;have d1:=c1;have d2:=c2;have d3:=c3
 go_upto_region 3 with(go_at_call 41;refine(Ce _).mono ?_;rintro e w2 ⟨r,rfl,r1,r2,rfl⟩)
 go_upto_region 28 with fail
 refine fZ jD.out ?_;intro z0 z1 z2 z3 zf;have hne:w.heap.size≠w.heap.size+1+1:=by omega
 have e0:w2.drew.cell? ⟨w.heap.size,0,O⟩=M (.string (aR g.1)):=d0;have e1:w2.drew.cell? ⟨w.heap.size,1,O⟩=M (Z uo un uc):=d1;have e2:w2.drew.cell? ⟨w.heap.size,2,O⟩=M (Z ro rn rc):=d2;have e3:w2.drew.cell? ⟨w.heap.size,3,O⟩=M (I V g.2.2.2):=d3
 go_region_held3 (fun w'=>w'.cell? ⟨w.heap.size,0,O⟩=M (.string (aR g.1))/\w'.cell? ⟨w.heap.size,1,O⟩=M (Z uo un uc)/\w'.cell? ⟨w.heap.size,2,O⟩=M (Z ro rn rc)/\w'.cell? ⟨w.heap.size,3,O⟩=M (I V g.2.2.2))
  (first|(with_reducible exact⟨e0,e1,e2,e3⟩)|(exact⟨gD d0 hne _ _ _ _,gD d1 hne _ _ _ _,gD d2 hne _ _ _ _,gD d3 hne _ _ _ _⟩)) (fail)
 have qK:=iP jD.out (.string (aR g.1)) (Z uo un uc) (Z ro rn rc) (I V g.2.2.2);have vW:=yX.out.sN jD.out (.string (aR g.1)) (Z uo un uc) (Z ro rn rc) (I V g.2.2.2);have sM:=gW (yO.out 0) Co.out Bl.out (by omega) jD.out (.string (aR g.1)) (Z uo un uc) (Z ro rn rc) (I V g.2.2.2);clear z0 z1 z2 z3 zf e0 e1 e2 e3 d0 d1 d2 d3 jD yX Bl;generalize ((((w2.setCell ⟨w.heap.size+1+1,0,O⟩ (.string (aR g.1))).setCell ⟨w.heap.size+1+1,1,O⟩ (Z uo un uc)).setCell ⟨w.heap.size+1+1,2,O⟩ (Z ro rn rc)).setCell ⟨w.heap.size+1+1,3,O⟩ (I V g.2.2.2))=w6 at*;have Sb:=vW.aM (aJ.drew (aJ.refl w6));have Mk:=gM (yO.out 0) sM (aJ.drew (aJ.refl w6));obtain⟨q0,q1,q2,q3⟩:=aZ (show w6.drew.heap[w.heap.size+1+1]?=_ from qK);clear vW sM qK;generalize w6.drew=w7 at*
 go_wp2_with fail
 refine bodyPost_ret (v:= .tuple #[I V 0,I V 0,.agg #[.string (aR g.1),Z uo un uc,Z ro rn rc,I V g.2.2.2]]) (by simp[results,Tryz.results23,go_sem,q0,q1,q2,q3]) rfl ?_;exact⟨0,_,by rw[Ma.out,hE],Mk,by rw[Lx.out];exact Sb⟩
end Go.Proofs.YtfplgfodoiiobaaGreatDoor
