/- KwG, KwH (joined). -/
import Derived.Test.YtfplgfodoiiobaaGreatDoorJ43
open Option renaming none→O,some→M
open Go.Value renaming int→I,slice→Z,pointer→U
open Go.IntKind renaming i64→V
open Go.Obj renaming cells→C
open Go.Ending renaming returned→G
open Go renaming World→F,Value→Y,Calls→H
open Go.Proofs.Tryz renaming prog→K
namespace Go.Proofs.YtfplgfodoiiobaaGreatDoor
set_option maxHeartbeats 2000000
set_option maxRecDepth 100000
open Go.RowKit
variable {w W:F}{ps:Nat->Addr}{g:Gm}{X:Nat->Prop}{qp d k R:Nat}{v x y z u:Y}{n m kk:Int}{S:ByteArray}
def iZ (g:Gm)(kind pos m:Int)(S:ByteArray)(d:Nat):Gm:=if kind=1 then (uT g pos S d).1 else if kind=2 then (Cr g pos m d).1 else if kind=3 then (sU g d).1 else if kind=4 then (uH g d).1 else g
def Fq (w w':F)(ps:Nat->Addr)(qp d:Nat)(X:Nat->Prop)(k:Nat)(e:Ending)(g:Gm)(kind m:Int)(S:ByteArray):Prop:=
 ∃pos c v',e=G (.tuple #[I V c,I V c,v'])/\uU w w' ps qp d X (iZ g kind pos m S d) (k+1)/\eZ w' v' (iZ g kind pos m S d) d
theorem nD {b:Nat}{s:Y}(h:w.heap[b]?=M (C #[x,y,z,u,s] 39 (0,0))):w.cell? ⟨b,0,O⟩=M x/\w.cell? ⟨b,1,O⟩=M y/\w.cell? ⟨b,2,O⟩=M z/\w.cell? ⟨b,3,O⟩=M u/\w.cell? ⟨b,4,O⟩=M s:=by simp[World.cell?,h]
theorem Gl.off {w':F}{aQ:Array Y}{f:Nat×Nat}(h:Gl w ps)(hF:Fr w w' (fun b=>b=R))(hR:w.heap[R]?=M (C aQ 36 f))(hp:∀k,k<5->(ps k).block≠R):Gl w' ps:=
 ⟨h.sM.fr hF (fun b c hb e=>aW hb hR (by decide) e),fun k hk=>by obtain⟨c,t,hc,ht⟩:=h.box k hk;exact⟨c,t,hF.at hc (hp k hk),ht⟩,hF.at h.QI (fun e=>aW h.QI hR (by decide) e),hF.at h.tab (fun e=>aW h.tab hR (by decide) e)⟩
theorem Gl.lt (h:Gl w ps):∀k,k<5->(ps k).block<w.heap.size:=fun k hk=>by
 obtain⟨c,t,hc,-⟩:=h.box k hk;exact aL hc
theorem qM.off {w':F}{aQ:Array Y}{f:Nat×Nat}(h:qM w ps qp d g k X)(hF:Fr w w' (fun b=>b=R))(hR:w.heap[R]?=M (C aQ 36 f))(hp:∀k,k<5->(ps k).block≠R):qM w' ps qp d g k X:=by
 obtain⟨h1,s,fs,m,t,h2,h3⟩:=h;refine⟨h1.off hF hR hp,s,fs,m,t,h2.WT hF ?_ ?_,h3⟩
 ·rintro b rfl;exact Ct.of hR (by decide) (by decide) (by decide) (by decide)
 ·rintro b hb rfl;exact(h2.ty hb).ne hR (by decide) rfl
theorem dh {W':F}(h:Fr w W X)(hF:Fr W W' (fun b=>b=R))(hR:w.heap.size<=R):Fr w W' X:=⟨Nat.le_trans h.1 hF.1,fun b hb hx=>(hF.2 b (Nat.lt_of_lt_of_le hb h.1) (fun e=>by omega)).trans (h.2 b hb hx)⟩
theorem fr4 (W:F)(g:Nat)(a b c d:Y):Fr W ((((W.setCell ⟨g,0,O⟩ a).setCell ⟨g,1,O⟩ b).setCell ⟨g,2,O⟩ c).setCell ⟨g,3,O⟩ d) (fun b=>b=g):=(((Fr.set W ⟨g,0,O⟩ a).trans (Fr.set _ ⟨g,1,O⟩ b)).trans (Fr.set _ ⟨g,2,O⟩ c)).trans (Fr.set _ ⟨g,3,O⟩ d)
theorem eZ.tJ {dd:Nat}(h:eZ w v g dd)(hb:w.heap[R]?=M (C #[x,y,z,u] 36 (0,0)))(a b c d:Y):eZ ((((w.setCell ⟨R,0,O⟩ a).setCell ⟨R,1,O⟩ b).setCell ⟨R,2,O⟩ c).setCell ⟨R,3,O⟩ d) v g dd:=by
 obtain⟨su,sr,e,h1,h2⟩:=h.form;exact⟨⟨su,sr,e,xI h1 hb a b c d,xI h2 hb a b c d⟩,h.ul,h.rl,h.d0,h.d1⟩
theorem fZ {b i:Nat}(h:W.cell? ⟨b,i,O⟩=M v)(hb:b≠R)(x y z u:Y):((((W.setCell ⟨R,0,O⟩ x).setCell ⟨R,1,O⟩ y).setCell ⟨R,2,O⟩ z).setCell ⟨R,3,O⟩ u).drew.cell? ⟨b,i,O⟩=M v:=by
 have hF:=fr4 W R x y z u;have:=hF.2 b (World.block_lt_of_cell? _ _ h) hb;exact(World.cell?_of_block (a:=⟨b,i,O⟩) this).trans h
theorem fI (hG:Gl w ps)(h:uU w W ps qp d X g k)(hR:w.heap.size<=R)(hb:W.heap[R]?=M (C #[x,y,z,u] 36 (0,0)))(a b c e:Y):uU w ((((W.setCell ⟨R,0,O⟩ a).setCell ⟨R,1,O⟩ b).setCell ⟨R,2,O⟩ c).setCell ⟨R,3,O⟩ e) ps qp d X g k:=by
 obtain⟨X',h1,h2⟩:=h;have hF:=fr4 W R a b c e;refine⟨X',h1.off hF hb (fun k hk e=>by have:=hG.lt k hk;omega),⟨dh h2.1 hF hR,⟨h2.2.1.1,h2.2.1.2.1,h2.2.1.2.2⟩,h2.2.2⟩⟩
theorem Lh {w1:F}(hg:aK w w1)(h:uU w1 W ps qp d X g k):uU w W ps qp d X g k:=by
 obtain⟨X',h1,h2⟩:=h;exact⟨X',h1,(Dk.bI hg).trans h2⟩
theorem eU {w1:F}(h:uU w w1 ps qp d X g k)(hg:aK w1 W):uU w W ps qp d X g k:=by
 obtain⟨X',h1,h2⟩:=h;exact⟨X',h1.aM hg,h2.aM hg⟩
theorem RX (h:qM w ps qp d g k X)(hm:eZ w v g d)(hk:k<=400)(hd:d<=50)(xO: -9223372036854775808<=n)(uY:n<=9223372036854775807):
 H K 23 #[U (M ⟨qp,0,O⟩),v,.agg #[I V 3,I V n,I V m,I V kk,.string S],I V (d:Int)] w fun e w'=>Fq w w' ps qp d X k e g 3 m S:=by
 obtain⟨su,sr,rfl,h1,h2⟩:=hm.form;obtain⟨uo,un,uc,rfl⟩:=h1.form;obtain⟨ro,rn,rc,rfl⟩:=h2.form;obtain⟨b1,b2,b3,-,-⟩:=h.gm;have iU:=lC g.1;obtain⟨w1,dU⟩:∃w1,w1=((w.alloc (C #[.string (aT g.1),Z uo un uc,Z ro rn rc,I V g.2.2.2] 36)).alloc (C #[I V 3,I V n,I V m,I V kk,.string S] 39)).alloc (C #[.string ⟨#[]⟩,Z O 0 0,Z O 0 0,I V 0] 36):=⟨_,rfl⟩
 have lG:w1.heap[w.heap.size]?=M (C #[.string (aT g.1),Z uo un uc,Z ro rn rc,I V g.2.2.2] 36 (0,0)):=by
  rw[dU];exact((aU _ _).block _ (by simp;omega)).trans (((aU _ _).block _ (by simp)).trans (heap_alloc_new w _))
 have bX:w1.heap[w.heap.size+1]?=M (C #[I V 3,I V n,I V m,I V kk,.string S] 39 (0,0)):=by
  rw[dU];refine((aU _ _).block _ (by simp)).trans ?_;have:=heap_alloc_new (w.alloc (C #[.string (aT g.1),Z uo un uc,Z ro rn rc,I V g.2.2.2] 36)) (C #[I V 3,I V n,I V m,I V kk,.string S] 39);rwa[World.size_alloc]at this
 have fG:w1.heap[w.heap.size+1+1]?=M (C #[.string ⟨#[]⟩,Z O 0 0,Z O 0 0,I V 0] 36 (0,0)):=by
  rw[dU];have:=heap_alloc_new ((w.alloc (C #[.string (aT g.1),Z uo un uc,Z ro rn rc,I V g.2.2.2] 36)).alloc (C #[I V 3,I V n,I V m,I V kk,.string S] 39)) (C #[.string ⟨#[]⟩,Z O 0 0,Z O 0 0,I V 0] 36);rwa[World.size_alloc,World.size_alloc]at this
 have G1:aK w w1:=by rw[dU];exact(((aK.refl w).alloc _).alloc _).alloc _
 obtain⟨c0,c1,c2,c3⟩:=bC lG;obtain⟨a0,a1,a2,a3,a4⟩:=nD bX;have Av:=fun W=>rU (w:=W) xO uY (show(0:Int)<=((aT g.1).size:Int) by omega) (by rw[iU];omega)
 have HU:Hid (H K 29 #[U (M ⟨qp,0,O⟩)] w1 fun e w'=>e=G (I V (sU g d).2)/\uU w1 w' ps qp d X (sU g d).1 (k+1)):=au (h.aM G1) hk;have Be:Hid (Gl w ps):=h.1;have Pq:Hid (∀b,X b->Qi w1 b):=fun b hb=>(h.aM G1).ty hb
 have HM:Hid (eZ w1 (.agg #[.string (aT g.1),Z uo un uc,Z ro rn rc,I V g.2.2.2]) g d):=hm.aM G1;have pW:Hid (aK w w1):=G1;have HX:Hid (∀b,X b->b<w.heap.size):=fun b hb=>(h.ty hb).lt
 have HS:Hid (iJ w (Z uo un uc) g.2.1.reverse):=h1;have El:Hid (w1.heap[w.heap.size]?=M (C #[.string (aT g.1),Z uo un uc,Z ro rn rc,I V g.2.2.2] 36 (0,0))):=lG;have Jt:Hid (w1.heap[w.heap.size+1+1]?=M (C #[.string ⟨#[]⟩,Z O 0 0,Z O 0 0,I V 0] 36 (0,0))):=fG;clear h hm h1 h2 lG bX fG G1 b1 iU;go_enter Tryz.func23,Tryz.ntmps23
 go_upto_region 1 with fail
 rw[<-dU];clear dU
 go_upto_region 20 with(first|(go_at_call 41;refine(Av _).mono ?_;rintro e w2 ⟨r,rfl,r1,r2,rfl⟩)|(go_at_call 29;refine HU.out.mono ?_;rintro e w3 ⟨rfl,Na⟩))
 obtain⟨X',dm,Jw⟩:=Na;have Bj:=Jw.1.at El.out (fun e=>(Pq.out _ e).ne El.out (by decide) rfl);have Jm:=Jw.1.at Jt.out (fun e=>(Pq.out _ e).ne Jt.out (by decide) rfl);obtain⟨d0,d1,d2,d3⟩:=bC Bj;have yI:Hid (eZ w3 (.agg #[.string (aT g.1),Z uo un uc,Z ro rn rc,I V g.2.2.2]) g d):=HM.out.q Jw.1 Pq.out;have uI:Hid (uU w w3 ps qp d X (sU g d).1 (k+1)):=Lh pW.out ⟨X',dm,Jw⟩
 have hlen:un=g.2.1.length:=by
  obtain⟨ao,cc,e,-⟩:=HS.out;simp only[Value.slice.injEq]at e;rw[e.2.1,List.length_reverse]
 have iT:Hid (w3.heap[w.heap.size+1+1]?=M (C #[.string ⟨#[]⟩,Z O 0 0,Z O 0 0,I V 0] 36 (0,0))):=Jm;clear dm Jw Bj Pq HM pW El Jt HU HS HX c0 c1 c2 c3 a0 a1 a2 a3 a4;have e0:w3.drew.cell? ⟨w.heap.size,0,O⟩=M (.string (aT g.1)):=d0;have e1:w3.drew.cell? ⟨w.heap.size,1,O⟩=M (Z uo un uc):=d1;have e2:w3.drew.cell? ⟨w.heap.size,2,O⟩=M (Z ro rn rc):=d2;have e3:w3.drew.cell? ⟨w.heap.size,3,O⟩=M (I V g.2.2.2):=d3;by_cases hz:g.2.1=[]
 ·have hq:sU g d=(g,8):=by unfold sU;rw[if_pos hz]
  have hu0:un=0:=by rw[hlen,hz];rfl
  have uW:Hid (∀pos,iZ g 3 pos m S d=g):=fun pos=>by unfold iZ;simp[hq]
  simp only[hq]at uI ⊢;clear hlen hq hz;subst hu0
  go_upto_region 21 with fail
  refine fT iT.out ?_;intro z0 z1 z2 z3 zf;have hne:w.heap.size≠w.heap.size+1+1:=by omega
  go_region_held3 (fun w'=>w'.cell? ⟨w.heap.size,0,O⟩=M (.string (aT g.1))/\w'.cell? ⟨w.heap.size,1,O⟩=M (Z uo 0 uc)/\w'.cell? ⟨w.heap.size,2,O⟩=M (Z ro rn rc)/\w'.cell? ⟨w.heap.size,3,O⟩=M (I V g.2.2.2))
   (first|(with_reducible exact⟨e0,e1,e2,e3⟩)|(exact⟨fZ d0 hne _ _ _ _,fZ d1 hne _ _ _ _,fZ d2 hne _ _ _ _,fZ d3 hne _ _ _ _⟩)) (fail)
  have pI:=iG iT.out (.string (aT g.1)) (Z uo 0 uc) (Z ro rn rc) (I V g.2.2.2);have uV:=yI.out.tJ iT.out (.string (aT g.1)) (Z uo 0 uc) (Z ro rn rc) (I V g.2.2.2);have rE:=fI Be.out uI.out (by omega) iT.out (.string (aT g.1)) (Z uo 0 uc) (Z ro rn rc) (I V g.2.2.2);clear z0 z1 z2 z3 zf e0 e1 e2 e3 d0 d1 d2 d3 iT yI uI;generalize ((((w3.setCell ⟨w.heap.size+1+1,0,O⟩ (.string (aT g.1))).setCell ⟨w.heap.size+1+1,1,O⟩ (Z uo 0 uc)).setCell ⟨w.heap.size+1+1,2,O⟩ (Z ro rn rc)).setCell ⟨w.heap.size+1+1,3,O⟩ (I V g.2.2.2))=w6 at*;have Pt:=uV.aM (aK.drew (aK.refl w6));have Js:=eU rE (aK.drew (aK.refl w6));obtain⟨q0,q1,q2,q3⟩:=bC (show w6.drew.heap[w.heap.size+1+1]?=_ from pI);clear uV rE pI;generalize w6.drew=w7 at*
  go_wp2_with fail
  refine bodyPost_ret (v:= .tuple #[I V 8,I V 8,.agg #[.string (aT g.1),Z uo 0 uc,Z ro rn rc,I V g.2.2.2]]) (by simp[results,Tryz.results23,go_sem,q0,q1,q2,q3]) rfl ?_;exact⟨0,8,_,rfl,by rw[uW.out];exact Js,by rw[uW.out];exact Pt⟩
 ·obtain⟨f,l,Ur⟩:=List.exists_cons_of_ne_nil hz;have hq:sU g d=(qL g d,0):=by unfold sU;rw[if_neg hz]
  have uW:Hid (∀pos,iZ g 3 pos m S d=qL g d):=fun pos=>by unfold iZ;simp[hq]
  have hun:((un:Int)==0)=false:=by
   rw[beq_eq_false_iff_ne,hlen,Ur];simp;omega
  have E_:Hid (H K 45 #[.agg #[.string (aT g.1),Z uo un uc,Z ro rn rc,I V g.2.2.2],I V (d:Int)] w3 fun e w'=> ∃t1 a1 a2 a3 b1 b2 b3 dn,e=G (.agg #[.string t1,Z a1 a2 a3,Z b1 b2 b3,I V dn])/\eZ w' (.agg #[.string t1,Z a1 a2 a3,Z b1 b2 b3,I V dn]) (qL g d) d/\aK w3 w'):=by
   refine(JZ yI.out Ur hd (by omega)).mono ?_;rintro e w' ⟨v',rfl,k1,k2⟩;obtain⟨su,sr,rfl,s1,s2⟩:=k1.form;obtain⟨x1,x2,x3,rfl⟩:=s1.form;obtain⟨y1,y2,y3,rfl⟩:=s2.form;exact⟨_,_,_,_,_,_,_,_,rfl,k1,k2⟩
  simp only[hq]at uI ⊢;clear hlen hq hz Ur e0 e1 e2 e3 yI
  go_wp2_with (go_at_call 45;refine E_.out.mono ?_;rintro e w5 ⟨t1,x1,x2,x3,y1,y2,y3,dn,rfl,Rj,dY⟩;refine fT ((dY.block _ (aL iT.out)).trans iT.out) ?_;intro z0 z1 z2 z3 zf)
  have qK:=(dY.block _ (aL iT.out)).trans iT.out;have pI:=iG qK (.string t1) (Z x1 x2 x3) (Z y1 y2 y3) (I V dn);have uV:=Rj.tJ qK (.string t1) (Z x1 x2 x3) (Z y1 y2 y3) (I V dn);have rE:=fI Be.out (eU uI.out dY) (by omega) qK (.string t1) (Z x1 x2 x3) (Z y1 y2 y3) (I V dn);obtain⟨q0,q1,q2,q3⟩:=bC pI;refine bodyPost_ret (v:= .tuple #[I V 0,I V 0,.agg #[.string t1,Z x1 x2 x3,Z y1 y2 y3,I V dn]]) (by simp[results,Tryz.results23,go_sem,q0,q1,q2,q3]) rfl ?_;exact⟨0,0,_,rfl,by rw[uW.out];exact rE,by rw[uW.out];exact uV⟩
theorem RY (h:qM w ps qp d g k X)(hm:eZ w v g d)(hk:k<=400)(hd:d<=50)(xO: -9223372036854775808<=n)(uY:n<=9223372036854775807):
 H K 23 #[U (M ⟨qp,0,O⟩),v,.agg #[I V 4,I V n,I V m,I V kk,.string S],I V (d:Int)] w fun e w'=>Fq w w' ps qp d X k e g 4 m S:=by
 obtain⟨su,sr,rfl,h1,h2⟩:=hm.form;obtain⟨uo,un,uc,rfl⟩:=h1.form;obtain⟨ro,rn,rc,rfl⟩:=h2.form;obtain⟨b1,b2,b3,-,-⟩:=h.gm;have iU:=lC g.1;obtain⟨w1,dU⟩:∃w1,w1=((w.alloc (C #[.string (aT g.1),Z uo un uc,Z ro rn rc,I V g.2.2.2] 36)).alloc (C #[I V 4,I V n,I V m,I V kk,.string S] 39)).alloc (C #[.string ⟨#[]⟩,Z O 0 0,Z O 0 0,I V 0] 36):=⟨_,rfl⟩
 have lG:w1.heap[w.heap.size]?=M (C #[.string (aT g.1),Z uo un uc,Z ro rn rc,I V g.2.2.2] 36 (0,0)):=by
  rw[dU];exact((aU _ _).block _ (by simp;omega)).trans (((aU _ _).block _ (by simp)).trans (heap_alloc_new w _))
 have bX:w1.heap[w.heap.size+1]?=M (C #[I V 4,I V n,I V m,I V kk,.string S] 39 (0,0)):=by
  rw[dU];refine((aU _ _).block _ (by simp)).trans ?_;have:=heap_alloc_new (w.alloc (C #[.string (aT g.1),Z uo un uc,Z ro rn rc,I V g.2.2.2] 36)) (C #[I V 4,I V n,I V m,I V kk,.string S] 39);rwa[World.size_alloc]at this
 have fG:w1.heap[w.heap.size+1+1]?=M (C #[.string ⟨#[]⟩,Z O 0 0,Z O 0 0,I V 0] 36 (0,0)):=by
  rw[dU];have:=heap_alloc_new ((w.alloc (C #[.string (aT g.1),Z uo un uc,Z ro rn rc,I V g.2.2.2] 36)).alloc (C #[I V 4,I V n,I V m,I V kk,.string S] 39)) (C #[.string ⟨#[]⟩,Z O 0 0,Z O 0 0,I V 0] 36);rwa[World.size_alloc,World.size_alloc]at this
 have G1:aK w w1:=by rw[dU];exact(((aK.refl w).alloc _).alloc _).alloc _
 obtain⟨c0,c1,c2,c3⟩:=bC lG;obtain⟨a0,a1,a2,a3,a4⟩:=nD bX;have Av:=fun W=>rU (w:=W) xO uY (show(0:Int)<=((aT g.1).size:Int) by omega) (by rw[iU];omega)
 have HU:Hid (H K 46 #[U (M ⟨qp,0,O⟩)] w1 fun e w'=>e=G (I V (uH g d).2)/\uU w1 w' ps qp d X (uH g d).1 (k+1)):=s_redo (h.aM G1) hk;have Be:Hid (Gl w ps):=h.1;have Pq:Hid (∀b,X b->Qi w1 b):=fun b hb=>(h.aM G1).ty hb
 have HM:Hid (eZ w1 (.agg #[.string (aT g.1),Z uo un uc,Z ro rn rc,I V g.2.2.2]) g d):=hm.aM G1;have pW:Hid (aK w w1):=G1;have HX:Hid (∀b,X b->b<w.heap.size):=fun b hb=>(h.ty hb).lt
 have HS:Hid (iJ w (Z ro rn rc) g.2.2.1.reverse):=h2;have El:Hid (w1.heap[w.heap.size]?=M (C #[.string (aT g.1),Z uo un uc,Z ro rn rc,I V g.2.2.2] 36 (0,0))):=lG;have Jt:Hid (w1.heap[w.heap.size+1+1]?=M (C #[.string ⟨#[]⟩,Z O 0 0,Z O 0 0,I V 0] 36 (0,0))):=fG;clear h hm h1 h2 lG bX fG G1 b1 iU;go_enter Tryz.func23,Tryz.ntmps23
 go_upto_region 1 with fail
 rw[<-dU];clear dU
 go_upto_region 25 with(first|(go_at_call 41;refine(Av _).mono ?_;rintro e w2 ⟨r,rfl,r1,r2,rfl⟩)|(go_at_call 46;refine HU.out.mono ?_;rintro e w3 ⟨rfl,Na⟩))
 obtain⟨X',dm,Jw⟩:=Na;have Bj:=Jw.1.at El.out (fun e=>(Pq.out _ e).ne El.out (by decide) rfl);have Jm:=Jw.1.at Jt.out (fun e=>(Pq.out _ e).ne Jt.out (by decide) rfl);obtain⟨d0,d1,d2,d3⟩:=bC Bj;have yI:Hid (eZ w3 (.agg #[.string (aT g.1),Z uo un uc,Z ro rn rc,I V g.2.2.2]) g d):=HM.out.q Jw.1 Pq.out;have uI:Hid (uU w w3 ps qp d X (uH g d).1 (k+1)):=Lh pW.out ⟨X',dm,Jw⟩
 have hlen:rn=g.2.2.1.length:=by
  obtain⟨ao,cc,e,-⟩:=HS.out;simp only[Value.slice.injEq]at e;rw[e.2.1,List.length_reverse]
 have iT:Hid (w3.heap[w.heap.size+1+1]?=M (C #[.string ⟨#[]⟩,Z O 0 0,Z O 0 0,I V 0] 36 (0,0))):=Jm;clear dm Jw Bj Pq HM pW El Jt HU HS HX c0 c1 c2 c3 a0 a1 a2 a3 a4;have e0:w3.drew.cell? ⟨w.heap.size,0,O⟩=M (.string (aT g.1)):=d0;have e1:w3.drew.cell? ⟨w.heap.size,1,O⟩=M (Z uo un uc):=d1;have e2:w3.drew.cell? ⟨w.heap.size,2,O⟩=M (Z ro rn rc):=d2;have e3:w3.drew.cell? ⟨w.heap.size,3,O⟩=M (I V g.2.2.2):=d3;by_cases hz:g.2.2.1=[]
 ·have hq:uH g d=(g,8):=by unfold uH;rw[if_pos hz]
  have hu0:rn=0:=by rw[hlen,hz];rfl
  have uW:Hid (∀pos,iZ g 4 pos m S d=g):=fun pos=>by unfold iZ;simp[hq]
  simp only[hq]at uI ⊢;clear hlen hq hz;subst hu0
  go_upto_region 26 with fail
  refine fT iT.out ?_;intro z0 z1 z2 z3 zf;have hne:w.heap.size≠w.heap.size+1+1:=by omega
  go_region_held3 (fun w'=>w'.cell? ⟨w.heap.size,0,O⟩=M (.string (aT g.1))/\w'.cell? ⟨w.heap.size,1,O⟩=M (Z uo un uc)/\w'.cell? ⟨w.heap.size,2,O⟩=M (Z ro 0 rc)/\w'.cell? ⟨w.heap.size,3,O⟩=M (I V g.2.2.2))
   (first|(with_reducible exact⟨e0,e1,e2,e3⟩)|(exact⟨fZ d0 hne _ _ _ _,fZ d1 hne _ _ _ _,fZ d2 hne _ _ _ _,fZ d3 hne _ _ _ _⟩)) (fail)
  have pI:=iG iT.out (.string (aT g.1)) (Z uo un uc) (Z ro 0 rc) (I V g.2.2.2);have uV:=yI.out.tJ iT.out (.string (aT g.1)) (Z uo un uc) (Z ro 0 rc) (I V g.2.2.2);have rE:=fI Be.out uI.out (by omega) iT.out (.string (aT g.1)) (Z uo un uc) (Z ro 0 rc) (I V g.2.2.2);clear z0 z1 z2 z3 zf e0 e1 e2 e3 d0 d1 d2 d3 iT yI uI;generalize ((((w3.setCell ⟨w.heap.size+1+1,0,O⟩ (.string (aT g.1))).setCell ⟨w.heap.size+1+1,1,O⟩ (Z uo un uc)).setCell ⟨w.heap.size+1+1,2,O⟩ (Z ro 0 rc)).setCell ⟨w.heap.size+1+1,3,O⟩ (I V g.2.2.2))=w6 at*;have Pt:=uV.aM (aK.drew (aK.refl w6));have Js:=eU rE (aK.drew (aK.refl w6));obtain⟨q0,q1,q2,q3⟩:=bC (show w6.drew.heap[w.heap.size+1+1]?=_ from pI);clear uV rE pI;generalize w6.drew=w7 at*
  go_wp2_with fail
  refine bodyPost_ret (v:= .tuple #[I V 8,I V 8,.agg #[.string (aT g.1),Z uo un uc,Z ro 0 rc,I V g.2.2.2]]) (by simp[results,Tryz.results23,go_sem,q0,q1,q2,q3]) rfl ?_;exact⟨0,8,_,rfl,by rw[uW.out];exact Js,by rw[uW.out];exact Pt⟩
 ·obtain⟨f,l,Ur⟩:=List.exists_cons_of_ne_nil hz;have hq:uH g d=(xX g d,0):=by unfold uH;rw[if_neg hz]
  have uW:Hid (∀pos,iZ g 4 pos m S d=xX g d):=fun pos=>by unfold iZ;simp[hq]
  have hun:((rn:Int)==0)=false:=by
   rw[beq_eq_false_iff_ne,hlen,Ur];simp;omega
  have E_:Hid (H K 47 #[.agg #[.string (aT g.1),Z uo un uc,Z ro rn rc,I V g.2.2.2],I V (d:Int)] w3 fun e w'=> ∃t1 a1 a2 a3 b1 b2 b3 dn,e=G (.agg #[.string t1,Z a1 a2 a3,Z b1 b2 b3,I V dn])/\eZ w' (.agg #[.string t1,Z a1 a2 a3,Z b1 b2 b3,I V dn]) (xX g d) d/\aK w3 w'):=by
   refine(KA yI.out Ur hd (by omega)).mono ?_;rintro e w' ⟨v',rfl,k1,k2⟩;obtain⟨su,sr,rfl,s1,s2⟩:=k1.form;obtain⟨x1,x2,x3,rfl⟩:=s1.form;obtain⟨y1,y2,y3,rfl⟩:=s2.form;exact⟨_,_,_,_,_,_,_,_,rfl,k1,k2⟩
  simp only[hq]at uI ⊢;clear hlen hq hz Ur e0 e1 e2 e3 yI
  go_wp2_with (go_at_call 47;refine E_.out.mono ?_;rintro e w5 ⟨t1,x1,x2,x3,y1,y2,y3,dn,rfl,Rj,dY⟩;refine fT ((dY.block _ (aL iT.out)).trans iT.out) ?_;intro z0 z1 z2 z3 zf)
  have qK:=(dY.block _ (aL iT.out)).trans iT.out;have pI:=iG qK (.string t1) (Z x1 x2 x3) (Z y1 y2 y3) (I V dn);have uV:=Rj.tJ qK (.string t1) (Z x1 x2 x3) (Z y1 y2 y3) (I V dn);have rE:=fI Be.out (eU uI.out dY) (by omega) qK (.string t1) (Z x1 x2 x3) (Z y1 y2 y3) (I V dn);obtain⟨q0,q1,q2,q3⟩:=bC pI;refine bodyPost_ret (v:= .tuple #[I V 0,I V 0,.agg #[.string t1,Z x1 x2 x3,Z y1 y2 y3,I V dn]]) (by simp[results,Tryz.results23,go_sem,q0,q1,q2,q3]) rfl ?_;exact⟨0,0,_,rfl,by rw[uW.out];exact rE,by rw[uW.out];exact uV⟩
theorem RZ {q:Int}(h:qM w ps qp d g k X)(hm:eZ w v g d)(xO: -9223372036854775808<=n)(uY:n<=9223372036854775807)(XK:¬q=1)(zS:¬q=2)(hq3:¬q=3)(hq4:¬q=4):
 H K 23 #[U (M ⟨qp,0,O⟩),v,.agg #[I V q,I V n,I V m,I V kk,.string S],I V (d:Int)] w fun e w'=>Fq w w' ps qp d X k e g q m S:=by
 obtain⟨su,sr,rfl,h1,h2⟩:=hm.form;obtain⟨uo,un,uc,rfl⟩:=h1.form;obtain⟨ro,rn,rc,rfl⟩:=h2.form;obtain⟨b1,b2,b3,-,-⟩:=h.gm;have iU:=lC g.1;obtain⟨w1,dU⟩:∃w1,w1=((w.alloc (C #[.string (aT g.1),Z uo un uc,Z ro rn rc,I V g.2.2.2] 36)).alloc (C #[I V q,I V n,I V m,I V kk,.string S] 39)).alloc (C #[.string ⟨#[]⟩,Z O 0 0,Z O 0 0,I V 0] 36):=⟨_,rfl⟩
 have lG:w1.heap[w.heap.size]?=M (C #[.string (aT g.1),Z uo un uc,Z ro rn rc,I V g.2.2.2] 36 (0,0)):=by
  rw[dU];exact((aU _ _).block _ (by simp;omega)).trans (((aU _ _).block _ (by simp)).trans (heap_alloc_new w _))
 have bX:w1.heap[w.heap.size+1]?=M (C #[I V q,I V n,I V m,I V kk,.string S] 39 (0,0)):=by
  rw[dU];refine((aU _ _).block _ (by simp)).trans ?_;have:=heap_alloc_new (w.alloc (C #[.string (aT g.1),Z uo un uc,Z ro rn rc,I V g.2.2.2] 36)) (C #[I V q,I V n,I V m,I V kk,.string S] 39);rwa[World.size_alloc]at this
 have fG:w1.heap[w.heap.size+1+1]?=M (C #[.string ⟨#[]⟩,Z O 0 0,Z O 0 0,I V 0] 36 (0,0)):=by
  rw[dU];have:=heap_alloc_new ((w.alloc (C #[.string (aT g.1),Z uo un uc,Z ro rn rc,I V g.2.2.2] 36)).alloc (C #[I V q,I V n,I V m,I V kk,.string S] 39)) (C #[.string ⟨#[]⟩,Z O 0 0,Z O 0 0,I V 0] 36);rwa[World.size_alloc,World.size_alloc]at this
 have G1:aK w w1:=by rw[dU];exact(((aK.refl w).alloc _).alloc _).alloc _
 obtain⟨c0,c1,c2,c3⟩:=bC lG;obtain⟨a0,a1,a2,a3,a4⟩:=nD bX;have Av:=fun W=>rU (w:=W) xO uY (show(0:Int)<=((aT g.1).size:Int) by omega) (by rw[iU];omega)
 have Be:Hid (Gl w ps):=h.1;have Pq:Hid (∀b,X b->Qi w1 b):=fun b hb=>(h.aM G1).ty hb
 have HM:Hid (eZ w1 (.agg #[.string (aT g.1),Z uo un uc,Z ro rn rc,I V g.2.2.2]) g d):=hm.aM G1;have pW:Hid (aK w w1):=G1;have El:Hid (w1.heap[w.heap.size]?=M (C #[.string (aT g.1),Z uo un uc,Z ro rn rc,I V g.2.2.2] 36 (0,0))):=lG;have Xp:Hid (w1.heap[w.heap.size+1]?=M (C #[I V q,I V n,I V m,I V kk,.string S] 39 (0,0))):=bX;have Jt:Hid (w1.heap[w.heap.size+1+1]?=M (C #[.string ⟨#[]⟩,Z O 0 0,Z O 0 0,I V 0] 36 (0,0))):=fG;have uW:Hid (iZ g q 0 m S d=g):=by show _=_;unfold iZ;rw[if_neg XK,if_neg zS,if_neg hq3,if_neg hq4]
 have uI:Hid (uU w w1 ps qp d X g (k+1)):=⟨X,(h.aM G1).more (by omega),Dk.bI G1⟩;have yI:=HM;have iT:=Jt;have p1:(q==1)=false:=by simpa using XK
 have p2:(q==2)=false:=by simpa using zS
 have p3:(q==3)=false:=by simpa using hq3
 have p4:(q==4)=false:=by simpa using hq4
 clear h hm h1 h2 lG bX fG G1 b1 iU XK zS hq3 hq4 Pq HM El Xp Jt;go_enter Tryz.func23,Tryz.ntmps23
 go_upto_region 1 with fail
 rw[<-dU];clear dU;have d0:=c0;have d1:=c1;have d2:=c2;have d3:=c3
 go_upto_region 3 with(go_at_call 41;refine(Av _).mono ?_;rintro e w2 ⟨r,rfl,r1,r2,rfl⟩)
 go_upto_region 28 with fail
 refine fT iT.out ?_;intro z0 z1 z2 z3 zf;have hne:w.heap.size≠w.heap.size+1+1:=by omega
 have e0:w2.drew.cell? ⟨w.heap.size,0,O⟩=M (.string (aT g.1)):=d0;have e1:w2.drew.cell? ⟨w.heap.size,1,O⟩=M (Z uo un uc):=d1;have e2:w2.drew.cell? ⟨w.heap.size,2,O⟩=M (Z ro rn rc):=d2;have e3:w2.drew.cell? ⟨w.heap.size,3,O⟩=M (I V g.2.2.2):=d3
 go_region_held3 (fun w'=>w'.cell? ⟨w.heap.size,0,O⟩=M (.string (aT g.1))/\w'.cell? ⟨w.heap.size,1,O⟩=M (Z uo un uc)/\w'.cell? ⟨w.heap.size,2,O⟩=M (Z ro rn rc)/\w'.cell? ⟨w.heap.size,3,O⟩=M (I V g.2.2.2))
  (first|(with_reducible exact⟨e0,e1,e2,e3⟩)|(exact⟨fZ d0 hne _ _ _ _,fZ d1 hne _ _ _ _,fZ d2 hne _ _ _ _,fZ d3 hne _ _ _ _⟩)) (fail)
 have pI:=iG iT.out (.string (aT g.1)) (Z uo un uc) (Z ro rn rc) (I V g.2.2.2);have uV:=yI.out.tJ iT.out (.string (aT g.1)) (Z uo un uc) (Z ro rn rc) (I V g.2.2.2);have rE:=fI Be.out uI.out (by omega) iT.out (.string (aT g.1)) (Z uo un uc) (Z ro rn rc) (I V g.2.2.2);clear z0 z1 z2 z3 zf e0 e1 e2 e3 d0 d1 d2 d3 iT yI uI;generalize ((((w2.setCell ⟨w.heap.size+1+1,0,O⟩ (.string (aT g.1))).setCell ⟨w.heap.size+1+1,1,O⟩ (Z uo un uc)).setCell ⟨w.heap.size+1+1,2,O⟩ (Z ro rn rc)).setCell ⟨w.heap.size+1+1,3,O⟩ (I V g.2.2.2))=w6 at*;have Pt:=uV.aM (aK.drew (aK.refl w6));have Js:=eU rE (aK.drew (aK.refl w6));obtain⟨q0,q1,q2,q3⟩:=bC (show w6.drew.heap[w.heap.size+1+1]?=_ from pI);clear uV rE pI;generalize w6.drew=w7 at*
 go_wp2_with fail
 refine bodyPost_ret (v:= .tuple #[I V 0,I V 0,.agg #[.string (aT g.1),Z uo un uc,Z ro rn rc,I V g.2.2.2]]) (by simp[results,Tryz.results23,go_sem,q0,q1,q2,q3]) rfl ?_;exact⟨0,0,_,rfl,by rw[uW.out];exact Js,by rw[uW.out];exact Pt⟩
end Go.Proofs.YtfplgfodoiiobaaGreatDoor
