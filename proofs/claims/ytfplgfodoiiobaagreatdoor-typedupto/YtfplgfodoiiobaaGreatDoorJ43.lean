/- KwE, KwF, RfD, RpA, RfF, RpB, SwA (joined). -/
import Derived.Deep.CutBlock
import Derived.Test.YtfplgfodoiiobaaGreatDoorJ42
open Option renaming none→O,some→M
open Go.Value renaming int→I,slice→Z,pointer→U
open Go.IntKind renaming i64→V
open Go.Obj renaming cells→C
open Go.Ending renaming returned→G
open Go renaming World→F,Value→Y,Calls→H
open Go.Proofs.Tryz renaming prog→K
namespace Go.Proofs.YtfplgfodoiiobaaGreatDoor
set_option maxHeartbeats 2000000
set_option maxRecDepth 100000
open Go.RowKit
variable {w w':F}{m:bR}{b mb d B qp k rb:Nat}{g:Gm}{X:Nat->Prop}{r:Bo}{v:Y}{s:Sc}{fs:List bE}{aQ:Array Y}{f:Nat×Nat}
theorem JZ {f:List UInt8}{l:List (List UInt8)}(h:eZ w v g d)(hg:g.2.1=f::l)(hd:d<=50)(h9:g.2.2.2+1<=1000000):
 H K 45 #[v,I V (d:Int)] w fun e w'=> ∃v',e=G v'/\eZ w' v' (qL g d) d/\aK w w':=by
 obtain⟨su,sr,rfl,hu,hr⟩:=h.form;have d0:=h.d0;have al:=h.ul;have bl:=h.rl;have hA:iJ w su (f::l).reverse:=by rw[<-hg];exact hu
 have hB:iJ w sr g.2.2.1.reverse:=hr;have av:(f::l).reverse=l.reverse++ [f]:=by simp
 rw[av]at hA;rw[hg]at al;obtain⟨ao,uc,rfl,jv,Zl,MP⟩:=hA;obtain⟨ro,rn,rc,rfl⟩:=hB.form
 obtain⟨b,off,rfl,hc,yB⟩:∃b off,ao=M ⟨b,off,O⟩/\(∀(i:Nat) x,(l.reverse++ [f])[i]?=M x->w.cell? ⟨b,off+i,O⟩=M (.string (aT x)))/\∃aQ t,w.heap[b]?=M (C aQ 9 t):=by
  rcases MP with e|⟨b,off,e,hc,aQ,t,ht⟩
  ·simp at e
  ·exact⟨b,off,e,hc,aQ,t,ht⟩
 have Fp:=hc l.length f (by simp);have hlen:(l.reverse++ [f]).length=l.length+1:=by simp
 rw[hlen]at jv ⊢
 have HT:Hid (iJ w (Z (M ⟨b,off,O⟩) l.length uc) l.reverse):=by
  refine⟨_,uc,by rw[List.length_reverse],by rw[List.length_reverse];omega,(fun k=>by cases k),?_⟩;by_cases hz:l.reverse=[]
  ·exact Or.inl hz
  ·refine Or.inr ⟨b,off,rfl,fun i x hi=>hc i x ?_,yB⟩;rw[List.getElem?_append_left (List.getElem?_eq_some_iff.1 hi).1];exact hi
 obtain⟨n,hn⟩:∃n,n=l.length:=⟨_,rfl⟩;rw[<-hn]at HT Fp jv ⊢;have HN:Hid (n=l.length):=hn;have hn50:n<=50:=by simp only[List.length_cons]at al;omega
 have HL:Hid (l.length<=d):=by simp only[List.length_cons]at al;show _<=_;omega
 have HP:Hid (∀W,aK w W->H K 79 #[Z ro rn rc,.string (aT g.1),I V (d:Int)] W fun e w'=> ∃a b c,e=G (Z a b c)/\iJ w' (Z a b c) ((g.1::g.2.2.1).take d).reverse/\aK W w'):=fun W hW=>by
  have:=Cs (s:=g.1) (hB.aM hW) (by simpa using bl) hd;rw[List.reverse_reverse]at this;refine this.mono ?_;rintro e w' ⟨v',rfl,k1,k2⟩;obtain⟨a,b,c,rfl⟩:=k1.form;exact⟨a,b,c,rfl,k1,k2⟩
 obtain⟨dn,rR⟩:∃dn,dn=g.2.2.2:=⟨_,rfl⟩;rw[<-rR]at d0 h9 ⊢
 have HQ:Hid (qL g d=(f,l,(g.1::g.2.2.1).take d,dn+1)):=by
  show _=_;unfold qL;rw[hg,rR]
 clear hB h hu hr Zl MP hc yB hlen av al hn bl hg rR;obtain⟨w1,dU⟩:∃w1,w1=(w.alloc (C #[.string (aT g.1),Z (M ⟨b,off,O⟩) (n+1) uc,Z ro rn rc,I V dn] 36)).alloc (C #[.string ⟨#[]⟩,Z O 0 0,Z O 0 0,I V 0] 36):=⟨_,rfl⟩
 have lG:w1.heap[w.heap.size]?=M (C #[.string (aT g.1),Z (M ⟨b,off,O⟩) (n+1) uc,Z ro rn rc,I V dn] 36 (0,0)):=by
  rw[dU];exact(aU _ _).block _ (by simp)|>.trans (heap_alloc_new w _)
 have bX:w1.heap[w.heap.size+1]?=M (C #[.string ⟨#[]⟩,Z O 0 0,Z O 0 0,I V 0] 36 (0,0)):=by
  rw[dU];have:=heap_alloc_new (w.alloc (C #[.string (aT g.1),Z (M ⟨b,off,O⟩) (n+1) uc,Z ro rn rc,I V dn] 36)) (C #[.string ⟨#[]⟩,Z O 0 0,Z O 0 0,I V 0] 36);rwa[World.size_alloc]at this
 have G1:aK w w1:=by rw[dU];exact((aK.refl w).alloc _).alloc _
 have c4:=G1.cell Fp;have i1:(0:Int)<=(n:Int):=by omega
 have i3:(n:Int)<=(uc:Int):=by omega
 obtain⟨c0,c1,c2,c3⟩:=bC lG;have hbn:b≠w.heap.size+1:=by have:=World.block_lt_of_cell? _ _ Fp;simp only at this;omega
 clear Fp;go_enter Tryz.func45,Tryz.ntmps45
 go_upto_region 1 with fail
 rw[<-dU];clear dU
 go_upto_region 2 with fail
 obtain⟨un,hun⟩:∃un,un=n+1:=⟨_,rfl⟩;rw[<-hun]at c1;have i2:(n:Int)<(un:Int):=by omega
 clear hun;have HB:Hid (∀W,aK w1 W->W.heap[w.heap.size+1]?=M (C #[.string ⟨#[]⟩,Z O 0 0,Z O 0 0,I V 0] 36 (0,0))):=fun W hW=>(hW.block _ (aL bX)).trans bX
 have HG:Hid (∀W,aK w1 W->aK w W):=fun W hW=>G1.then hW
 clear lG bX G1;have e0:w1.drew.cell? ⟨w.heap.size,0,O⟩=M (.string (aT g.1)):=c0;have e1:w1.drew.cell? ⟨w.heap.size,1,O⟩=M (Z (M ⟨b,off,O⟩) un uc):=c1;have e2:w1.drew.cell? ⟨w.heap.size,2,O⟩=M (Z ro rn rc):=c2;have e3:w1.drew.cell? ⟨w.heap.size,3,O⟩=M (I V dn):=c3;have e4:w1.drew.cell? ⟨b,off+n,O⟩=M (.string (aT f)):=c4
 go_region_held3 (fun w'=>w'.cell? ⟨w.heap.size,0,O⟩=M (.string (aT g.1))/\w'.cell? ⟨w.heap.size,1,O⟩=M (Z (M ⟨b,off,O⟩) un uc)/\w'.cell? ⟨w.heap.size,2,O⟩=M (Z ro rn rc)/\w'.cell? ⟨w.heap.size,3,O⟩=M (I V dn)/\w'.cell? ⟨b,off+n,O⟩=M (.string (aT f)))
  (first|(with_reducible exact⟨e0,e1,e2,e3,e4⟩)|(with_reducible exact⟨y0,y1,y2,y3,y4⟩)|(simp[World.cell?_setCell_far,y0,y1,y2,y3,y4,hbn.symm];done))
  (first|(go_at_call 79;refine(HP.out _ (HG.out _ (aK.drew (aK.refl _)))).mono ?_;rintro e w5 ⟨x1,x2,x3,rfl,hsl,DR⟩;have dY:aK w1 w5:=aK.then (aK.drew (aK.refl _)) DR;have y0:=dY.cell c0;have y1:=dY.cell c1;have y2:=dY.cell c2;have y3:=dY.cell c3;have y4:=dY.cell c4;refine fT (HB.out _ dY) ?_;intro z0 z1 z2 z3 zf))
 have qK:=HB.out _ dY;have pI:=iG qK (.string (aT f)) (Z (M ⟨b,off,O⟩) n uc) (Z x1 x2 x3) (I V (IntKind.i64.wrap (dn+1)));have rE:=xI hsl qK (.string (aT f)) (Z (M ⟨b,off,O⟩) n uc) (Z x1 x2 x3) (I V (IntKind.i64.wrap (dn+1)));have ht6:=xI (HT.out.aM (HG.out _ dY)) qK (.string (aT f)) (Z (M ⟨b,off,O⟩) n uc) (Z x1 x2 x3) (I V (IntKind.i64.wrap (dn+1)));have hG6:=Ii (g:=w.heap.size+1) (HG.out _ dY) (by omega) (.string (aT f)) (Z (M ⟨b,off,O⟩) n uc) (Z x1 x2 x3) (I V (IntKind.i64.wrap (dn+1)));clear z0 z1 z2 z3 zf y0 y1 y2 y3 y4 e0 e1 e2 e3 e4 c0 c1 c2 c3 c4 hsl qK dY DR HB HG HP HT;generalize ((((w5.setCell ⟨w.heap.size+1,0,O⟩ (.string (aT f))).setCell ⟨w.heap.size+1,1,O⟩ (Z (M ⟨b,off,O⟩) n uc)).setCell ⟨w.heap.size+1,2,O⟩ (Z x1 x2 x3)).setCell ⟨w.heap.size+1,3,O⟩ (I V (IntKind.i64.wrap (dn+1))))=w6 at*;rw[show IntKind.i64.wrap (dn+1)=dn+1 from by rw[IntKind.wrap_i64];omega]at pI;obtain⟨q0,q1,q2,q3⟩:=bC pI
 go_wp2_with fail
 refine bodyPost_ret (v:= .agg #[.string (aT f),Z (M ⟨b,off,O⟩) n uc,Z x1 x2 x3,I V (dn+1)]) (by simp[results,Tryz.results45,go_sem,q0,q1,q2,q3]) rfl ?_;rw[HQ.out];refine⟨_,rfl,⟨⟨Z (M ⟨b,off,O⟩) n uc,Z x1 x2 x3,rfl,ht6,rE⟩,?_,?_,by simp only;omega,by simp only;omega⟩,hG6⟩
 ·simp only;exact HL.out
 ·simp only;rw[List.length_take];omega
theorem KA {f:List UInt8}{l:List (List UInt8)}(h:eZ w v g d)(hg:g.2.2.1=f::l)(hd:d<=50)(h9:g.2.2.2+1<=1000000):
 H K 47 #[v,I V (d:Int)] w fun e w'=> ∃v',e=G v'/\eZ w' v' (xX g d) d/\aK w w':=by
 obtain⟨su,sr,rfl,hu,hr⟩:=h.form;have d0:=h.d0;have al:=h.rl;have bl:=h.ul;have hA:iJ w sr (f::l).reverse:=by rw[<-hg];exact hr
 have hB:iJ w su g.2.1.reverse:=hu;have av:(f::l).reverse=l.reverse++ [f]:=by simp
 rw[av]at hA;rw[hg]at al;obtain⟨ao,uc,rfl,jv,Zl,MP⟩:=hA;obtain⟨ro,rn,rc,rfl⟩:=hB.form
 obtain⟨b,off,rfl,hc,yB⟩:∃b off,ao=M ⟨b,off,O⟩/\(∀(i:Nat) x,(l.reverse++ [f])[i]?=M x->w.cell? ⟨b,off+i,O⟩=M (.string (aT x)))/\∃aQ t,w.heap[b]?=M (C aQ 9 t):=by
  rcases MP with e|⟨b,off,e,hc,aQ,t,ht⟩
  ·simp at e
  ·exact⟨b,off,e,hc,aQ,t,ht⟩
 have Fp:=hc l.length f (by simp);have hlen:(l.reverse++ [f]).length=l.length+1:=by simp
 rw[hlen]at jv ⊢
 have HT:Hid (iJ w (Z (M ⟨b,off,O⟩) l.length uc) l.reverse):=by
  refine⟨_,uc,by rw[List.length_reverse],by rw[List.length_reverse];omega,(fun k=>by cases k),?_⟩;by_cases hz:l.reverse=[]
  ·exact Or.inl hz
  ·refine Or.inr ⟨b,off,rfl,fun i x hi=>hc i x ?_,yB⟩;rw[List.getElem?_append_left (List.getElem?_eq_some_iff.1 hi).1];exact hi
 obtain⟨n,hn⟩:∃n,n=l.length:=⟨_,rfl⟩;rw[<-hn]at HT Fp jv ⊢;have HN:Hid (n=l.length):=hn;have hn50:n<=50:=by simp only[List.length_cons]at al;omega
 have HL:Hid (l.length<=d):=by simp only[List.length_cons]at al;show _<=_;omega
 have HP:Hid (∀W,aK w W->H K 79 #[Z ro rn rc,.string (aT g.1),I V (d:Int)] W fun e w'=> ∃a b c,e=G (Z a b c)/\iJ w' (Z a b c) ((g.1::g.2.1).take d).reverse/\aK W w'):=fun W hW=>by
  have:=Cs (s:=g.1) (hB.aM hW) (by simpa using bl) hd;rw[List.reverse_reverse]at this;refine this.mono ?_;rintro e w' ⟨v',rfl,k1,k2⟩;obtain⟨a,b,c,rfl⟩:=k1.form;exact⟨a,b,c,rfl,k1,k2⟩
 obtain⟨dn,rR⟩:∃dn,dn=g.2.2.2:=⟨_,rfl⟩;rw[<-rR]at d0 h9 ⊢
 have HQ:Hid (xX g d=(f,(g.1::g.2.1).take d,l,dn+1)):=by
  show _=_;unfold xX;rw[hg,rR]
 clear hB h hu hr Zl MP hc yB hlen av al hn bl hg rR;obtain⟨w1,dU⟩:∃w1,w1=(w.alloc (C #[.string (aT g.1),Z ro rn rc,Z (M ⟨b,off,O⟩) (n+1) uc,I V dn] 36)).alloc (C #[.string ⟨#[]⟩,Z O 0 0,Z O 0 0,I V 0] 36):=⟨_,rfl⟩
 have lG:w1.heap[w.heap.size]?=M (C #[.string (aT g.1),Z ro rn rc,Z (M ⟨b,off,O⟩) (n+1) uc,I V dn] 36 (0,0)):=by
  rw[dU];exact(aU _ _).block _ (by simp)|>.trans (heap_alloc_new w _)
 have bX:w1.heap[w.heap.size+1]?=M (C #[.string ⟨#[]⟩,Z O 0 0,Z O 0 0,I V 0] 36 (0,0)):=by
  rw[dU];have:=heap_alloc_new (w.alloc (C #[.string (aT g.1),Z ro rn rc,Z (M ⟨b,off,O⟩) (n+1) uc,I V dn] 36)) (C #[.string ⟨#[]⟩,Z O 0 0,Z O 0 0,I V 0] 36);rwa[World.size_alloc]at this
 have G1:aK w w1:=by rw[dU];exact((aK.refl w).alloc _).alloc _
 have c4:=G1.cell Fp;have i1:(0:Int)<=(n:Int):=by omega
 have i3:(n:Int)<=(uc:Int):=by omega
 obtain⟨c0,c1,c2,c3⟩:=bC lG;have hbn:b≠w.heap.size+1:=by have:=World.block_lt_of_cell? _ _ Fp;simp only at this;omega
 clear Fp;go_enter Tryz.func47,Tryz.ntmps47
 go_upto_region 1 with fail
 rw[<-dU];clear dU
 go_upto_region 2 with fail
 obtain⟨un,hun⟩:∃un,un=n+1:=⟨_,rfl⟩;rw[<-hun]at c2;have i2:(n:Int)<(un:Int):=by omega
 clear hun;have HB:Hid (∀W,aK w1 W->W.heap[w.heap.size+1]?=M (C #[.string ⟨#[]⟩,Z O 0 0,Z O 0 0,I V 0] 36 (0,0))):=fun W hW=>(hW.block _ (aL bX)).trans bX
 have HG:Hid (∀W,aK w1 W->aK w W):=fun W hW=>G1.then hW
 clear lG bX G1;have e0:w1.drew.cell? ⟨w.heap.size,0,O⟩=M (.string (aT g.1)):=c0;have e1:w1.drew.cell? ⟨w.heap.size,1,O⟩=M (Z ro rn rc):=c1;have e2:w1.drew.cell? ⟨w.heap.size,2,O⟩=M (Z (M ⟨b,off,O⟩) un uc):=c2;have e3:w1.drew.cell? ⟨w.heap.size,3,O⟩=M (I V dn):=c3;have e4:w1.drew.cell? ⟨b,off+n,O⟩=M (.string (aT f)):=c4
 go_region_held3 (fun w'=>w'.cell? ⟨w.heap.size,0,O⟩=M (.string (aT g.1))/\w'.cell? ⟨w.heap.size,1,O⟩=M (Z ro rn rc)/\w'.cell? ⟨w.heap.size,2,O⟩=M (Z (M ⟨b,off,O⟩) un uc)/\w'.cell? ⟨w.heap.size,3,O⟩=M (I V dn)/\w'.cell? ⟨b,off+n,O⟩=M (.string (aT f)))
  (first|(with_reducible exact⟨e0,e1,e2,e3,e4⟩)|(with_reducible exact⟨y0,y1,y2,y3,y4⟩)|(simp[World.cell?_setCell_far,y0,y1,y2,y3,y4,hbn.symm];done))
  (first|(go_at_call 79;refine(HP.out _ (HG.out _ (aK.drew (aK.refl _)))).mono ?_;rintro e w5 ⟨x1,x2,x3,rfl,hsl,DR⟩;have dY:aK w1 w5:=aK.then (aK.drew (aK.refl _)) DR;have y0:=dY.cell c0;have y1:=dY.cell c1;have y2:=dY.cell c2;have y3:=dY.cell c3;have y4:=dY.cell c4;refine fT (HB.out _ dY) ?_;intro z0 z1 z2 z3 zf))
 have qK:=HB.out _ dY;have pI:=iG qK (.string (aT f)) (Z x1 x2 x3) (Z (M ⟨b,off,O⟩) n uc) (I V (IntKind.i64.wrap (dn+1)));have rE:=xI hsl qK (.string (aT f)) (Z x1 x2 x3) (Z (M ⟨b,off,O⟩) n uc) (I V (IntKind.i64.wrap (dn+1)));have ht6:=xI (HT.out.aM (HG.out _ dY)) qK (.string (aT f)) (Z x1 x2 x3) (Z (M ⟨b,off,O⟩) n uc) (I V (IntKind.i64.wrap (dn+1)));have hG6:=Ii (g:=w.heap.size+1) (HG.out _ dY) (by omega) (.string (aT f)) (Z x1 x2 x3) (Z (M ⟨b,off,O⟩) n uc) (I V (IntKind.i64.wrap (dn+1)));clear z0 z1 z2 z3 zf y0 y1 y2 y3 y4 e0 e1 e2 e3 e4 c0 c1 c2 c3 c4 hsl qK dY DR HB HG HP HT;generalize ((((w5.setCell ⟨w.heap.size+1,0,O⟩ (.string (aT f))).setCell ⟨w.heap.size+1,1,O⟩ (Z x1 x2 x3)).setCell ⟨w.heap.size+1,2,O⟩ (Z (M ⟨b,off,O⟩) n uc)).setCell ⟨w.heap.size+1,3,O⟩ (I V (IntKind.i64.wrap (dn+1))))=w6 at*;rw[show IntKind.i64.wrap (dn+1)=dn+1 from by rw[IntKind.wrap_i64];omega]at pI;obtain⟨q0,q1,q2,q3⟩:=bC pI
 go_wp2_with fail
 refine bodyPost_ret (v:= .agg #[.string (aT f),Z x1 x2 x3,Z (M ⟨b,off,O⟩) n uc,I V (dn+1)]) (by simp[results,Tryz.results47,go_sem,q0,q1,q2,q3]) rfl ?_;rw[HQ.out];refine⟨_,rfl,⟨⟨Z x1 x2 x3,Z (M ⟨b,off,O⟩) n uc,rfl,rE,ht6⟩,?_,?_,by simp only;omega,by simp only;omega⟩,hG6⟩
 ·simp only;rw[List.length_take];omega
 ·simp only;exact HL.out
theorem qM.gm {ps:Nat->Addr}(h:qM w ps qp d g k X):(g.1.length:Int)<=5000/\0<=g.2.2.2/\g.2.2.2<=(k:Int)/\g.2.1.length<=d/\g.2.2.1.length<=d:=by
 obtain⟨hG,s,fs,m,t,hQ,hS,hd⟩:=h;have h1:=hS.len;have h2:=hS.snd.dN.long;have h3:=hS.done;have h4:=hS.snd.dN.done;have h5:=hS.snd.gs.done hS.snd.op;have rR:=Fj hd;refine⟨by omega,by omega,by omega,?_,?_⟩
 ·have:=hS.snd.dN.Br;simp only at this;rw[<-hS.tell];show(t.2.1.map _).length<=d;rw[List.length_map,hS.snd.Lf.lN]
  have e:∀(l:List Ed) (f:List Int),(gF f l).length=l.length:=fun l=>by
   induction l with
   |nil=>intro f;rfl
   |cons a l ih=>intro f;simp[gF,ih]
  rw[e];simp only;omega
 ·have:=hS.snd.dN.Gq;simp only at this;rw[<-hS.tell];show(t.2.2.1.map _).length<=d;rw[List.length_map,hS.snd.Lf.nT]
  have e:∀(l:List Ed) (f:List Int),(gN f l).length=l.length:=fun l=>by
   induction l with
   |nil=>intro f;rfl
   |cons a l ih=>intro f;simp[gN,ih]
  rw[e];simp only;omega
theorem lC (l:List UInt8):(aT l).size=l.length:=by simp[aT,ByteArray.size]
theorem ax (g:Gm):wB g 0 (g.1.length:Int)=(aT g.1,0):=by
 unfold wB;rw[if_neg (by omega)];simp[aT]
theorem iC {ps:Nat->Addr}(h:qM w ps qp d g k X)(hm:eZ w v g d):
 H K 26 #[U (M ⟨qp,0,O⟩),v] w fun e w'=>e=G (.bool true)/\aK w w':=by
 obtain⟨su,sr,rfl,h1,h2⟩:=hm.form;obtain⟨uo,un,uc,rfl⟩:=h1.form;obtain⟨ro,rn,rc,rfl⟩:=h2.form;obtain⟨b1,b2,b3,-,-⟩:=h.gm;have iU:=lC g.1;obtain⟨w1,dU⟩:∃w1,w1=w.alloc (C #[.string (aT g.1),Z uo un uc,Z ro rn rc,I V g.2.2.2] 36):=⟨_,rfl⟩;have lG:w1.heap[w.heap.size]?=M (C #[.string (aT g.1),Z uo un uc,Z ro rn rc,I V g.2.2.2] 36 (0,0)):=by rw[dU];exact heap_alloc_new w _
 have G1:aK w w1:=by rw[dU];exact(aK.refl w).alloc _
 have HL:Hid (∀W,aK w W->H K 40 #[U (M ⟨qp,0,O⟩)] W fun e w'=>e=G (.tuple #[I V (g.1.length:Int),I V 0])/\w'=W):=fun W hW=>DN (h.aM hW)
 have HD:Hid (∀W,aK w W->H K 25 #[U (M ⟨qp,0,O⟩)] W fun e w'=>e=G (.tuple #[I V g.2.2.2,I V 0])/\w'=W):=fun W hW=>s_done (h.aM hW)
 have HR:Hid (∀W,aK w W->H K 39 #[U (M ⟨qp,0,O⟩),I V 0,I V (g.1.length:Int)] W fun e w'=>e=G (.tuple #[.string (aT g.1),I V 0])/\aK W w'):=fun W hW=>by
  have:=Ws (pos:=0) (n:=(g.1.length:Int)) (h.aM hW) (by omega);rw[ax]at this;exact this
 obtain⟨c0,-,-,c3⟩:=bC lG;clear h hm h1 h2 lG;generalize aT g.1=T at*;generalize g.2.2.2=dn at*;generalize GZ:g.1.length=gl at*;clear GZ;subst iU;go_enter Tryz.func26,Tryz.ntmps26
 go_upto_region 1 with fail
 rw[<-dU];clear dU
 go_upto_region 2 with(go_at_call 40;refine(HL.out _ G1).mono ?_;rintro e w2 ⟨rfl,rfl⟩)
 go_upto_region 3 with(go_at_call 39;refine(HR.out _ G1).mono ?_;rintro e w3 ⟨rfl,jI⟩)
 have G3:=G1.then jI;have y0:=jI.cell c0;have y3:=jI.cell c3;clear c0 c3 G1 jI
 go_upto_region 4 with(go_at_call 25;refine(HD.out _ G3).mono ?_;rintro e w4 ⟨rfl,rfl⟩)
 go_wp2_with fail
 go_ret;exact⟨by simp,G3⟩
theorem ay:∀(l:List fH) (i:Nat) (f:fH),l[i]?=M f->(Iu l)[i*3]?=M (I V f.1)/\(Iu l)[i*3+1]?=M f.2.1.v/\(Iu l)[i*3+2]?=M f.2.2.v:=by
 intro l
 induction l with
 |nil=>intro i f h;simp at h
 |cons e l ih=>
  intro i f h;cases i with
  |zero=>simp at h;subst h;simp[rY]
  |succ i=>
   have:=ih i f (by simpa using h);rw[rY,show(i+1)*3=i*3+1+1+1 from by omega];simpa using this
theorem nO.at {xo:Option Addr}{xn xc:Nat}{l:List Ed}(h:nO w (xo,xn,xc) l){e:Ed}(he:l[k]?=M e):∃(b off:Nat) (r:fH),xo=M ⟨b,off,O⟩/\w.cell? ⟨b,off+k*3,O⟩=M (I V e.1)/\w.cell? ⟨b,off+k*3+1,O⟩=M r.2.1.v/\w.cell? ⟨b,off+k*3+2,O⟩=M r.2.2.v/\bF w r.2.1 e.2.1/\bF w r.2.2 e.2.2:=by
 obtain⟨raw,h1,h2,h3,h4,h5⟩:=h;have bS:=(List.getElem?_eq_some_iff.1 he).1;obtain⟨r,hr⟩:∃r,raw[k]?=M r:=⟨_,List.getElem?_eq_getElem (by omega)⟩;have hE:=h5 k r e hr he;rcases h1.1 with rfl|⟨b,off,eo,hc⟩
 ·simp at hr
 ·obtain⟨a1,a2,a3⟩:=ay raw k r hr;refine⟨b,off,r,eo,?_,by rw[Nat.add_assoc];exact hc _ _ a2,by rw[Nat.add_assoc];exact hc _ _ a3,hE.2.1,hE.2.2⟩;rw[<-hE.1];exact hc _ _ a1
theorem nO.len {xo:Option Addr}{xn xc:Nat}{l:List Ed}(h:nO w (xo,xn,xc) l):xn=l.length/\xn<=xc/\Rt xo xn xc:=by
 obtain⟨raw,h1,h2,h3,h4,h5⟩:=h;exact⟨h2.trans h4,h3.2,h3.1⟩
structure RpW (w wr:F)(mb rb:Nat)(r:Bo)(m:bR):Prop where
 aM:aK w wr
 mod:wr.heap[mb]?=M (iI r.1.v r.2.1.v r.2.2.1.v (I V r.2.2.2.1) (I V r.2.2.2.2))
 res:wr.heap[rb]?=M (iI (Z O 0 0) (Z O 0 0) (Z O 0 0) (I V 0) (I V 0))
 OT:qI wr r m
 mbn:w.heap.size<=mb
 rbn:w.heap.size<=rb
 ne:mb≠rb
theorem RpW.more {wr wr':F}(h:RpW w wr mb rb r m)(hg:aK wr wr'):RpW w wr' mb rb r m:=
 ⟨bA h.aM hg,(hg.block _ (aL h.mod)).trans h.mod,(hg.block _ (aL h.res)).trans h.res,h.OT.aM hg,h.mbn,h.rbn,h.ne⟩
theorem bg {g:Nat}(a b c d e:Y):Fr w (((((w.setCell ⟨g,0,O⟩ a).setCell ⟨g,1,O⟩ b).setCell ⟨g,2,O⟩ c).setCell ⟨g,3,O⟩ d).setCell ⟨g,4,O⟩ e) (fun b=>b=g):=
 ((((Fr.set w ⟨g,0,O⟩ a).trans (Fr.set _ ⟨g,1,O⟩ b)).trans (Fr.set _ ⟨g,2,O⟩ c)).trans (Fr.set _ ⟨g,3,O⟩ d)).trans (Fr.set _ ⟨g,4,O⟩ e)
theorem RpW.put {wd:F}{r':Bo}{m':bR}(h:RpW w wd mb rb r m)(hm:qI wd r' m'):RpW w (((((wd.setCell ⟨mb,0,O⟩ r'.1.v).setCell ⟨mb,1,O⟩ r'.2.1.v).setCell ⟨mb,2,O⟩ r'.2.2.1.v).setCell ⟨mb,3,O⟩ (I V r'.2.2.2.1)).setCell ⟨mb,4,O⟩ (I V r'.2.2.2.2)) mb rb r' m':=
 ⟨kW h.aM h.mbn _ _ _ _ _,Mr h.mod _ _ _ _ _,(bg _ _ _ _ _).at h.res (Ne.symm h.ne),hm.set5 h.mod _ _ _ _ _,h.mbn,h.rbn,h.ne⟩
theorem RpW.out {wd:F}(h:RpW w wd mb rb r m):(((((wd.setCell ⟨rb,0,O⟩ r.1.v).setCell ⟨rb,1,O⟩ r.2.1.v).setCell ⟨rb,2,O⟩ r.2.2.1.v).setCell ⟨rb,3,O⟩ (I V r.2.2.2.1)).setCell ⟨rb,4,O⟩ (I V r.2.2.2.2)).heap[rb]?=M (iI r.1.v r.2.1.v r.2.2.1.v (I V r.2.2.2.1) (I V r.2.2.2.2))/\qI (((((wd.setCell ⟨rb,0,O⟩ r.1.v).setCell ⟨rb,1,O⟩ r.2.1.v).setCell ⟨rb,2,O⟩ r.2.2.1.v).setCell ⟨rb,3,O⟩ (I V r.2.2.2.1)).setCell ⟨rb,4,O⟩ (I V r.2.2.2.2)) r m/\aK w (((((wd.setCell ⟨rb,0,O⟩ r.1.v).setCell ⟨rb,1,O⟩ r.2.1.v).setCell ⟨rb,2,O⟩ r.2.2.1.v).setCell ⟨rb,3,O⟩ (I V r.2.2.2.1)).setCell ⟨rb,4,O⟩ (I V r.2.2.2.2)):=
 ⟨Mr h.res _ _ _ _ _,h.OT.set5 h.res _ _ _ _ _,kW h.aM h.rbn _ _ _ _ _⟩
structure Ck (w wk:F)(g mb rs:Nat)(S:ByteArray)(r:Sn)(a b c d e:Y):Prop where
 aM:aK w wk
 sc:Eb wk g S r
 mod:wk.heap[mb]?=M (iI a b c d e)
 res:wk.heap[rs]?=M (iI (Z O 0 0) (Z O 0 0) (Z O 0 0) (I V 0) (I V 0))
 ng:w.heap.size<=g
 nm:w.heap.size<=mb
 nr:w.heap.size<=rs
 gm:g≠mb
 gr:g≠rs
 mr:mb≠rs
theorem Ck.cells {wk:F}{g rs:Nat}{S:ByteArray}{r:Sn}{a b c d e:Y}(h:Ck w wk g mb rs S r a b c d e):wk.cell? ⟨mb,0,O⟩=M a/\wk.cell? ⟨mb,1,O⟩=M b/\wk.cell? ⟨mb,2,O⟩=M c/\wk.cell? ⟨mb,3,O⟩=M d/\wk.cell? ⟨mb,4,O⟩=M e/\(∀j,wk.frozen? ⟨mb,j,O⟩=false):=by
 obtain⟨a1,a2,a3,a4,a5,a6⟩:=Yi h.mod;exact⟨a1,a2,a3,a4,a5,fun j=>by simp[World.frozen?,h.mod,iI]⟩
theorem Ck.drew {wk:F}{g rs:Nat}{S:ByteArray}{r:Sn}{a b c d e:Y}(h:Ck w wk g mb rs S r a b c d e):Ck w wk.drew g mb rs S r a b c d e:=
 { h with aM:=h.aM.drew,sc:=h.sc.aM (aK.drew (aK.refl _)),mod:=h.mod,res:=h.res }
structure BgI (w wr:F)(xb mb:Nat)(r:Bo)(m0:bR)(s:Sc)(fs:List bE)(m:bR)(f f1:dS):Prop where
 st:kU wr xb s fs m f1
 did:Ru w wr xb f f1
 mod:wr.heap[mb]?=M (iI r.1.v r.2.1.v r.2.2.1.v (I V r.2.2.2.1) (I V r.2.2.2.2))
 OT:qI wr r m0
theorem BgI.more {wr wr':F}{xb:Nat}{m0:bR}{f f1:dS}(h:BgI w wr xb mb r m0 s fs m f f1)(hg:aK wr wr'):BgI w wr' xb mb r m0 s fs m f f1:=
 ⟨h.st.aM hg,h.did.aM hg,(hg.block _ (aL h.mod)).trans h.mod,h.OT.aM hg⟩
def Ct (w:F)(b:Nat):Prop:=∃aQ t mk,w.heap[b]?=M (C aQ t mk)/\t≠234/\t≠114/\t≠261/\t≠302
theorem Ct.no (h:Ct w b){t:TypeId}(hb:w.heap[b]?=M (C aQ t f))(ht:t=234\/t=114\/t=261\/t=302):False:=by
 obtain⟨oF,t',mk,h1,k1,k2,k3,k4⟩:=h;rw[hb]at h1;cases h1
 rcases ht with e|e|e|e
 ·exact k1 e
 ·exact k2 e
 ·exact k3 e
 ·exact k4 e
theorem Ct.of {t:TypeId}(hb:w.heap[b]?=M (C aQ t f))(h1:t≠234)(h2:t≠114)(h3:t≠261)(h4:t≠302):Ct w b:=⟨aQ,t,f,hb,h1,h2,h3,h4⟩
theorem Qi.free (h:Qi w b):Ct w b:=by
 obtain⟨aQ,t,mk,h1,h2⟩:=h;refine⟨aQ,t,mk,h1,?_⟩;rcases h2 with rfl|rfl|rfl|rfl|rfl|rfl|rfl|rfl|rfl<;>decide
theorem aR.WT {aA:Nat->Prop}{dp tb depth:Nat}(h:aR w dp tb depth m)(hF:Fr w w' aA)(hY:∀b,aA b->Ct w b)(h1:¬aA dp)(h2:¬aA tb):aR w' dp tb depth m:=by
 obtain⟨u,r,k1,k2,k3,k4⟩:=h;have no:∀ {b:Nat} {aQ:Array Y} {t:TypeId} {f:Nat×Nat},w.heap[b]?=M (C aQ t f)->(t=234\/t=114\/t=261\/t=302)->¬aA b:=fun hb ht e=>(hY _ e).no hb ht
 exact⟨u,r,hF.at k1 h1,k2.fr hF h2 (fun b la ra p h l hb=>no hb (by decide)),k3.fr hF (fun b aQ hb=>no hb (by decide)) (fun b aQ hb=>no hb (by decide)),k4.fr hF (fun b aQ hb=>no hb (by decide)) (fun b aQ hb=>no hb (by decide))⟩
theorem uR.WT {aA:Nat->Prop}(h:uR w qp s fs m X)(hF:Fr w w' aA)(hY:∀b,aA b->Ct w b)(hX:∀b,X b->¬aA b):uR w' qp s fs m X:=by
 rcases h with⟨h0,db,fv,rs,h1,h2,h3,rfl⟩|⟨h0,db,fv,rs,sp,lp,dp,tb,h1,h2,rfl⟩
 ·exact Or.inl ⟨h0,db,fv,rs,h1.fr hF (fun b hb=>hX b (Or.inr hb)),h2,hF.at h3 (hX _ (Or.inl rfl)),rfl⟩
 ·exact Or.inr ⟨h0,db,fv,rs,sp,lp,dp,tb,⟨h1.disk.fr hF (fun b hb=>hX b (Or.inr (Or.inl hb))),hF.at h1.qu (hX _ (Or.inl rfl)),hF.at h1.xD (hX _ (Or.inr (Or.inr (Or.inl rfl)))),hF.at h1.rP (hX _ (Or.inr (Or.inr (Or.inr (Or.inl rfl))))),h1.Ty.WT hF hY (hX _ (Or.inr (Or.inr (Or.inr (Or.inr (Or.inl rfl)))))) (hX _ (Or.inr (Or.inr (Or.inr (Or.inr (Or.inr rfl))))))⟩,h2,rfl⟩
theorem KY.WT {ao:Option Addr}{l:List bE}(h:KY w ao l)(hF:Fr w w' X)(hx:∀a,ao=M a->¬X a.block):KY w' ao l:=by
 obtain⟨h1,h2⟩:=h;refine⟨?_,fun a e=>?_⟩
 ·rcases h1 with h1|⟨b,off,e,hc⟩
  ·exact Or.inl h1
  ·refine Or.inr ⟨b,off,e,fun j u hu=>?_⟩;obtain⟨aQ,hb⟩:=h2 _ e;have mF:w'.heap[b]?=w.heap[b]?:=hF.2 b (aL hb) (hx _ e);exact(World.cell?_of_block (a:=⟨b,off+j,O⟩) mF).trans (hc j u hu)
 ·obtain⟨aQ,hb⟩:=h2 a e;exact⟨aQ,hF.at hb (hx _ e)⟩
theorem kU.WT {aA:Nat->Prop}{xb:Nat}{f:dS}(h:kU w xb s fs m f)(hF:Fr w w' aA)(hY:∀b,aA b->Ct w b)(h1:¬aA xb)(h2:∀a,f.1=M a->¬aA a.block):kU w' xb s fs m f:=by
 obtain⟨r,hx,hf,hm⟩:=h;exact⟨r,hF.at hx h1,⟨hf.1.WT hF h2,hf.2⟩,hm.fr hF (fun b aQ hb e=>(hY _ e).no hb (by decide)) (fun b aQ hb e=>(hY _ e).no hb (by decide))⟩
structure xJ where
 sb:Nat
 qp:Nat
 xb:Nat
 x:St
 X:Nat->Prop
 f:dS
def xJ.aA (r:xJ)(b:Nat):Prop:=r.X b\/b=r.xb\/∃a,r.f.1=M a/\b=a.block
def pairS (qp xb:Nat):Obj:=C #[U (M ⟨qp,0,O⟩),U (M ⟨xb,0,O⟩)] 171 (0,0)
structure lQ (w:F)(B:Nat)(r:xJ):Prop where
 sb:w.heap[r.sb]?=M (pairS r.qp r.xb)
 q:uR w r.qp r.x.1 r.x.2.1 r.x.2.2 r.X
 y:kU w r.xb r.x.1 r.x.2.1 r.x.2.2 r.f
 sbn:B<=r.sb
 yn:∀b,r.aA b->B<=b
def Wu (r q:xJ):Prop:=r.sb≠q.sb/\∀b,r.aA b->¬q.aA b
def STy (w:F)(b:Nat):Prop:=Qi w b\/∃aQ t mk,w.heap[b]?=M (C aQ t mk)/\(t=189\/t=193)
theorem STy.free (h:STy w b):Ct w b:=by
 rcases h with h|⟨aQ,t,mk,h1,rfl|rfl⟩
 ·exact h.free
 ·exact⟨_,_,_,h1,by decide⟩
 ·exact⟨_,_,_,h1,by decide⟩
theorem STy.ne (h:STy w b){t:TypeId}(hb:w.heap[b]?=M (C aQ t f))(ht:(t≠137/\t≠155/\t≠157/\t≠5/\t≠80/\t≠93/\t≠140/\t≠147/\t≠160)/\t≠189/\t≠193):False:=by
 obtain⟨ht,h3,h4⟩:=ht;rcases h with h|⟨oF,t',mk,h1,h2⟩
 ·exact h.ne hb ht rfl
 ·rw[hb]at h1;cases h1
  rcases h2 with e|e
  ·exact h3 e
  ·exact h4 e
theorem lQ.ty {r:xJ}(h:lQ w B r)(hb:r.aA b):STy w b:=by
 rcases hb with hb|rfl|⟨a,e,rfl⟩
 ·exact Or.inl (h.q.ty hb)
 ·obtain⟨rx,hx,-,-⟩:=h.y;exact Or.inr ⟨_,_,_,hx,Or.inl rfl⟩
 ·obtain⟨rx,hx,hf,-⟩:=h.y;obtain⟨aQ,hc⟩:=hf.1.2 a e;exact Or.inr ⟨_,_,_,hc,Or.inr rfl⟩
theorem lQ.lt {r:xJ}(h:lQ w B r)(hb:r.aA b):b<w.heap.size:=by
 obtain⟨aQ,t,mk,h1,-⟩:=(h.ty hb).free;exact aL h1
theorem lQ.fr {aH:Nat->Prop}{r:xJ}(h:lQ w B r)(hF:Fr w w' aH)(hZ:∀b,aH b->Ct w b)(h1:¬aH r.sb)(h2:∀b,r.aA b->¬aH b):lQ w' B r:=
 ⟨hF.at h.sb h1,h.q.WT hF hZ (fun b hb=>h2 b (Or.inl hb)),h.y.WT hF hZ (h2 _ (Or.inr (Or.inl rfl))) (fun a e=>h2 _ (Or.inr (Or.inr ⟨a,e,rfl⟩))),h.sbn,h.yn⟩
theorem lQ.aM {r:xJ}(h:lQ w B r)(hg:aK w w'):lQ w' B r:=h.fr (Fr.bT hg (fun _=>False)) (fun _ h=>h.elim) id (fun _ _=>id)
structure bn (w w2:F)(B:Nat)(r r':xJ):Prop where
 pair:lQ w2 B r'
 sb:r'.sb=r.sb
 fr:Fr w w2 r.aA
 io:w2.os=w.os/\w2.tape=w.tape/\w2.output=w.output
 yn:∀b,r'.aA b->r.aA b\/w.heap.size<=b
end Go.Proofs.YtfplgfodoiiobaaGreatDoor
