/- KwE, KwF, SwA (joined). -/
import Derived.Deep.CutBlock
import Derived.Test.YtfplgfodoiiobaaGreatDoorJ39
open Option renaming none→O,some→M
open Go.Value renaming int→I,slice→Z,pointer→U
open Go.IntKind renaming i64→V
open Go.Obj renaming cells→C
open Go.Ending renaming returned→G
open Go renaming World→F,Value→Y,Calls→H
open Go.Proofs.Tryz renaming prog→K
namespace Go.Proofs.YtfplgfodoiiobaaGreatDoor
set_option maxHeartbeats 2000000
set_option maxRecDepth 100000
open Go.RowKit
variable {w:F}{g:Gm}{d qp:Nat}{v:Y}{X:Nat->Prop}
theorem RG {f:List UInt8}{l:List (List UInt8)}(h:eU w v g d)(hg:g.2.1=f::l)(hd:d<=50)(h9:g.2.2.2+1<=1000000):
 H K 45 #[v,I V (d:Int)] w fun e w'=> ∃v',e=G v'/\eU w' v' (yM g d) d/\aJ w w':=by
 obtain⟨su,sr,rfl,hu,hr⟩:=h.form;have d0:=h.d0;have al:=h.ul;have bl:=h.rl;have hA:jI w su (f::l).reverse:=by rw[<-hg];exact hu
 have hB:jI w sr g.2.2.1.reverse:=hr;have N_:(f::l).reverse=l.reverse++ [f]:=by simp
 rw[N_]at hA;rw[hg]at al;obtain⟨ao,uc,rfl,ha1,FJ,UE⟩:=hA;obtain⟨ro,rn,rc,rfl⟩:=hB.form
 obtain⟨b,off,rfl,hc,Di⟩:∃b off,ao=M ⟨b,off,O⟩/\(∀(i:Nat) x,(l.reverse++ [f])[i]?=M x->w.cell? ⟨b,off+i,O⟩=M (.string (aR x)))/\∃aT t,w.heap[b]?=M (C aT 9 t):=by
  rcases UE with e|⟨b,off,e,hc,aT,t,ht⟩
  ·simp at e
  ·exact⟨b,off,e,hc,aT,t,ht⟩
 have Hz:=hc l.length f (by simp);have hlen:(l.reverse++ [f]).length=l.length+1:=by simp
 rw[hlen]at ha1 ⊢
 have HT:Hid (jI w (Z (M ⟨b,off,O⟩) l.length uc) l.reverse):=by
  refine⟨_,uc,by rw[List.length_reverse],by rw[List.length_reverse];omega,(fun k=>by cases k),?_⟩;by_cases hz:l.reverse=[]
  ·exact Or.inl hz
  ·refine Or.inr ⟨b,off,rfl,fun i x hi=>hc i x ?_,Di⟩;rw[List.getElem?_append_left (List.getElem?_eq_some_iff.1 hi).1];exact hi
 obtain⟨n,hn⟩:∃n,n=l.length:=⟨_,rfl⟩;rw[<-hn]at HT Hz ha1 ⊢;have HN:Hid (n=l.length):=hn;have hn50:n<=50:=by simp only[List.length_cons]at al;omega
 have HL:Hid (l.length<=d):=by simp only[List.length_cons]at al;show _<=_;omega
 have HP:Hid (∀W,aJ w W->H K 79 #[Z ro rn rc,.string (aR g.1),I V (d:Int)] W fun e w'=> ∃a b c,e=G (Z a b c)/\jI w' (Z a b c) ((g.1::g.2.2.1).take d).reverse/\aJ W w'):=fun W hW=>by
  have:=Dz (s:=g.1) (hB.aM hW) (by simpa using bl) hd;rw[List.reverse_reverse]at this;refine this.mono ?_;rintro e w' ⟨v',rfl,k1,k2⟩;obtain⟨a,b,c,rfl⟩:=k1.form;exact⟨a,b,c,rfl,k1,k2⟩
 obtain⟨dn,rJ⟩:∃dn,dn=g.2.2.2:=⟨_,rfl⟩;rw[<-rJ]at d0 h9 ⊢
 have HQ:Hid (yM g d=(f,l,(g.1::g.2.2.1).take d,dn+1)):=by
  show _=_;unfold yM;rw[hg,rJ]
 clear hB h hu hr FJ UE hc Di hlen N_ al hn bl hg rJ;obtain⟨w1,dU⟩:∃w1,w1=(w.alloc (C #[.string (aR g.1),Z (M ⟨b,off,O⟩) (n+1) uc,Z ro rn rc,I V dn] 36)).alloc (C #[.string ⟨#[]⟩,Z O 0 0,Z O 0 0,I V 0] 36):=⟨_,rfl⟩
 have kT:w1.heap[w.heap.size]?=M (C #[.string (aR g.1),Z (M ⟨b,off,O⟩) (n+1) uc,Z ro rn rc,I V dn] 36 (0,0)):=by
  rw[dU];exact(aU _ _).block _ (by simp)|>.trans (heap_alloc_new w _)
 have bX:w1.heap[w.heap.size+1]?=M (C #[.string ⟨#[]⟩,Z O 0 0,Z O 0 0,I V 0] 36 (0,0)):=by
  rw[dU];have:=heap_alloc_new (w.alloc (C #[.string (aR g.1),Z (M ⟨b,off,O⟩) (n+1) uc,Z ro rn rc,I V dn] 36)) (C #[.string ⟨#[]⟩,Z O 0 0,Z O 0 0,I V 0] 36);rwa[World.size_alloc]at this
 have G1:aJ w w1:=by rw[dU];exact((aJ.refl w).alloc _).alloc _
 have c4:=G1.cell Hz;have i1:(0:Int)<=(n:Int):=by omega
 have i3:(n:Int)<=(uc:Int):=by omega
 obtain⟨c0,c1,c2,c3⟩:=aZ kT;have hbn:b≠w.heap.size+1:=by have:=World.block_lt_of_cell? _ _ Hz;simp only at this;omega
 clear Hz;go_enter Tryz.func45,Tryz.ntmps45
 go_upto_region 1 with fail
 rw[<-dU];clear dU
 go_upto_region 2 with fail
 obtain⟨un,hun⟩:∃un,un=n+1:=⟨_,rfl⟩;rw[<-hun]at c1;have i2:(n:Int)<(un:Int):=by omega
 clear hun;have HB:Hid (∀W,aJ w1 W->W.heap[w.heap.size+1]?=M (C #[.string ⟨#[]⟩,Z O 0 0,Z O 0 0,I V 0] 36 (0,0))):=fun W hW=>(hW.block _ (aK bX)).trans bX
 have HG:Hid (∀W,aJ w1 W->aJ w W):=fun W hW=>G1.then hW
 clear kT bX G1;have e0:w1.drew.cell? ⟨w.heap.size,0,O⟩=M (.string (aR g.1)):=c0;have e1:w1.drew.cell? ⟨w.heap.size,1,O⟩=M (Z (M ⟨b,off,O⟩) un uc):=c1;have e2:w1.drew.cell? ⟨w.heap.size,2,O⟩=M (Z ro rn rc):=c2;have e3:w1.drew.cell? ⟨w.heap.size,3,O⟩=M (I V dn):=c3;have e4:w1.drew.cell? ⟨b,off+n,O⟩=M (.string (aR f)):=c4
 go_region_held3 (fun w'=>w'.cell? ⟨w.heap.size,0,O⟩=M (.string (aR g.1))/\w'.cell? ⟨w.heap.size,1,O⟩=M (Z (M ⟨b,off,O⟩) un uc)/\w'.cell? ⟨w.heap.size,2,O⟩=M (Z ro rn rc)/\w'.cell? ⟨w.heap.size,3,O⟩=M (I V dn)/\w'.cell? ⟨b,off+n,O⟩=M (.string (aR f)))
  (first|(with_reducible exact⟨e0,e1,e2,e3,e4⟩)|(with_reducible exact⟨y0,y1,y2,y3,y4⟩)|(simp[World.cell?_setCell_far,y0,y1,y2,y3,y4,hbn.symm];done))
  (first|(go_at_call 79;refine(HP.out _ (HG.out _ (aJ.drew (aJ.refl _)))).mono ?_;rintro e w5 ⟨x1,x2,x3,rfl,hsl,KP⟩;have dK:aJ w1 w5:=aJ.then (aJ.drew (aJ.refl _)) KP;have y0:=dK.cell c0;have y1:=dK.cell c1;have y2:=dK.cell c2;have y3:=dK.cell c3;have y4:=dK.cell c4;refine fZ (HB.out _ dK) ?_;intro z0 z1 z2 z3 zf))
 have rG:=HB.out _ dK;have qK:=iP rG (.string (aR f)) (Z (M ⟨b,off,O⟩) n uc) (Z x1 x2 x3) (I V (IntKind.i64.wrap (dn+1)));have sM:=xZ hsl rG (.string (aR f)) (Z (M ⟨b,off,O⟩) n uc) (Z x1 x2 x3) (I V (IntKind.i64.wrap (dn+1)));have ht6:=xZ (HT.out.aM (HG.out _ dK)) rG (.string (aR f)) (Z (M ⟨b,off,O⟩) n uc) (Z x1 x2 x3) (I V (IntKind.i64.wrap (dn+1)));have hG6:=Kh (g:=w.heap.size+1) (HG.out _ dK) (by omega) (.string (aR f)) (Z (M ⟨b,off,O⟩) n uc) (Z x1 x2 x3) (I V (IntKind.i64.wrap (dn+1)));clear z0 z1 z2 z3 zf y0 y1 y2 y3 y4 e0 e1 e2 e3 e4 c0 c1 c2 c3 c4 hsl rG dK KP HB HG HP HT;generalize ((((w5.setCell ⟨w.heap.size+1,0,O⟩ (.string (aR f))).setCell ⟨w.heap.size+1,1,O⟩ (Z (M ⟨b,off,O⟩) n uc)).setCell ⟨w.heap.size+1,2,O⟩ (Z x1 x2 x3)).setCell ⟨w.heap.size+1,3,O⟩ (I V (IntKind.i64.wrap (dn+1))))=w6 at*;rw[show IntKind.i64.wrap (dn+1)=dn+1 from by rw[IntKind.wrap_i64];omega]at qK;obtain⟨q0,q1,q2,q3⟩:=aZ qK
 go_wp2_with fail
 refine bodyPost_ret (v:= .agg #[.string (aR f),Z (M ⟨b,off,O⟩) n uc,Z x1 x2 x3,I V (dn+1)]) (by simp[results,Tryz.results45,go_sem,q0,q1,q2,q3]) rfl ?_;rw[HQ.out];refine⟨_,rfl,⟨⟨Z (M ⟨b,off,O⟩) n uc,Z x1 x2 x3,rfl,ht6,sM⟩,?_,?_,by simp only;omega,by simp only;omega⟩,hG6⟩
 ·simp only;exact HL.out
 ·simp only;rw[List.length_take];omega
theorem RH {f:List UInt8}{l:List (List UInt8)}(h:eU w v g d)(hg:g.2.2.1=f::l)(hd:d<=50)(h9:g.2.2.2+1<=1000000):
 H K 47 #[v,I V (d:Int)] w fun e w'=> ∃v',e=G v'/\eU w' v' (yN g d) d/\aJ w w':=by
 obtain⟨su,sr,rfl,hu,hr⟩:=h.form;have d0:=h.d0;have al:=h.rl;have bl:=h.ul;have hA:jI w sr (f::l).reverse:=by rw[<-hg];exact hr
 have hB:jI w su g.2.1.reverse:=hu;have N_:(f::l).reverse=l.reverse++ [f]:=by simp
 rw[N_]at hA;rw[hg]at al;obtain⟨ao,uc,rfl,ha1,FJ,UE⟩:=hA;obtain⟨ro,rn,rc,rfl⟩:=hB.form
 obtain⟨b,off,rfl,hc,Di⟩:∃b off,ao=M ⟨b,off,O⟩/\(∀(i:Nat) x,(l.reverse++ [f])[i]?=M x->w.cell? ⟨b,off+i,O⟩=M (.string (aR x)))/\∃aT t,w.heap[b]?=M (C aT 9 t):=by
  rcases UE with e|⟨b,off,e,hc,aT,t,ht⟩
  ·simp at e
  ·exact⟨b,off,e,hc,aT,t,ht⟩
 have Hz:=hc l.length f (by simp);have hlen:(l.reverse++ [f]).length=l.length+1:=by simp
 rw[hlen]at ha1 ⊢
 have HT:Hid (jI w (Z (M ⟨b,off,O⟩) l.length uc) l.reverse):=by
  refine⟨_,uc,by rw[List.length_reverse],by rw[List.length_reverse];omega,(fun k=>by cases k),?_⟩;by_cases hz:l.reverse=[]
  ·exact Or.inl hz
  ·refine Or.inr ⟨b,off,rfl,fun i x hi=>hc i x ?_,Di⟩;rw[List.getElem?_append_left (List.getElem?_eq_some_iff.1 hi).1];exact hi
 obtain⟨n,hn⟩:∃n,n=l.length:=⟨_,rfl⟩;rw[<-hn]at HT Hz ha1 ⊢;have HN:Hid (n=l.length):=hn;have hn50:n<=50:=by simp only[List.length_cons]at al;omega
 have HL:Hid (l.length<=d):=by simp only[List.length_cons]at al;show _<=_;omega
 have HP:Hid (∀W,aJ w W->H K 79 #[Z ro rn rc,.string (aR g.1),I V (d:Int)] W fun e w'=> ∃a b c,e=G (Z a b c)/\jI w' (Z a b c) ((g.1::g.2.1).take d).reverse/\aJ W w'):=fun W hW=>by
  have:=Dz (s:=g.1) (hB.aM hW) (by simpa using bl) hd;rw[List.reverse_reverse]at this;refine this.mono ?_;rintro e w' ⟨v',rfl,k1,k2⟩;obtain⟨a,b,c,rfl⟩:=k1.form;exact⟨a,b,c,rfl,k1,k2⟩
 obtain⟨dn,rJ⟩:∃dn,dn=g.2.2.2:=⟨_,rfl⟩;rw[<-rJ]at d0 h9 ⊢
 have HQ:Hid (yN g d=(f,(g.1::g.2.1).take d,l,dn+1)):=by
  show _=_;unfold yN;rw[hg,rJ]
 clear hB h hu hr FJ UE hc Di hlen N_ al hn bl hg rJ;obtain⟨w1,dU⟩:∃w1,w1=(w.alloc (C #[.string (aR g.1),Z ro rn rc,Z (M ⟨b,off,O⟩) (n+1) uc,I V dn] 36)).alloc (C #[.string ⟨#[]⟩,Z O 0 0,Z O 0 0,I V 0] 36):=⟨_,rfl⟩
 have kT:w1.heap[w.heap.size]?=M (C #[.string (aR g.1),Z ro rn rc,Z (M ⟨b,off,O⟩) (n+1) uc,I V dn] 36 (0,0)):=by
  rw[dU];exact(aU _ _).block _ (by simp)|>.trans (heap_alloc_new w _)
 have bX:w1.heap[w.heap.size+1]?=M (C #[.string ⟨#[]⟩,Z O 0 0,Z O 0 0,I V 0] 36 (0,0)):=by
  rw[dU];have:=heap_alloc_new (w.alloc (C #[.string (aR g.1),Z ro rn rc,Z (M ⟨b,off,O⟩) (n+1) uc,I V dn] 36)) (C #[.string ⟨#[]⟩,Z O 0 0,Z O 0 0,I V 0] 36);rwa[World.size_alloc]at this
 have G1:aJ w w1:=by rw[dU];exact((aJ.refl w).alloc _).alloc _
 have c4:=G1.cell Hz;have i1:(0:Int)<=(n:Int):=by omega
 have i3:(n:Int)<=(uc:Int):=by omega
 obtain⟨c0,c1,c2,c3⟩:=aZ kT;have hbn:b≠w.heap.size+1:=by have:=World.block_lt_of_cell? _ _ Hz;simp only at this;omega
 clear Hz;go_enter Tryz.func47,Tryz.ntmps47
 go_upto_region 1 with fail
 rw[<-dU];clear dU
 go_upto_region 2 with fail
 obtain⟨un,hun⟩:∃un,un=n+1:=⟨_,rfl⟩;rw[<-hun]at c2;have i2:(n:Int)<(un:Int):=by omega
 clear hun;have HB:Hid (∀W,aJ w1 W->W.heap[w.heap.size+1]?=M (C #[.string ⟨#[]⟩,Z O 0 0,Z O 0 0,I V 0] 36 (0,0))):=fun W hW=>(hW.block _ (aK bX)).trans bX
 have HG:Hid (∀W,aJ w1 W->aJ w W):=fun W hW=>G1.then hW
 clear kT bX G1;have e0:w1.drew.cell? ⟨w.heap.size,0,O⟩=M (.string (aR g.1)):=c0;have e1:w1.drew.cell? ⟨w.heap.size,1,O⟩=M (Z ro rn rc):=c1;have e2:w1.drew.cell? ⟨w.heap.size,2,O⟩=M (Z (M ⟨b,off,O⟩) un uc):=c2;have e3:w1.drew.cell? ⟨w.heap.size,3,O⟩=M (I V dn):=c3;have e4:w1.drew.cell? ⟨b,off+n,O⟩=M (.string (aR f)):=c4
 go_region_held3 (fun w'=>w'.cell? ⟨w.heap.size,0,O⟩=M (.string (aR g.1))/\w'.cell? ⟨w.heap.size,1,O⟩=M (Z ro rn rc)/\w'.cell? ⟨w.heap.size,2,O⟩=M (Z (M ⟨b,off,O⟩) un uc)/\w'.cell? ⟨w.heap.size,3,O⟩=M (I V dn)/\w'.cell? ⟨b,off+n,O⟩=M (.string (aR f)))
  (first|(with_reducible exact⟨e0,e1,e2,e3,e4⟩)|(with_reducible exact⟨y0,y1,y2,y3,y4⟩)|(simp[World.cell?_setCell_far,y0,y1,y2,y3,y4,hbn.symm];done))
  (first|(go_at_call 79;refine(HP.out _ (HG.out _ (aJ.drew (aJ.refl _)))).mono ?_;rintro e w5 ⟨x1,x2,x3,rfl,hsl,KP⟩;have dK:aJ w1 w5:=aJ.then (aJ.drew (aJ.refl _)) KP;have y0:=dK.cell c0;have y1:=dK.cell c1;have y2:=dK.cell c2;have y3:=dK.cell c3;have y4:=dK.cell c4;refine fZ (HB.out _ dK) ?_;intro z0 z1 z2 z3 zf))
 have rG:=HB.out _ dK;have qK:=iP rG (.string (aR f)) (Z x1 x2 x3) (Z (M ⟨b,off,O⟩) n uc) (I V (IntKind.i64.wrap (dn+1)));have sM:=xZ hsl rG (.string (aR f)) (Z x1 x2 x3) (Z (M ⟨b,off,O⟩) n uc) (I V (IntKind.i64.wrap (dn+1)));have ht6:=xZ (HT.out.aM (HG.out _ dK)) rG (.string (aR f)) (Z x1 x2 x3) (Z (M ⟨b,off,O⟩) n uc) (I V (IntKind.i64.wrap (dn+1)));have hG6:=Kh (g:=w.heap.size+1) (HG.out _ dK) (by omega) (.string (aR f)) (Z x1 x2 x3) (Z (M ⟨b,off,O⟩) n uc) (I V (IntKind.i64.wrap (dn+1)));clear z0 z1 z2 z3 zf y0 y1 y2 y3 y4 e0 e1 e2 e3 e4 c0 c1 c2 c3 c4 hsl rG dK KP HB HG HP HT;generalize ((((w5.setCell ⟨w.heap.size+1,0,O⟩ (.string (aR f))).setCell ⟨w.heap.size+1,1,O⟩ (Z x1 x2 x3)).setCell ⟨w.heap.size+1,2,O⟩ (Z (M ⟨b,off,O⟩) n uc)).setCell ⟨w.heap.size+1,3,O⟩ (I V (IntKind.i64.wrap (dn+1))))=w6 at*;rw[show IntKind.i64.wrap (dn+1)=dn+1 from by rw[IntKind.wrap_i64];omega]at qK;obtain⟨q0,q1,q2,q3⟩:=aZ qK
 go_wp2_with fail
 refine bodyPost_ret (v:= .agg #[.string (aR f),Z x1 x2 x3,Z (M ⟨b,off,O⟩) n uc,I V (dn+1)]) (by simp[results,Tryz.results47,go_sem,q0,q1,q2,q3]) rfl ?_;rw[HQ.out];refine⟨_,rfl,⟨⟨Z x1 x2 x3,Z (M ⟨b,off,O⟩) n uc,rfl,sM,ht6⟩,?_,?_,by simp only;omega,by simp only;omega⟩,hG6⟩
 ·simp only;rw[List.length_take];omega
 ·simp only;exact HL.out
theorem rO.gm {ps:Nat->Addr}{k:Nat}(h:rO w ps qp d g k X):(g.1.length:Int)<=5000/\0<=g.2.2.2/\g.2.2.2<=(k:Int)/\g.2.1.length<=d/\g.2.2.1.length<=d:=by
 obtain⟨hG,s,fs,m,t,hQ,hS,Wt,-⟩:=h;have hd:(aY s).depth=(d:Int):=Wt;have h1:=hS.len;have h2:=hS.snd.bK.long;have h3:=hS.done;have h4:=hS.snd.bK.done;have h5:=hS.snd.gs.done hS.snd.op;have rJ:=sK hd;refine⟨by omega,by omega,by omega,?_,?_⟩
 ·have:=hS.snd.bK.Da;simp only at this;rw[<-hS.tell];show(t.2.1.map _).length<=d;rw[List.length_map,hS.snd.yV.lK]
  have e:∀(l:List Ed) (f:List Int),(gH f l).length=l.length:=fun l=>by
   induction l with
   |nil=>intro f;rfl
   |cons a l ih=>intro f;simp[gH,ih]
  rw[e];simp only;omega
 ·have:=hS.snd.bK.Iy;simp only at this;rw[<-hS.tell];show(t.2.2.1.map _).length<=d;rw[List.length_map,hS.snd.yV.nJ]
  have e:∀(l:List Ed) (f:List Int),(gV f l).length=l.length:=fun l=>by
   induction l with
   |nil=>intro f;rfl
   |cons a l ih=>intro f;simp[gV,ih]
  rw[e];simp only;omega
theorem iX (l:List UInt8):(aR l).size=l.length:=by simp[aR,ByteArray.size]
theorem O_ (g:Gm):Ae g 0 (g.1.length:Int)=(aR g.1,0):=by
 unfold Ae;rw[if_neg (by omega)];simp[aR]
theorem Xz (hL:∀W,aJ w W->H K 40 #[U (M ⟨qp,0,O⟩)] W fun e w'=>e=G (.tuple #[I V (g.1.length:Int),I V 0])/\w'=W)(hD:∀W,aJ w W->H K 25 #[U (M ⟨qp,0,O⟩)] W fun e w'=>e=G (.tuple #[I V g.2.2.2,I V 0])/\w'=W)
 (hR:∀W,aJ w W->H K 39 #[U (M ⟨qp,0,O⟩),I V 0,I V (g.1.length:Int)] W fun e w'=>e=G (.tuple #[.string (aR g.1),I V 0])/\aJ W w')(hm:eU w v g d)(b1:(g.1.length:Int)<=5000):
 H K 26 #[U (M ⟨qp,0,O⟩),v] w fun e w'=>e=G (.bool true)/\aJ w w':=by
 obtain⟨su,sr,rfl,h1,h2⟩:=hm.form;obtain⟨uo,un,uc,rfl⟩:=h1.form;obtain⟨ro,rn,rc,rfl⟩:=h2.form;have b2:=hm.d0;have b3:=hm.d1;have gQ:=iX g.1;obtain⟨w1,dU⟩:∃w1,w1=w.alloc (C #[.string (aR g.1),Z uo un uc,Z ro rn rc,I V g.2.2.2] 36):=⟨_,rfl⟩;have kT:w1.heap[w.heap.size]?=M (C #[.string (aR g.1),Z uo un uc,Z ro rn rc,I V g.2.2.2] 36 (0,0)):=by rw[dU];exact heap_alloc_new w _
 have G1:aJ w w1:=by rw[dU];exact(aJ.refl w).alloc _
 have HL:Hid (∀W,aJ w W->H K 40 #[U (M ⟨qp,0,O⟩)] W fun e w'=>e=G (.tuple #[I V (g.1.length:Int),I V 0])/\w'=W):=hL;have HD:Hid (∀W,aJ w W->H K 25 #[U (M ⟨qp,0,O⟩)] W fun e w'=>e=G (.tuple #[I V g.2.2.2,I V 0])/\w'=W):=hD;have HR:Hid (∀W,aJ w W->H K 39 #[U (M ⟨qp,0,O⟩),I V 0,I V (g.1.length:Int)] W fun e w'=>e=G (.tuple #[.string (aR g.1),I V 0])/\aJ W w'):=hR;obtain⟨c0,-,-,c3⟩:=aZ kT;clear hm h1 h2 kT hL hD hR;generalize aR g.1=T at*;generalize g.2.2.2=dn at*;generalize OY:g.1.length=gl at*;clear OY;subst gQ;go_enter Tryz.func26,Tryz.ntmps26
 go_upto_region 1 with fail
 rw[<-dU];clear dU
 go_upto_region 2 with(go_at_call 40;refine(HL.out _ G1).mono ?_;rintro e w2 ⟨rfl,rfl⟩)
 go_upto_region 3 with(go_at_call 39;refine(HR.out _ G1).mono ?_;rintro e w3 ⟨rfl,jT⟩)
 have G3:=G1.then jT;have y0:=jT.cell c0;have y3:=jT.cell c3;clear c0 c3 G1 jT
 go_upto_region 4 with(go_at_call 25;refine(HD.out _ G3).mono ?_;rintro e w4 ⟨rfl,rfl⟩)
 go_wp2_with fail
 go_ret;exact⟨by simp,G3⟩
theorem iL {ps:Nat->Addr}{k:Nat}(h:rO w ps qp d g k X)(hm:eU w v g d):
 H K 26 #[U (M ⟨qp,0,O⟩),v] w fun e w'=>e=G (.bool true)/\aJ w w':=by
 obtain⟨b1,-,-,-,-⟩:=h.gm;refine Xz (fun W hW=>KO (h.aM hW)) (fun W hW=>s_done (h.aM hW)) (fun W hW=>?_) hm b1;have:=M_ (pos:=0) (n:=(g.1.length:Int)) (h.aM hW) (by omega);rw[O_]at this;exact this
def KQ (w:F)(b:Nat):Prop:=∃aT t mk,w.heap[b]?=M (C aT t mk)/\t≠234/\t≠114/\t≠261/\t≠302
theorem KQ.no {b:Nat}(h:KQ w b){aT:Array Y}{t:TypeId}{f:Nat×Nat}(hb:w.heap[b]?=M (C aT t f))(ht:t=234\/t=114\/t=261\/t=302):False:=by
 obtain⟨rW,t',mk,h1,k1,k2,k3,k4⟩:=h;rw[hb]at h1;cases h1
 rcases ht with e|e|e|e
 ·exact k1 e
 ·exact k2 e
 ·exact k3 e
 ·exact k4 e
theorem KQ.of {b:Nat}{aT:Array Y}{t:TypeId}{f:Nat×Nat}(hb:w.heap[b]?=M (C aT t f))(h1:t≠234)(h2:t≠114)(h3:t≠261)(h4:t≠302):KQ w b:=⟨aT,t,f,hb,h1,h2,h3,h4⟩
theorem aQ.fr2 {w':F}{aB:Nat->Prop}{dp tb depth:Nat}{m:bT}(h:aQ w dp tb depth m)(hF:Fr w w' aB)(hY:∀b,aB b->KQ w b)(h1:¬aB dp)(h2:¬aB tb):aQ w' dp tb depth m:=by
 obtain⟨u,r,k1,k2,k3,k4⟩:=h;have no:∀ {b:Nat} {aT:Array Y} {t:TypeId} {f:Nat×Nat},w.heap[b]?=M (C aT t f)->(t=234\/t=114\/t=261\/t=302)->¬aB b:=fun hb ht e=>(hY _ e).no hb ht
 exact⟨u,r,hF.at k1 h1,k2.fr hF h2 (fun b la ra p h l hb=>no hb (by decide)),k3.fr hF (fun b aT hb=>no hb (by decide)) (fun b aT hb=>no hb (by decide)),k4.fr hF (fun b aT hb=>no hb (by decide)) (fun b aT hb=>no hb (by decide))⟩
theorem pF.fr2 {w':F}{aB:Nat->Prop}{s:Sc}{fs:List bF}{m:bT}(h:pF w qp s fs m X)(hF:Fr w w' aB)(hY:∀b,aB b->KQ w b)(hX:∀b,X b->¬aB b):pF w' qp s fs m X:=by
 rcases h with⟨h0,db,fv,rs,h1,h2,h3,rfl⟩|⟨h0,db,fv,rs,sp,lp,dp,tb,h1,h2,rfl⟩
 ·exact Or.inl ⟨h0,db,fv,rs,h1.fr hF (fun b hb=>hX b (Or.inr hb)),h2,hF.at h3 (hX _ (Or.inl rfl)),rfl⟩
 ·exact Or.inr ⟨h0,db,fv,rs,sp,lp,dp,tb,⟨h1.disk.fr hF (fun b hb=>hX b (Or.inr (Or.inl hb))),hF.at h1.qu (hX _ (Or.inl rfl)),hF.at h1.wS (hX _ (Or.inr (Or.inr (Or.inl rfl)))),hF.at h1.rH (hX _ (Or.inr (Or.inr (Or.inr (Or.inl rfl))))),h1.Uw.fr2 hF hY (hX _ (Or.inr (Or.inr (Or.inr (Or.inr (Or.inl rfl)))))) (hX _ (Or.inr (Or.inr (Or.inr (Or.inr (Or.inr rfl))))))⟩,h2,rfl⟩
end Go.Proofs.YtfplgfodoiiobaaGreatDoor
