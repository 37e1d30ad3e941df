/- a part of the proof. -/
import Derived.Test.YtfplgfodoiiobabGreatDoorJ09
import Derived.Test.YtfplgfodoiiobabGreatDoorJ10
open Option renaming none->O,some->M
open Go.Value renaming int->I,pointer->U
open Go.IntKind renaming i64->V
open Go.Obj renaming cells->C
open Go.Ending renaming returned->G
open Go renaming World->F,Value->Y,Calls->H
open Go.Proofs.Tryz renaming prog→K
open Go.Proofs.Tryz
namespace Go.Proofs.YtfplgfodoiiobabGreatDoor
set_option maxHeartbeats 16000000
set_option maxRecDepth 100000
open Go.RowKit
theorem OL {w:F}{qp db sp lp dp:Nat}{most depth q a b c:Int}{text:ByteArray}{R:F->Y->Prop}{P:Y->F->Prop}(h:w.heap[qp]?=M (yF most depth db (M sp)))(hs:w.heap[sp]?=M (vP lp dp false))
 (hC:∀W ob cb xb,aL w W->VB W ob cb xb sp lp dp q a b c text->H K 91 #[U (M ⟨dp,0,O⟩),.agg #[I .u8 q,I V a,I V b,I V c],I V most,.func (.func 92) #[] #[U (M ⟨ob,0,O⟩),U (M ⟨cb,0,O⟩),U (M ⟨xb,0,O⟩)]] W λe w'=> ∃v,e=G v/\R w' v)
 (hA:∀W W' v,R W v->aL W W'->H K 48 #[U (M ⟨qp,0,O⟩),v] W' λe w'=> ∃r,e=G r/\P r w'):
 H K 51 #[U (M ⟨qp,0,O⟩),.agg #[I .u8 q,I V a,I V b,I V c],.string text] w λe w'=> ∃r,e=G r/\P r w':=by
 have D:Hid _:=hC;have X:Hid _:=hA;clear hC hA;obtain⟨d,n⟩:∃d,d=(w.alloc (C #[I .u8 q,I V a,I V b,I V c] 128)).alloc (C #[.string text] 9):=⟨_,rfl⟩;have o:aL w d:=by rw[n];exact((aL.refl w).alloc _).alloc _
 have S:d.heap.size=w.heap.size+2:=by rw[n];simp
 have A:d.heap[w.heap.size]?=M (C #[I .u8 q,I V a,I V b,I V c] 128 (0,0)):=by
  rw[n];exact(((aL.refl _).alloc _).block _ (aM (Aag w _))).trans (Aag w _)
 have j:d.heap[w.heap.size+1]?=M (C #[.string text] 9 (0,0)):=by
  rw[n];have:=Aag (w.alloc (C #[I .u8 q,I V a,I V b,I V c] 128)) (C #[.string text] 9);simpa using this
 have z:=Aw ((o.block _ (aM h)).trans h) ((o.block _ (aM hs)).trans hs);simp only[Aaa (show ¬(false=true) by decide)]at z;obtain⟨i,x⟩:∃i,i=d.alloc (C #[U (M ⟨sp,0,O⟩)] 113):=⟨_,rfl⟩;have y:aL d i:=by rw[x];exact(aL.refl d).alloc _
 have k:i.heap[d.heap.size]?=M (C #[U (M ⟨sp,0,O⟩)] 113 (0,0)):=by
  rw[x];exact Aag d _
 rw[S]at k;have g:=o.then y;have t:VB i (w.heap.size+2) w.heap.size (w.heap.size+1) sp lp dp q a b c text:=⟨k,(y.block _ (aM A)).trans A,(y.block _ (aM j)).trans j,false,(g.block _ (aM hs)).trans hs⟩;have B:Hid (∀W,aL i W->H K 91 #[U (M ⟨dp,0,O⟩),.agg #[I .u8 q,I V a,I V b,I V c],I V most,.func (.func 92) #[] #[U (M ⟨w.heap.size+2,0,O⟩),U (M ⟨w.heap.size,0,O⟩),U (M ⟨w.heap.size+1,0,O⟩)]] W λe w'=> ∃v,e=G v/\R w' v):=λW L=>D.out W _ _ _ (g.then L) (t.aN L)
 obtain⟨N,u,-⟩:=t;have o0:i.cell? ⟨w.heap.size+2,0,O⟩=M (U (M ⟨sp,0,O⟩)):=by simp[World.cell?,N]
 have x0:i.cell? ⟨w.heap.size,0,O⟩=M (I .u8 q):=by simp[World.cell?,u]
 have x1:i.cell? ⟨w.heap.size,1,O⟩=M (I V a):=by simp[World.cell?,u]
 have x2:i.cell? ⟨w.heap.size,2,O⟩=M (I V b):=by simp[World.cell?,u]
 have x3:i.cell? ⟨w.heap.size,3,O⟩=M (I V c):=by simp[World.cell?,u]
 obtain⟨p0,-,-,-,-⟩:=fG ((g.block _ (aM h)).trans h);obtain⟨-,-,-,E,-⟩:=fG ((o.block _ (aM h)).trans h);simp only[Abi]at E;obtain⟨-,d1,-⟩:=lH ((g.block _ (aM hs)).trans hs);clear h hs N u D A j k o y g;go_enter func51,ntmps51;go_upto_region 1 with fail;rw[<-n];clear n;go_upto_region 2 with(go_at_call 49;refine z.mono ?_;rintro e w' ⟨rfl,rfl⟩);clear z;go_upto_region 5 with fail;rw[<-x];clear x E
 go_cut [6] (λv wc=>P v wc)
 case first=>
  go_region_law (first
  |(refine dD (by rfl) 91 _ _ (by rfl) #[U (M ⟨dp,0,O⟩),.agg #[I .u8 q,I V a,I V b,I V c],I V most,.func (.func 92) #[] #[U (M ⟨w.heap.size+2,0,O⟩),U (M ⟨w.heap.size,0,O⟩),U (M ⟨w.heap.size+1,0,O⟩)]] (by first|(simp[Act.eval];done)|(simp[Act.eval,Act.put];done)) vw ((B.out _ (by repeat (first|exact aL.refl _|refine aL.drew ?_))).mono ?_);rintro v wR ⟨J,rfl,Q⟩;refine⟨_,rfl,?_⟩)|(refine dD (by rfl) 48 _ _ (by rfl) #[U (M ⟨qp,0,O⟩),J] (by first|(simp[Act.eval];done)|(simp[Act.eval,Act.put];done)) OJ ((X.out _ _ J Q (by repeat (first|exact aL.refl _|refine aL.drew ?_))).mono ?_);rintro v wT ⟨vT,rfl,hT⟩;refine⟨_,rfl,?_⟩))
  all_goals go_wp2_with fail
  all_goals go_meet
  all_goals exact hT
 case rest=>
  go_wp2_with fail;go_ret;exact⟨_,rfl,hcut⟩
end Go.Proofs.YtfplgfodoiiobabGreatDoor
