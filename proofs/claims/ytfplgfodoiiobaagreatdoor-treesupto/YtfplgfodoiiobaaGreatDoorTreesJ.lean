/- The walk of the statement's helper own: a list that came out becomes the caller's, who writes it full and appends to it. -/
import Derived.Test.YtfplgfodoiiobaaGreatDoorTreesI
import Derived.ArgAppend
import Derived.Deep.RegionLawGrows
import Derived.Deep.AppendLies
import Derived.Laws.OwnMore
namespace Go.Proofs.YtfplgfodoiiobaaGreatDoor
open Go.RowKit

theorem pcs_set (x y : Int) : ∀ (l : List (Int × Int)) (k : Nat), k < l.length → ((pcs l).set (k * 2) (.int .i64 x)).set (k * 2 + 1) (.int .i64 y) = pcs (l.set k (x, y)) := by
  intro l
  induction l with
  | nil => intro k h; simp at h
  | cons p l ih =>
    intro k h
    cases k with
    | zero => simp [pcs_cons]
    | succ k =>
      have := ih k (by simpa using h)
      rw [pcs_cons, show (k + 1) * 2 = k * 2 + 1 + 1 from by omega]
      simp only [List.set_cons_succ]
      rw [pcs_cons]
      simpa using this

theorem rep_set (p : Int × Int) (l : List (Int × Int)) (k : Nat) (h : k < l.length) : (List.replicate k p ++ l.drop k).set k p = List.replicate (k + 1) p ++ l.drop (k + 1) := by
  rw [List.set_append_right _ _ (by simp), List.length_replicate, Nat.sub_self, List.drop_eq_getElem_cons h, List.set_cons_zero, List.replicate_succ', List.append_assoc]
  rfl

/-- A piece is written into a row of the call's own. -/
theorem OwnP.store {w : World} {B g n cap k : Nat} {l : List (Int × Int)} (x y : Int) (h : OwnP w B (.slice (some ⟨g, 0, none⟩) n cap) l) (hk : k < l.length) :
    OwnP ((w.setCell ⟨g, k * 2, none⟩ (.int .i64 x)).setCell ⟨g, k * 2 + 1, none⟩ (.int .i64 y)) B (.slice (some ⟨g, 0, none⟩) n cap) (l.set k (x, y)) := by
  have hn : n = l.length := by
    rcases h.2 with ⟨h', -⟩ | ⟨g', cap', cur, h', -⟩
    · cases h'
    · cases h'; rfl
  subst hn
  have h1 := (World.ownsRow.stored h (k * 2) (.int .i64 x)).1
  have h2 := (World.ownsRow.stored h1 (k * 2 + 1) (.int .i64 y)).1
  unfold OwnP
  rw [← pcs_set x y l k hk, List.length_set]
  exact h2

/-- A row that has pieces lies in a block; its cells can be written. -/
theorem OwnP.block {w : World} {B n cap : Nat} {ao : Option Addr} {l : List (Int × Int)} (h : OwnP w B (.slice ao n cap) l) {k : Nat} (hk : k < l.length) :
    ∃ g cur, ao = some ⟨g, 0, none⟩ ∧ B ≤ g ∧ w.heap[g]? = some (.cells cur 114 (0, 0)) ∧ w.cell? ⟨g, k * 2, none⟩ = some (.int .i64 (l.getD k (0, 0)).1) ∧ w.cell? ⟨g, k * 2 + 1, none⟩ = some (.int .i64 (l.getD k (0, 0)).2)
      ∧ w.frozen? ⟨g, k * 2, none⟩ = false ∧ w.frozen? ⟨g, k * 2 + 1, none⟩ = false := by
  have h' := h
  rcases h.2 with ⟨-, h0⟩ | ⟨g, cap', cur, hv, hg, hh, -⟩
  · omega
  · cases hv
    obtain ⟨e1, e2⟩ := pcs_get l k hk
    exact ⟨g, cur, rfl, hg, hh, (World.ownsRow.cellAt h' (k * 2) (by omega)).trans e1, (World.ownsRow.cellAt h' (k * 2 + 1) (by omega)).trans e2, World.ownsRow.frozenAt h' _, World.ownsRow.frozenAt h' _⟩

/-- The caller has written k pieces of the list. -/
def OwnR (w wr : World) (B wb c : Nat) (vts vp vm : Value) (ao : Option Addr) (l : List (Int × Int)) (k : Nat) : Prop :=
  wr.heap[wb]? = some (worldB vts ((c : Int) + 1) vp vm) ∧ OwnP wr B (.slice ao l.length l.length) (List.replicate k (mk c) ++ l.drop k) ∧ Fr w wr (fun b => b = wb ∨ ∃ a, ao = some a ∧ b = a.block) ∧ Below B w wr

theorem OwnR.start {w : World} {B wb c : Nat} {vts vp vm : Value} {ao : Option Addr} {l : List (Int × Int)} (hw : w.heap[wb]? = some (worldB vts (c : Int) vp vm)) (hB : B ≤ wb) (hl : OwnP w B (.slice ao l.length l.length) l) :
    OwnR w (w.setCell ⟨wb, 2, none⟩ (.int .i64 ((c : Int) + 1))) B wb c vts vp vm ao l 0 := by
  have hF := Fr.set w ⟨wb, 2, none⟩ (.int .i64 ((c : Int) + 1))
  have hlt := lt_of_some hw
  refine ⟨?_, ?_, hF.mono (fun b h => Or.inl h), (Below.refl _ _).setCell (p := ⟨wb, 2, none⟩) hB _⟩
  · have := heap_setCell_same w wb 2 _ _ (.int .i64 ((c : Int) + 1)) hw
    rw [this]; rfl
  · simp only [List.replicate_zero, List.nil_append, List.drop_zero]
    refine ownsRow_fr hl hF (fun g cur _ e hx => ?_)
    simp only at hx
    subst hx
    exact not_both e hw (ty_ne (by decide))

theorem OwnR.next {w wr w2 : World} {B wb c : Nat} {vts vp vm : Value} {g : Nat} {l : List (Int × Int)} {k : Nat} (h : OwnR w wr B wb c vts vp vm (some ⟨g, 0, none⟩) l k) (hk : k < l.length) (hb2 : Below wr.heap.size wr w2) (hgB : B ≤ g)
    (hg : ∃ cur, wr.heap[g]? = some (.cells cur 114 (0, 0))) :
    OwnR w ((w2.setCell ⟨g, k * 2, none⟩ (.int .i64 (-((c : Int) + 1)))).setCell ⟨g, k * 2 + 1, none⟩ (.int .i64 ((c : Int) + 1))) B wb c vts vp vm (some ⟨g, 0, none⟩) l (k + 1) := by
  obtain ⟨h1, h2, h3, h4⟩ := h
  obtain ⟨cur, hg⟩ := hg
  have hne : wb ≠ g := fun e => by subst e; exact not_both h1 hg (ty_ne (by decide))
  have B2 : Below B w w2 := by
    refine ⟨hb2.os.trans h4.os, hb2.tape.trans h4.tape, hb2.output.trans h4.output, Nat.le_trans h4.size hb2.size, fun b hb => ?_⟩
    exact (hb2.block b (by have := lt_of_some hg; omega)).trans (h4.block b hb)
  refine ⟨?_, ?_, ?_, (B2.setCell (p := ⟨g, k * 2, none⟩) hgB _).setCell (p := ⟨g, k * 2 + 1, none⟩) hgB _⟩
  · rw [Below.heap_setCell _ _ _ _ hne, Below.heap_setCell _ _ _ _ hne, hb2.block wb (lt_of_some h1)]
    exact h1
  · have := OwnP.store (k := k) (-((c : Int) + 1)) ((c : Int) + 1) (h2.below hb2) (by simp; omega)
    rw [← rep_set (mk c) l k hk]
    exact this
  · refine h3.trans ((Fr.of_below hb2 _).trans (((Fr.set _ _ _).mono ?_).trans ((Fr.set _ _ _).mono ?_)))
    · intro b hb; exact Or.inr ⟨_, rfl, hb⟩
    · intro b hb; exact Or.inr ⟨_, rfl, hb⟩

/-- 'append(l, ..)', l without room: a new row, and nothing that was there is written. -/
theorem wp_grow_pieces {w : World} {ops : Array Oper} {rest : List Oper} {o : Oper} {a : Act} {Q : Exit → Act → World → Prop} (hgd : o.guard = none) (s x : Operand)
    (ho : o.op = .call { callee := .builtin .append, args := #[s, x], argTypes := #[102, 102] })
    (B : Nat) (ao : Option Addr) (n : Nat) (ys zs : List (Int × Int)) (hn : n = ys.length) (hs : a.eval s = .slice ao n n) (hown : OwnP w B (.slice ao n n) ys) (xb m c : Nat) (hx : a.eval x = .slice (some ⟨xb, 0, none⟩) m c) (hm : m = zs.length) (hr : RdP w (some ⟨xb, 0, none⟩) zs)
    (h0 : 0 < zs.length) (hlen : ys.length + zs.length ≤ 1000000000) (hbase : B ≤ w.heap.size)
    (h : ∀ v' w', OwnP w' B v' (ys ++ zs) → Below w.heap.size w w' → wpList Tryz.prog ops Q rest (a.put o.dst v') w') : wpList Tryz.prog ops Q (o :: rest) a w := by
  obtain ⟨i0, hi, hz0, hz1, hz2⟩ := info_parts Tryz.infoPiece
  subst hm hn
  obtain ⟨ao', cap', e1, e2, e3⟩ := hown.form
  cases e1
  refine wpList_append_grows w hgd s x 102 ho 114 i0 (.agg #[.int .i64 0, .int .i64 0]) 2 16 Tryz.underlying102 hi hz0 hz1 hz2 rfl (by decide) ao ys.length ys.length (pcs ys) hs e3 (pcs_length ys) ?_ ⟨xb, 0, none⟩ zs.length c (pcs zs) hx (pcs_length zs) ?_ ?_ (by omega) (by unfold maxLen; omega) (by omega) ?_
  · intro b hb
    subst hb
    rcases e2 with rfl | ⟨b', off, e, hc⟩
    · intro j u hj; simp [pcs] at hj
    · cases e; exact pcs_cells hc
  · rcases hr with rfl | ⟨b, off, e, hc⟩
    · intro j u hj; simp [pcs] at hj
    · cases e; exact pcs_cells hc
  · intro u hu
    obtain ⟨p, -, hp⟩ := List.mem_flatMap.1 hu
    simp at hp
    rcases hp with rfl | rfl <;> rfl
  · intro v' w' h1 h2
    refine h v' w' ?_ ⟨h2.os, h2.tape, h2.output, h2.size, fun k hk => h2.block k hk (by simp)⟩
    refine OwnP.weak (B' := w.heap.size) ?_ hbase
    unfold OwnP
    rw [pcs_append, List.length_append]
    exact h1

/-- The same at a step of a region that draws its order. -/
theorem step_grow_pieces {w : World} {ops : Array Oper} {o : Oper} {a : Act} {K : Act → World → Prop} {Q : Exit → Act → World → Prop} {E : Prop} (hgd : o.guard = none) (s x : Operand)
    (ho : o.op = .call { callee := .builtin .append, args := #[s, x], argTypes := #[102, 102] })
    (B : Nat) (ao : Option Addr) (n : Nat) (ys zs : List (Int × Int)) (hn : n = ys.length) (hs : a.eval s = .slice ao n n) (hown : OwnP w B (.slice ao n n) ys) (xb m c : Nat) (hx : a.eval x = .slice (some ⟨xb, 0, none⟩) m c) (hm : m = zs.length) (hr : RdP w (some ⟨xb, 0, none⟩) zs)
    (h0 : 0 < zs.length) (hlen : ys.length + zs.length ≤ 1000000000) (hbase : B ≤ w.heap.size)
    (h : ∀ v' w', OwnP w' B v' (ys ++ zs) → Below w.heap.size w w' → K (a.put o.dst v') w') : if Region.wanted o (yielded ops a.tmps) = true then Oper.wp Tryz.prog o a w K Q else E := by
  obtain ⟨i0, hi, hz0, hz1, hz2⟩ := info_parts Tryz.infoPiece
  subst hm hn
  obtain ⟨ao', cap', e1, e2, e3⟩ := hown.form
  cases e1
  refine step_append_grows hgd s x 102 ho 114 i0 (.agg #[.int .i64 0, .int .i64 0]) 2 16 Tryz.underlying102 hi hz0 hz1 hz2 rfl (by decide) ao ys.length ys.length (pcs ys) hs e3 (pcs_length ys) ?_ ⟨xb, 0, none⟩ zs.length c (pcs zs) hx (pcs_length zs) ?_ ?_ (by omega) (by unfold maxLen; omega) (by omega) ?_
  · intro b hb
    subst hb
    rcases e2 with rfl | ⟨b', off, e, hc⟩
    · intro j u hj; simp [pcs] at hj
    · cases e; exact pcs_cells hc
  · rcases hr with rfl | ⟨b, off, e, hc⟩
    · intro j u hj; simp [pcs] at hj
    · cases e; exact pcs_cells hc
  · intro u hu
    obtain ⟨p, -, hp⟩ := List.mem_flatMap.1 hu
    simp at hp
    rcases hp with rfl | rfl <;> rfl
  · intro v' w' h1 h2
    refine h v' w' ?_ ⟨h2.os, h2.tape, h2.output, h2.size, fun k hk => h2.block k hk (by simp)⟩
    refine OwnP.weak (B' := w.heap.size) ?_ hbase
    unfold OwnP
    rw [pcs_append, List.length_append]
    exact h1

/-- The world has grown since. -/
def Grew (w0 w : World) : Prop := Below w0.heap.size w0 w
theorem Grew.refl (w : World) : Grew w w := Below.refl _ _
theorem Grew.drew {w0 w : World} (h : Grew w0 w) : Grew w0 w.drew := ⟨h.os, h.tape, h.output, h.size, h.block⟩
theorem Grew.more {w0 w w' : World} (h : Grew w0 w) (hb : Below w.heap.size w w') : Grew w0 w' := b_trans h hb
theorem Grew.alloc {w0 w : World} (h : Grew w0 w) (o : Obj) : Grew w0 (w.alloc o) := b_trans h (b_alloc _ _)
theorem Grew.cell {w0 w : World} (h : Grew w0 w) {a : Addr} {v : Value} (hc : w0.cell? a = some v) : w.cell? a = some v := cell_later h hc

theorem Grew.le {w0 w : World} (h : Grew w0 w) : w0.heap.size ≤ w.heap.size := h.size

theorem OwnP.grew {w0 w : World} {B : Nat} {v : Value} {l : List (Int × Int)} (h : OwnP w0 B v l) (hg : Grew w0 w) : OwnP w B v l := h.below hg

theorem Tryz.infoSl : (Tryz.prog.info? 102).map (fun i => (i.zero, i.size, i.bytes)) = some (some (.slice none 0 0), 1, 24) := by kernel_rfl

/-- 'append(lists, ..)'. -/
theorem wp_append_lists {w : World} {ops : Array Oper} {rest : List Oper} {o : Oper} {a : Act} {Q : Exit → Act → World → Prop} (hgd : o.guard = none) (s x : Operand)
    (ho : o.op = .call { callee := .builtin .append, args := #[s, x], argTypes := #[66, 66] })
    (B : Nat) (v : Value) (hs news : List Lst) (he : a.eval s = v) (hown : w.ownsRow B 102 1 v hs.length (hs.map Lst.v)) (ad : Addr) (m c : Nat) (hx : a.eval x = .slice (some ad) m c) (hm : m = news.length)
    (hr : ∀ j u, (news.map Lst.v)[j]? = some u → w.cell? (ad.add j) = some u) (hlen : hs.length + news.length ≤ 1000000000) (hbase : B ≤ w.heap.size)
    (h : ∀ v' w', w'.ownsRow B 102 1 v' (hs ++ news).length ((hs ++ news).map Lst.v) → w.grownBy w' v.ownBlock → wpList Tryz.prog ops Q rest (a.put o.dst v') w') : wpList Tryz.prog ops Q (o :: rest) a w := by
  obtain ⟨i0, hi, hz0, hz1, hz2⟩ := info_parts Tryz.infoSl
  subst hm
  refine wpList_append_own w hgd s x 66 ho B 102 i0 (.slice none 0 0) 1 24 Tryz.underlying66 hi hz0 hz1 hz2 rfl (by decide) v hs.length (hs.map Lst.v) he hown ad news.length c (news.map Lst.v) hx (by simp) hr ?_ (by unfold maxLen; omega) (by omega) hbase ?_
  · intro u hu
    obtain ⟨y, -, rfl⟩ := List.mem_map.1 hu
    rfl
  · intro v' w' h1 h2 _
    refine h v' w' ?_ h2
    rw [List.map_append, List.length_append]
    exact h1

/-- 'append(marks, ..)' at a step of a region that draws its order. -/
theorem step_append_mark {w : World} {ops : Array Oper} {o : Oper} {a : Act} {K : Act → World → Prop} {Q : Exit → Act → World → Prop} {E : Prop} (hgd : o.guard = none) (s x : Operand)
    (ho : o.op = .call { callee := .builtin .append, args := #[s, x], argTypes := #[60, 60] })
    (B : Nat) (v : Value) (zs : List Int) (z : Int) (he : a.eval s = v) (hown : OwnI w B v zs) (ad : Addr) (m c : Nat) (hx : a.eval x = .slice (some ad) m c) (hm : m = 1) (hr : w.cell? (ad.add 0) = some (.int .i64 z)) (hlen : zs.length ≤ 100000000) (hbase : B ≤ w.heap.size)
    (h : ∀ v' w', OwnI w' B v' (zs ++ [z]) → w.grownBy w' v.ownBlock → K (a.put o.dst v') w') : if Region.wanted o (yielded ops a.tmps) = true then Oper.wp Tryz.prog o a w K Q else E := by
  obtain ⟨i0, hi, hz0, hz1, hz2⟩ := info_parts Tryz.infoInt
  subst hm
  refine step_append_lies w hgd s x 60 ho B 3 i0 (.int .i64 0) 1 8 Tryz.underlying60 hi hz0 hz1 hz2 rfl (by decide) v zs.length (zs.map (Value.int .i64)) he hown ad 1 c [.int .i64 z] hx rfl ?_ ?_ (by decide) (by unfold maxLen; omega) (by omega) hbase w.heap.size rfl ?_
  · intro j u hj
    cases j with
    | zero => simp at hj; subst hj; exact hr
    | succ j => simp at hj
  · intro u hu; simp at hu; subst hu; rfl
  · intro g cap w' h1 h2 _ _
    exact h _ w' (OwnI.push h1) h2

theorem world_set3 {w : World} {wb : Nat} {vts vp vm v : Value} {n : Int} (h : w.heap[wb]? = some (worldB vts n vp vm)) : (w.setCell ⟨wb, 3, none⟩ v).heap[wb]? = some (worldB vts n v vm) := by
  rw [heap_setCell_same w wb 3 _ _ v h]; rfl
theorem world_set5 {w : World} {wb : Nat} {vts vp vm v : Value} {n : Int} (h : w.heap[wb]? = some (worldB vts n vp vm)) : (w.setCell ⟨wb, 5, none⟩ v).heap[wb]? = some (worldB vts n vp v) := by
  rw [heap_setCell_same w wb 5 _ _ v h]; rfl
theorem world_set0 {w : World} {wb : Nat} {vts vp vm v : Value} {n : Int} (h : w.heap[wb]? = some (worldB vts n vp vm)) : (w.setCell ⟨wb, 0, none⟩ v).heap[wb]? = some (worldB v n vp vm) := by
  rw [heap_setCell_same w wb 0 _ _ v h]; rfl

theorem row_ne {w : World} {B e size n b : Nat} {v : Value} {xs : List Value} {cur : Array Value} {t : TypeId} {f : Nat × Nat} (h : w.ownsRow B e size v n xs) (hb : w.heap[b]? = some (.cells cur t f)) (hne : e ≠ t) : ¬ v.ownBlock = some b := by
  intro hx
  rcases h.2 with ⟨rfl, -⟩ | ⟨g, cap, cur', rfl, -, hh, -⟩
  · cases hx
  · cases hx; exact not_both hh hb (ty_ne hne)

theorem grown_at {w w' : World} {r : Option Nat} (hg : w.grownBy w' r) {b : Nat} {o : Obj} (hb : w.heap[b]? = some o) (hne : ¬ r = some b) : w'.heap[b]? = some o :=
  (hg.block b (lt_of_some hb) (fun e => hne e.symm)).trans hb

theorem OwnP.typed {w : World} {B n cap : Nat} {ao : Option Addr} {l : List (Int × Int)} (h : OwnP w B (.slice ao n cap) l) : ∀ a, ao = some a → ∃ cur, w.heap[a.block]? = some (.cells cur 114 (0, 0)) ∧ B ≤ a.block := by
  intro a ha
  subst ha
  rcases h.2 with ⟨h', -⟩ | ⟨g, cap', cur, hv, hg, hh, -⟩
  · cases h'
  · cases hv; exact ⟨cur, hh, hg⟩

theorem below_grew {w w1 w2 : World} {B : Nat} (h : Below B w w1) (hg : Grew w1 w2) (hB : B ≤ w1.heap.size) : Below B w w2 :=
  ⟨hg.os.trans h.os, hg.tape.trans h.tape, hg.output.trans h.output, Nat.le_trans h.size hg.size, fun b hb => (hg.block b (by omega)).trans (h.block b hb)⟩

theorem row_slice {w : World} {B e size n : Nat} {v : Value} {xs : List Value} (h : w.ownsRow B e size v n xs) : ∃ ao m c, v = .slice ao m c := by
  rcases h.2 with ⟨h', -⟩ | ⟨g, cap', cur, hv, -⟩
  · exact ⟨_, _, _, h'⟩
  · exact ⟨_, _, _, hv⟩

theorem rdp_lit (w : World) (cs : Array Value) (l : List (Int × Int)) (h : cs.toList = pcs l) (hm : l.length ≤ maxLen) : RdP (w.alloc (.cells cs 114)) (some ⟨w.heap.size, 0, none⟩) l := by
  have hl : cs.size = l.length * 2 := by rw [← Array.length_toList, h, pcs_length]
  have := World.ownsRow_lit (base := 0) (e := 114) (size := 2) w cs l.length (Nat.zero_le _) hm hl
  rw [h] at this
  exact RdP.own this

end Go.Proofs.YtfplgfodoiiobaaGreatDoor
