/- Laws on rows of ints: append from whatever source, slices of slices; the tree's Delete in one contract. -/
import Derived.Test.YtfplgfodoiiobaaGreatDoorHeldB
import Derived.Laws.AppendOwnNone
namespace Go.Proofs.YtfplgfodoiiobaaGreatDoor
open Go.RowKit

/-- 'append(dst, src...)', dst the call's own row of ints, src whatever slice of ints. -/
theorem wp_append_ints {w : World} {ops : Array Oper} {rest : List Oper} {o : Oper} {a : Act} {Q : Exit → Act → World → Prop} (hgd : o.guard = none) (s x : Operand)
    (ho : o.op = .call { callee := .builtin .append, args := #[s, x], argTypes := #[60, 60] })
    (base : Nat) (v : Value) (ys zs : List Int) (hs : a.eval s = v) (hown : OwnI w base v ys) (ao : Option Addr) (m c : Nat) (hx : a.eval x = .slice ao m c) (hm : m = zs.length) (hnil : ao = none → zs.length = 0 ∧ c = 0) (hr : RdI w ao zs)
    (hlen : ys.length + zs.length ≤ 1000000000) (hbase : base ≤ w.heap.size)
    (h : ∀ v' w', OwnI w' base v' (ys ++ zs) → w.grownBy w' v.ownBlock → wpList Tryz.prog ops Q rest (a.put o.dst v') w') : wpList Tryz.prog ops Q (o :: rest) a w := by
  obtain ⟨i0, hi, hz0, hz1, hz2⟩ := info_parts Tryz.infoInt
  subst hm
  cases ao with
  | none =>
    obtain ⟨h1, rfl⟩ := hnil rfl
    have hz : zs = [] := List.eq_nil_of_length_eq_zero h1
    subst hz
    exact wpList_append_own_none hgd s x 60 ho base 3 i0 1 Tryz.underlying60 hi v _ _ hs hown hx (h v w (by simpa using hown) (World.grownBy.refl _ _))
  | some ad =>
    refine wpList_append_own w hgd s x 60 ho base 3 i0 (.int .i64 0) 1 8 Tryz.underlying60 hi hz0 hz1 hz2 rfl (by decide) v ys.length (ys.map (Value.int .i64)) hs hown ad zs.length c (zs.map (Value.int .i64)) hx (by simp) ?_ ?_ (by unfold maxLen; omega) (by omega) hbase ?_
    · intro j u hj
      rcases hr with rfl | ⟨b, off, e, hc⟩
      · simp at hj
      · cases e
        rw [List.getElem?_map] at hj
        have hlt : j < zs.length := by
          by_cases hlt : j < zs.length
          · exact hlt
          · rw [List.getElem?_eq_none (by omega)] at hj; simp at hj
        rw [List.getElem?_eq_getElem hlt] at hj
        simp at hj
        subst hj
        have := hc j hlt
        simp only [List.getD_eq_getElem?_getD, List.getElem?_eq_getElem hlt, Option.getD_some] at this
        cases j with
        | zero => simpa [Addr.add] using this
        | succ j => simpa [Addr.add] using this
    · intro u hu
      obtain ⟨z, -, rfl⟩ := List.mem_map.1 hu
      rfl
    · intro v' w' h1 h2 _
      refine h v' w' ?_ h2
      unfold OwnI
      simpa using h1

/-- What a row of the call's own is, as a slice. -/
theorem OwnI.form {w : World} {B : Nat} {v : Value} {zs : List Int} (h : OwnI w B v zs) :
    ∃ ao cap, v = .slice ao zs.length cap ∧ RdI w ao zs ∧ zs.length ≤ cap ∧ (ao = none → zs.length = 0 ∧ cap = 0) ∧ (∀ g o, ao = some ⟨g, o, none⟩ → B ≤ g) := by
  have hc := fun g hg => h.cells (g := g) hg
  obtain ⟨-, h2⟩ := h
  rcases h2 with ⟨rfl, h3⟩ | ⟨g, cap, cur, rfl, hg, hh, hcap, -, -, -⟩
  · exact ⟨none, 0, by rw [h3], Or.inl (List.eq_nil_of_length_eq_zero h3), by omega, fun _ => ⟨h3, rfl⟩, (fun _ _ e => by cases e)⟩
  · refine ⟨some ⟨g, 0, none⟩, cap, rfl, Or.inr ⟨g, 0, rfl, fun i hi => ?_⟩, hcap, (fun e => by cases e), (fun g' o e => by cases e; exact hg)⟩
    have := hc g rfl i (.int .i64 (zs.getD i 0)) (by simp [hi])
    cases i with
    | zero => simpa [Addr.add] using this
    | succ i => simpa [Addr.add] using this

theorem OwnI.kept {w w' : World} {B : Nat} {v : Value} {zs : List Int} {g : Option Nat} (h : OwnI w B v zs) (hg : w.grownBy w' g) (hne : ∀ t, g = some t → t < B) : OwnI w' B v zs := by
  refine World.ownsRow.kept h hg ?_
  cases hv : v.ownBlock with
  | none => exact Or.inl rfl
  | some k =>
    refine Or.inr (fun e => ?_)
    have h1 := World.ownsRow.lt h k hv
    have h2 := hne k e.symm
    omega

theorem OwnI.below {w w' : World} {B : Nat} {v : Value} {zs : List Int} (h : OwnI w B v zs) (hB : Below w.heap.size w w') : OwnI w' B v zs :=
  h.kept (grown_of_below hB none) (fun _ e => by cases e)

/-- Reading a cut of a slice. -/
theorem RdI.sub {w : World} {ao : Option Addr} {zs : List Int} {cap p q : Nat} (h : RdI w ao zs) (hcap : zs.length ≤ cap) (hpq : p ≤ q) (hq : q ≤ zs.length) :
    RdI w (if cap = p then ao else ao.map (·.add p)) ((zs.drop p).take (q - p)) := by
  rcases h with rfl | ⟨b, off, rfl, hc⟩
  · left; simp
  · by_cases hz : q = p
    · left; subst hz; simp
    · have hne : ¬ cap = p := by omega
      right
      refine ⟨b, off + p, ?_, fun i hi => ?_⟩
      · rw [if_neg hne]
        cases p with
        | zero => simp [Addr.add]
        | succ p => simp [Addr.add]
      · rw [List.length_take, List.length_drop] at hi
        have := hc (p + i) (by omega)
        rw [← Nat.add_assoc] at this
        rw [this]
        congr 1
        simp only [List.getD_eq_getElem?_getD]
        rw [List.getElem?_take, if_pos (by omega), List.getElem?_drop]

theorem RdI.head {w : World} {ao : Option Addr} {zs : List Int} {q : Nat} (h : RdI w ao zs) (hq : q ≤ zs.length) : RdI w ao (zs.take q) := by
  rcases h with rfl | ⟨b, off, rfl, hc⟩
  · left; simp
  · right
    refine ⟨b, off, rfl, fun i hi => ?_⟩
    rw [List.length_take] at hi
    rw [hc i (by omega)]
    congr 1
    simp only [List.getD_eq_getElem?_getD]
    rw [List.getElem?_take, if_pos (by omega)]

theorem RdI.below {w w' : World} {ao : Option Addr} {zs : List Int} (h : RdI w ao zs) (hB : Below w.heap.size w w') : RdI w' ao zs := by
  rcases h with rfl | ⟨b, off, rfl, hc⟩
  · left; rfl
  · exact Or.inr ⟨b, off, rfl, fun i hi => cell_later hB (hc i hi)⟩

theorem fl_ins {l : List (Int × Int)} (ok : okL l) (p : Int × Int) (pos : Nat) (hp : pos ≤ (fl l).length) : fl (insL l (pos : Int) p) = (fl l).take pos ++ fl [p] ++ (fl l).drop pos := by
  have hl := fl_length ok
  unfold insL
  rw [fl_append, show p :: tailB l (pos : Int) = [p] ++ tailB l (pos : Int) from rfl, fl_append, fl_headB ok, fl_tailB ok _ (by omega)]
  simp

theorem fl_del {l : List (Int × Int)} (ok : okL l) (pos n : Nat) (hp : pos + n ≤ (fl l).length) :
    fl (delL l (pos : Int) (n : Int)) = (fl l).take pos ++ (fl l).drop (pos + n) ∧ fl (goneL l (pos : Int) (n : Int)) = ((fl l).drop pos).take n := by
  have hl := fl_length ok
  have okt := okL_tailB ok (pos : Int)
  have hs := sz_tailB ok (n := (pos : Int)) (by omega) (by omega)
  unfold delL goneL
  rw [fl_append, fl_headB ok, fl_tailB okt _ (by omega), fl_headB okt, fl_tailB ok _ (by omega)]
  simp

/-- Delete, wherever it is allowed and the tree has room. -/
theorem delete_all {w : World} {tb : Nat} {l : List (Int × Int)} (t : TreeAt w tb l) {pos n : Nat} (hp : pos + n ≤ (fl l).length) (hlen : l.length ≤ 4000) :
    Calls Tryz.prog 101 #[.pointer (some ⟨tb, 0, none⟩), .int .i64 (pos : Int), .int .i64 (n : Int)] w fun e w' =>
      ∃ (ao : Option Addr) (g l' : List (Int × Int)), e = .returned (.tuple #[.slice ao g.length g.length, .int .i64 0]) ∧ RdP w' ao g ∧ okL g ∧ g.length ≤ 9000 ∧ TreeAt w' tb l' ∧ w.grownBy w' (some tb)
        ∧ fl g = ((fl l).drop pos).take n ∧ fl l' = (fl l).take pos ++ (fl l).drop (pos + n) ∧ l'.length ≤ l.length + 1 := by
  obtain ⟨r, h, hb, ht, ok, hlen'⟩ := id t
  have hl := fl_length ok
  by_cases hn : n = 0
  · subst hn
    refine (delete_zero t (pos := (pos : Int)) (by omega) (by omega)).mono ?_
    rintro e w' ⟨rfl, rfl⟩
    exact ⟨none, [], l, rfl, Or.inl rfl, okL_nil, by simp, t, World.grownBy.refl _ _, by simp [fl], by simp, by omega⟩
  · obtain ⟨e1, e2⟩ := fl_del ok pos n hp
    have h1 := len_split l (pos : Int)
    have h2 := len_split (tailB l (pos : Int)) (n : Int)
    have okt := okL_tailB ok (pos : Int)
    have hd : (delL l (pos : Int) (n : Int)).length ≤ l.length + 1 ∨ (delL l (pos : Int) (n : Int)).length ≤ l.length + 2 := by
      right; unfold delL; rw [List.length_append]; omega
    refine (delete_go t (pos := (pos : Int)) (n := (n : Int)) (by omega) (by omega) (by omega) (by omega)).mono ?_
    rintro e w' (⟨hf, -, -⟩ | ⟨-, g, rfl, hown, hg, t', hG⟩)
    · omega
    · refine ⟨_, _, _, rfl, RdP.own hown, okL_headB okt _, by unfold goneL; omega, t', hG, e2, e1, ?_⟩
      -- what went has a piece at least
      have hne : 1 ≤ (goneL l (pos : Int) (n : Int)).length := by
        cases hgl : goneL l (pos : Int) (n : Int) with
        | nil =>
          rw [hgl] at e2
          have := congrArg List.length e2
          simp [fl] at this
          omega
        | cons p q => simp
      unfold goneL at hne
      unfold delL
      rw [List.length_append]
      omega

theorem RdI.grown {w w' : World} {ao : Option Addr} {zs : List Int} {tb : Nat} (h : RdI w ao zs) (hg : w.grownBy w' (some tb)) (hge : ∀ g o, ao = some ⟨g, o, none⟩ → tb < g) : RdI w' ao zs := by
  rcases h with rfl | ⟨b, off, rfl, hc⟩
  · left; rfl
  · exact Or.inr ⟨b, off, rfl, fun i hi => grown_cell hg (by have := hge b off rfl; omega) (hc i hi)⟩

theorem ins_len (l : List (Int × Int)) (pos : Int) (p : Int × Int) : (insL l pos p).length = l.length + 1 ∨ (insL l pos p).length = l.length + 2 := by
  have := len_split l pos
  unfold insL
  rw [List.length_append, List.length_cons]
  omega

theorem own_empty (w : World) {B : Nat} (hB : B ≤ w.heap.size) : OwnI (w.alloc (.cells #[] 3)) B (.slice (some ⟨w.heap.size, 0, none⟩) 0 0) [] :=
  World.ownsRow_made w #[] 0 hB (by decide) rfl

theorem own_step {w wr w1 : World} {v : Value} {zs : List Int} (hB : Below w.heap.size w wr) (hown : OwnI wr w.heap.size v zs) (hg : wr.grownBy w1 v.ownBlock) : Below w.heap.size w w1 :=
  hB.grown hg hB.size (fun k e => (World.ownsRow.lt hown k e).1)

theorem OwnI.weak {w : World} {B B' : Nat} {v : Value} {zs : List Int} (h : OwnI w B' v zs) (hB : B ≤ B') : OwnI w B v zs := by
  obtain ⟨h1, h2⟩ := h
  refine ⟨h1, ?_⟩
  rcases h2 with h2 | ⟨g, cap, cur, hv, hg, hh⟩
  · exact Or.inl h2
  · exact Or.inr ⟨g, cap, cur, hv, Nat.le_trans hB hg, hh⟩

theorem nil_take {mo : Option Addr} {zs : List Int} {cp pos : Nat} (h : mo = none → zs.length = 0 ∧ cp = 0) : mo = none → (zs.take pos).length = 0 ∧ cp = 0 := fun e => by
  obtain ⟨h1, h2⟩ := h e
  exact ⟨by rw [List.length_take]; omega, h2⟩
theorem nil_drop {mo : Option Addr} {zs : List Int} {cp p : Nat} (h : mo = none → zs.length = 0 ∧ cp = 0) : (if cp = p then mo else mo.map (·.add p)) = none → (zs.drop p).length = 0 ∧ cp - p = 0 := fun e => by
  by_cases hc : cp = p
  · rw [if_pos hc] at e
    obtain ⟨h1, h2⟩ := h e
    exact ⟨by rw [List.length_drop]; omega, by omega⟩
  · rw [if_neg hc] at e
    cases mo with
    | none =>
      obtain ⟨h1, h2⟩ := h rfl
      exact ⟨by rw [List.length_drop]; omega, by omega⟩
    | some a => simp at e
theorem RdI.tail {w : World} {ao : Option Addr} {zs : List Int} {cap p : Nat} (h : RdI w ao zs) (hcap : zs.length ≤ cap) (hp : p ≤ zs.length) : RdI w (if cap = p then ao else ao.map (·.add p)) (zs.drop p) := by
  have := h.sub (p := p) hcap hp (Nat.le_refl _)
  rwa [List.take_of_length_le (by rw [List.length_drop]; omega)] at this

theorem rdp_one (w : World) (x y : Int) : RdP (w.alloc (.cells #[.int .i64 x, .int .i64 y] 114)) (some ⟨w.heap.size, 0, none⟩) [(x, y)] := by
  refine Or.inr ⟨w.heap.size, 0, rfl, fun i hi => ?_⟩
  have : i = 0 := by simpa using hi
  subst this
  simp

theorem b_drewN {w w1 : World} (h : Below w.heap.size w w1) (n : Nat) : Below w.heap.size w (w1.drewN n) := ⟨h.os, h.tape, h.output, h.size, h.block⟩

/-- What Find tells is the byte. -/
theorem find_byte {l : List (Int × Int)} (ok : okL l) {p : Nat} (hp : p < (fl l).length) {q : Int × Int} (h : (tailB l (p : Int)).head? = some q) : q.1 = (fl l).getD p 0 ∧ 1 ≤ q.2 := by
  have hl := fl_length ok
  have e := fl_tailB ok (p : Int) (by omega)
  have okt := okL_tailB ok (p : Int)
  cases ht : tailB l (p : Int) with
  | nil => rw [ht] at h; simp at h
  | cons a r =>
    rw [ht] at h e okt
    simp at h
    subst h
    have h1 := (okL_head okt).1
    refine ⟨?_, h1⟩
    simp only [fl, Int.toNat_natCast] at e
    have e0 := congrArg (fun z => z[0]?) e
    simp only [List.getElem?_drop, Nat.add_zero] at e0
    rw [List.getElem?_append_left (by simp; omega)] at e0
    rw [List.getElem?_map, List.getElem?_range (by omega)] at e0
    simp only [Option.map_some] at e0
    rw [List.getD_eq_getElem?_getD, ← e0]
    simp

theorem height_dig {h d n : Nat} (hd : n < 2 ^ d) (hh : ∀ e : Nat, 2 * e + 1 ≤ h → 2 ^ e ≤ n) : (h : Int) ≤ 2 * (d : Int) := by
  by_cases hx : 2 * d + 1 ≤ h
  · have := hh d hx; omega
  · omega

theorem fl_nil {l : List (Int × Int)} (ok : okL l) (h : fl l = []) : l = [] := by
  have h1 := fl_length ok
  have h2 := sz_bd ok
  rw [h] at h1
  simp at h1
  exact List.eq_nil_of_length_eq_zero (by omega)

theorem grown_below' {w w1 : World} {o : Obj} (h : (w.alloc o).grownBy w1 (some w.heap.size)) : Below w.heap.size w w1 :=
  ⟨h.os, h.tape, h.output, by have := h.size; simp at this; omega, fun k hk => (h.block k (by simp; omega) (by simp; omega)).trans (Below.heap_alloc _ _ _ hk)⟩

end Go.Proofs.YtfplgfodoiiobaaGreatDoor
