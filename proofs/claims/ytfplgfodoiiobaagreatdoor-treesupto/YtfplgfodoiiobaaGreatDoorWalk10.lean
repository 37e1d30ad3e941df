/- The walks of the tree's smaller methods: New, Size, Height, Pieces, mayStand, become. -/
import Derived.Test.YtfplgfodoiiobaaGreatDoorWalk9
namespace Go.Proofs.YtfplgfodoiiobaaGreatDoor
open Go.RowKit

def treeB (root : Option Addr) : Obj := .cells #[.pointer root] 160 (0, 0)
/-- In block tb lies a tree with those pieces. -/
def TreeAt (w : World) (tb : Nat) (l : List (Int × Int)) : Prop := ∃ root h, w.heap[tb]? = some (treeB root) ∧ T w root h l ∧ okL l ∧ l.length ≤ 4096

theorem tree_cell {w : World} {tb : Nat} {root : Option Addr} (h : w.heap[tb]? = some (treeB root)) : w.cell? ⟨tb, 0, none⟩ = some (.pointer root) ∧ w.frozen? ⟨tb, 0, none⟩ = false := by
  simp [World.cell?, World.frozen?, h, treeB]

theorem lt_of_some {w : World} {b : Nat} {o : Obj} (e : w.heap[b]? = some o) : b < w.heap.size := by
  by_cases hlt : b < w.heap.size
  · exact hlt
  · rw [Array.getElem?_eq_none (by omega)] at e; cases e

theorem TreeAt.lt {w : World} {tb : Nat} {l : List (Int × Int)} (t : TreeAt w tb l) : tb < w.heap.size := by
  obtain ⟨r, h, hb, -⟩ := t; exact lt_of_some hb

/-- Writes elsewhere (into a block that is neither the tree's nor a node's) keep the tree. -/
theorem TreeAt.keep {w w' : World} {tb : Nat} {l : List (Int × Int)} (t : TreeAt w tb l) (hk : ∀ b c, w.heap[b]? = some c → (∃ r, c = treeB r) ∧ b = tb ∨ (∃ la ra p h l, c = nodeB la ra p h l) → w'.heap[b]? = w.heap[b]?) : TreeAt w' tb l := by
  obtain ⟨r, h, hb, ht, hr⟩ := t
  exact ⟨r, h, (hk tb _ hb (Or.inl ⟨⟨r, rfl⟩, rfl⟩)).trans hb, T.keep (fun b la ra p h l e => hk b _ e (Or.inr ⟨la, ra, p, h, l, rfl⟩)) ht, hr⟩

theorem TreeAt.below {w w' : World} {tb : Nat} {l : List (Int × Int)} (t : TreeAt w tb l) (hB : Below w.heap.size w w') : TreeAt w' tb l :=
  t.keep fun b _ e _ => hB.block b (lt_of_some e)

set_option maxHeartbeats 400000 in
theorem new_any (w : World) : Calls Tryz.prog 62 #[] w fun e w' => e = .returned (.pointer (some ⟨w.heap.size, 0, none⟩)) ∧ w' = w.alloc (treeB none) := by
  go_enter Tryz.func62, Tryz.ntmps62
  go_wp2
  go_ret
  exact ⟨rfl, rfl⟩

theorem new_tree (w : World) : TreeAt (w.alloc (treeB none)) w.heap.size [] :=
  ⟨none, 0, by show (w.heap.push _)[w.heap.size]? = _; rw [Array.getElem?_push, if_pos rfl], T.nil _, okL_nil, by simp⟩

set_option maxHeartbeats 400000 in
theorem size_any {w : World} {tb : Nat} {l : List (Int × Int)} (t : TreeAt w tb l) : Calls Tryz.prog 92 #[.pointer (some ⟨tb, 0, none⟩)] w fun e w' => e = .returned (.int .i64 (sz l)) ∧ w' = w := by
  obtain ⟨r, h, hb, ht, -⟩ := t
  obtain ⟨c0, -⟩ := tree_cell hb
  clear hb
  go_enter Tryz.func92, Tryz.ntmps92
  go_wp2_with fail
  refine (bytes_any ht).mono ?_
  rintro e w ⟨rfl, rfl⟩
  go_wp2_with fail
  go_ret
  exact ⟨rfl, rfl⟩

set_option maxHeartbeats 400000 in
theorem height_any {w : World} {tb : Nat} {l : List (Int × Int)} (t : TreeAt w tb l) : Calls Tryz.prog 159 #[.pointer (some ⟨tb, 0, none⟩)] w fun e w' =>
    ∃ h : Nat, e = .returned (.int .i64 (h : Int)) ∧ w' = w ∧ (h = 0 ↔ l = []) ∧ (∀ d : Nat, 2 * d + 1 ≤ h → 2 ^ d ≤ l.length) ∧ h ≤ 4096 := by
  obtain ⟨r, h, hb, ht, -, hlen⟩ := t
  obtain ⟨c0, -⟩ := tree_cell hb
  clear hb
  go_enter Tryz.func159, Tryz.ntmps159
  go_wp2_with fail
  refine (levels_any ht).mono ?_
  rintro e w ⟨rfl, rfl⟩
  go_wp2_with fail
  go_ret
  exact ⟨h, rfl, rfl, ht.zero.1, ht.many, Nat.le_trans ht.hle hlen⟩

set_option maxHeartbeats 400000 in
theorem piecesM_any {w : World} {tb : Nat} {l : List (Int × Int)} (t : TreeAt w tb l) : Calls Tryz.prog 64 #[.pointer (some ⟨tb, 0, none⟩)] w fun e w' =>
    ∃ g, e = .returned (.slice (some ⟨g, 0, none⟩) l.length l.length) ∧ w'.ownsRow g 114 2 (.slice (some ⟨g, 0, none⟩) l.length l.length) l.length (pcs l) ∧ w.heap.size ≤ g ∧ Below w.heap.size w w' := by
  obtain ⟨r, h, hb, ht, -, hlen⟩ := t
  obtain ⟨c0, -⟩ := tree_cell hb
  clear hb
  go_enter Tryz.func64, Tryz.ntmps64
  go_wp2_with fail
  refine (list_any ht (by omega)).mono ?_
  rintro e w1 ⟨g, rfl, hown, hg, hB⟩
  go_wp2_with fail
  go_ret
  exact ⟨g, rfl, hown, hg, hB⟩

def mayP (x y : Int) : Prop := 1 ≤ y ∧ y ≤ 5000 ∧ 0 ≤ x ∧ x ≤ 1000000000
theorem mayP_ok {x y : Int} (h : mayP x y) : okP (x, y) := by unfold mayP at h; unfold okP; simp only; omega

set_option maxHeartbeats 1000000 in
theorem may_yes {w : World} {x y : Int} (h : mayP x y) : Calls Tryz.prog 93 #[.agg #[.int .i64 x, .int .i64 y]] w fun e w' => e = .returned (.bool true) ∧ Below w.heap.size w w' := by
  obtain ⟨h1, h2, h3, h4⟩ := h
  go_enter Tryz.func93, Tryz.ntmps93
  go_wp2
  go_ret
  exact ⟨by simp [*], b_alloc _ _⟩

set_option maxHeartbeats 1000000 in
theorem may_no {w : World} {x y : Int} (h : ¬ mayP x y) : Calls Tryz.prog 93 #[.agg #[.int .i64 x, .int .i64 y]] w fun e w' => e = .returned (.bool false) ∧ Below w.heap.size w w' := by
  unfold mayP at h
  by_cases h1 : 1 ≤ y
  · by_cases h2 : y ≤ 5000
    · by_cases h3 : 0 ≤ x
      · have h4 : ¬ x ≤ 1000000000 := by omega
        go_enter Tryz.func93, Tryz.ntmps93
        go_wp2
        go_ret
        exact ⟨by simp [*], b_alloc _ _⟩
      · go_enter Tryz.func93, Tryz.ntmps93
        go_wp2
        go_ret
        exact ⟨by simp [*], b_alloc _ _⟩
    · go_enter Tryz.func93, Tryz.ntmps93
      go_wp2
      go_ret
      exact ⟨by simp [*], b_alloc _ _⟩
  · go_enter Tryz.func93, Tryz.ntmps93
    go_wp2
    go_ret
    exact ⟨by simp [*], b_alloc _ _⟩

end Go.Proofs.YtfplgfodoiiobaaGreatDoor
