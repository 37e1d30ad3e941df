/- The walks of the tree's become and Insert. -/
import Derived.Test.YtfplgfodoiiobaaGreatDoorWalk10
namespace Go.Proofs.YtfplgfodoiiobaaGreatDoor
open Go.RowKit

theorem grown_of_below {w w1 : World} (h : Below w.heap.size w w1) (g : Option Nat) : w.grownBy w1 g := ⟨h.os, h.tape, h.output, h.size, fun k hk _ => h.block k hk⟩
theorem grown_set {w w1 : World} (h : Below w.heap.size w w1) (tb i : Nat) (v : Value) : w.grownBy (w1.setCell ⟨tb, i, none⟩ v) (some tb) :=
  ⟨h.os, h.tape, h.output, by simpa [World.setCell] using h.size, fun k hk hne => (Below.heap_setCell _ _ _ _ (by intro e; exact hne (by rw [e]))).trans (h.block k hk)⟩

set_option maxHeartbeats 400000 in
theorem become_full {w : World} {tb : Nat} {root : Option Addr} {h : Nat} {l : List (Int × Int)} (t : T w root h l) (hlen : 4096 < l.length) :
    Calls Tryz.prog 95 #[.pointer (some ⟨tb, 0, none⟩), .pointer root] w fun e w' => e = .returned (.int .i64 13) ∧ w' = w := by
  have h1 : ((4096 : Int) < (l.length : Int)) := by omega
  go_enter Tryz.func95, Tryz.ntmps95
  go_wp2_with fail
  refine (pieces_any t).mono ?_
  rintro e w ⟨rfl, rfl⟩
  go_wp2_with fail
  go_ret
  exact ⟨rfl, rfl⟩

theorem tree_set {w : World} {tb : Nat} {r root : Option Addr} {h : Nat} {l : List (Int × Int)} (hb : w.heap[tb]? = some (treeB r)) (t : T w root h l) (ok : okL l) (hlen : l.length ≤ 4096) :
    TreeAt (w.setCell ⟨tb, 0, none⟩ (.pointer root)) tb l := by
  refine ⟨root, h, ?_, T.setOff (by simp [World.cell?, hb, treeB]) t, ok, hlen⟩
  exact one_setCell hb

set_option maxHeartbeats 400000 in
theorem become_ok {w : World} {tb : Nat} {r root : Option Addr} {h : Nat} {l : List (Int × Int)} (hb : w.heap[tb]? = some (treeB r)) (t : T w root h l) (hlen : l.length ≤ 4096) :
    Calls Tryz.prog 95 #[.pointer (some ⟨tb, 0, none⟩), .pointer root] w fun e w' => e = .returned (.int .i64 0) ∧ w' = w.setCell ⟨tb, 0, none⟩ (.pointer root) := by
  have h1 : ¬ ((4096 : Int) < (l.length : Int)) := by omega
  obtain ⟨c0, f0⟩ := tree_cell hb
  clear hb
  go_enter Tryz.func95, Tryz.ntmps95
  go_wp2_with fail
  refine (pieces_any t).mono ?_
  rintro e w ⟨rfl, rfl⟩
  go_wp2_with fail
  go_ret
  exact ⟨rfl, rfl⟩

set_option maxHeartbeats 1000000 in
theorem insert_pos {w : World} {tb : Nat} {l : List (Int × Int)} (t : TreeAt w tb l) {pos x y : Int} (hp : pos < 0 ∨ sz l < pos) :
    Calls Tryz.prog 63 #[.pointer (some ⟨tb, 0, none⟩), .int .i64 pos, .agg #[.int .i64 x, .int .i64 y]] w fun e w' => e = .returned (.int .i64 5) ∧ Below w.heap.size w w' := by
  by_cases h0 : pos < 0
  · go_enter Tryz.func63, Tryz.ntmps63
    go_wp2_with fail
    go_ret
    exact ⟨rfl, b_alloc _ _⟩
  · have h1 : sz l < pos := by omega
    go_enter Tryz.func63, Tryz.ntmps63
    go_wp2_with fail
    refine (size_any (t.below (b_alloc _ _))).mono ?_
    rintro e w1 ⟨rfl, rfl⟩
    go_wp2_with fail
    go_ret
    exact ⟨rfl, b_alloc _ _⟩

set_option maxHeartbeats 1000000 in
theorem insert_arg {w : World} {tb : Nat} {l : List (Int × Int)} (t : TreeAt w tb l) {pos x y : Int} (h0 : 0 ≤ pos) (h1 : pos ≤ sz l) (hm : ¬ mayP x y) :
    Calls Tryz.prog 63 #[.pointer (some ⟨tb, 0, none⟩), .int .i64 pos, .agg #[.int .i64 x, .int .i64 y]] w fun e w' => e = .returned (.int .i64 1) ∧ Below w.heap.size w w' := by
  go_enter Tryz.func63, Tryz.ntmps63
  go_wp2_with fail
  refine (size_any (t.below (b_alloc _ _))).mono ?_
  rintro e w1 ⟨rfl, rfl⟩
  go_wp2_with fail
  refine (may_no hm).mono ?_
  rintro e w1 ⟨rfl, hb1⟩
  go_wp2_with fail
  go_ret
  exact ⟨rfl, b_trans (b_alloc _ _) hb1⟩

def insL (l : List (Int × Int)) (pos : Int) (p : Int × Int) : List (Int × Int) := headB l pos ++ p :: tailB l pos

set_option maxHeartbeats 1000000 in
theorem insert_go {w : World} {tb : Nat} {l : List (Int × Int)} (t : TreeAt w tb l) {pos x y : Int} (h0 : 0 ≤ pos) (h1 : pos ≤ sz l) (hm : mayP x y) :
    Calls Tryz.prog 63 #[.pointer (some ⟨tb, 0, none⟩), .int .i64 pos, .agg #[.int .i64 x, .int .i64 y]] w fun e w' =>
      (4096 < (insL l pos (x, y)).length ∧ e = .returned (.int .i64 13) ∧ Below w.heap.size w w')
      ∨ ((insL l pos (x, y)).length ≤ 4096 ∧ e = .returned (.int .i64 0) ∧ TreeAt w' tb (insL l pos (x, y)) ∧ w.grownBy w' (some tb)) := by
  obtain ⟨r, h, hb, ht, ok, hlen⟩ := id t
  obtain ⟨c0, -⟩ := tree_cell hb
  have hlt := lt_of_some hb
  have bl := sz_bd ok
  have hln := len_split l pos
  have okh := okL_headB ok pos
  have okt := okL_tailB ok pos
  go_enter Tryz.func63, Tryz.ntmps63
  go_wp2_with fail
  refine (size_any (t.below (b_alloc _ _))).mono ?_
  rintro e w1 ⟨rfl, rfl⟩
  go_wp2_with fail
  refine (may_yes hm).mono ?_
  rintro e w1 ⟨rfl, hb1⟩
  have c1 := cell_later (b_trans (b_alloc _ _) hb1) c0
  go_wp2_with fail
  refine (split_any (ht.below (b_trans (b_alloc _ _) hb1)) (by omega) ok (by omega)).mono ?_
  rintro e w2 ⟨r1, g1, r2, g2, rfl, t1, t2, hb2⟩
  have k0 : w2.cell? ⟨w.heap.size, 0, none⟩ = some (.int .i64 x) := cell_later (b_trans hb1 hb2) (by simp)
  have k1 : w2.cell? ⟨w.heap.size, 1, none⟩ = some (.int .i64 y) := cell_later (b_trans hb1 hb2) (by simp)
  go_wp2_with fail
  refine (join_any x y t1 t2 (by omega) okh okt (mayP_ok hm)).mono ?_
  rintro e w3 ⟨q, hq, rfl, tq, hb3⟩
  have B3 : Below w.heap.size w w3 := b_trans (b_trans (b_alloc _ _) hb1) (b_trans hb2 hb3)
  have hb' : w3.heap[tb]? = some (treeB r) := (B3.block tb hlt).trans hb
  go_wp2_with fail
  by_cases hf : 4096 < (insL l pos (x, y)).length
  · refine (become_full tq hf).mono ?_
    rintro e w3 ⟨rfl, rfl⟩
    go_wp2_with fail
    go_ret
    exact Or.inl ⟨hf, rfl, B3⟩
  · refine (become_ok hb' tq (Nat.le_of_not_lt hf)).mono ?_
    rintro e w4 ⟨rfl, rfl⟩
    go_wp2_with fail
    go_ret
    exact Or.inr ⟨by omega, rfl, tree_set hb' tq (okL_append okh (okL_cons (mayP_ok hm) okt)) (Nat.le_of_not_lt hf), grown_set B3 _ _ _⟩

end Go.Proofs.YtfplgfodoiiobaaGreatDoor
