/- The walks of heads (trees alone), of upTo over steps on trees, and of Trees. -/
import Derived.Test.YtfplgfodoiiobaaGreatDoorTreesU
namespace Go.Proofs.YtfplgfodoiiobaaGreatDoor
open Go.RowKit

theorem ins_a : insR [] 0 10 5 = ([(10, 5)], 0) := by decide
theorem ins_b : insR [(10, 5)] 2 50 1 = ([(10, 2), (50, 1), (12, 3)], 0) := by decide

set_option maxRecDepth 100000 in
set_option maxHeartbeats 1000000 in
theorem heads_trees {w : World} : Calls Tryz.prog 36 #[.bool false] w fun e w' => e = .returned (.bool true) ∧ Below w.heap.size w w' := by
  go_enter Tryz.func36, Tryz.ntmps36
  go_wp2_with fail
  refine (new_any _).mono ?_
  rintro e w1 ⟨rfl, rfl⟩
  have t0 := new_tree w
  have b0 := b_alloc w (treeB none)
  generalize w.alloc (treeB none) = wa at *
  go_wp2_with fail
  refine (insert_all t0).mono ?_
  rintro e w1 ⟨rfl, t1, g1⟩
  rw [ins_a] at t1 ⊢
  go_wp2_with fail
  refine (insert_all t1).mono ?_
  rintro e w2 ⟨rfl, t2, g2⟩
  simp only at t2 ⊢
  rw [ins_b] at t2 ⊢
  go_wp2_with fail
  refine (piecesM_any t2).mono ?_
  rintro e w3 ⟨g, rfl, hown, hg, hb3⟩
  simp only at hown ⊢
  go_wp2_with fail
  refine (same_any (l := [(10, 2), (50, 1), (12, 3)]) ((RdP.own hown).below (b_alloc _ _)) (rdp_lit w3 #[.int .i64 10, .int .i64 2, .int .i64 50, .int .i64 1, .int .i64 12, .int .i64 3] [(10, 2), (50, 1), (12, 3)] rfl (by simp [maxLen])) rfl rfl (by simp)).mono ?_
  rintro e w4 ⟨rfl, nd, rfl⟩
  go_wp2_with fail
  go_ret
  refine ⟨rfl, ?_⟩
  have B2 : Below w.heap.size w w2 := (b0.grown g1 (by have := b0.size; omega) (fun k e => by cases e; exact Nat.le_refl _)).grown g2 (by have := b0.size; have := g1.size; omega) (fun k e => by cases e; exact Nat.le_refl _)
  refine b_drewN ?_ nd
  have B3 : Below w.heap.size w w3 := ⟨hb3.os.trans B2.os, hb3.tape.trans B2.tape, hb3.output.trans B2.output, Nat.le_trans B2.size hb3.size, fun b hb => (hb3.block b (by have := B2.size; omega)).trans (B2.block b hb)⟩
  exact b_trans B3 (b_alloc _ _)

end Go.Proofs.YtfplgfodoiiobaaGreatDoor
