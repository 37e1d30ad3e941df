/- The walks of the statement's own helpers: pick, digits, alike. -/
import Derived.Test.YtfplgfodoiiobaaGreatDoorWalk12
import Derived.Deep.Draws
import Derived.BigQuiet
import Derived.Deep.QuietTactic
namespace Go.Proofs.YtfplgfodoiiobaaGreatDoor
open Go.RowKit

theorem tmod_in {c n : Int} (h0 : 0 ≤ c) (hn : 1 ≤ n) : 0 ≤ c.tmod n ∧ c.tmod n < n := ⟨Int.tmod_nonneg n h0, Int.tmod_lt_of_pos c (by omega)⟩

set_option maxHeartbeats 400000 in
theorem pick_any {w : World} {c n : Int} (hc1 : -9223372036854775808 ≤ c) (hc2 : c ≤ 9223372036854775807) (hn : 1 ≤ n) (hn2 : n ≤ 9223372036854775807) :
    Calls Tryz.prog 15 #[.int .i64 c, .int .i64 n] w fun e w' => ∃ r : Int, e = .returned (.int .i64 r) ∧ 0 ≤ r ∧ r < n ∧ w' = w := by
  by_cases h0 : c < 0
  · have hn0 : (n == 0) = false := by simp; omega
    go_enter Tryz.func15, Tryz.ntmps15
    go_wp2
    go_ret
    refine ⟨_, rfl, ?_, ?_, rfl⟩
    · rw [← Int.neg_tmod]; exact (tmod_in (by omega) hn).1
    · rw [← Int.neg_tmod]; exact (tmod_in (by omega) hn).2
  · have hn0 : (n == 0) = false := by simp; omega
    go_enter Tryz.func15, Tryz.ntmps15
    go_wp2
    go_ret
    refine ⟨_, rfl, ?_, ?_, rfl⟩
    · exact Int.emod_nonneg _ (by omega)
    · exact Int.emod_lt_of_pos _ (by omega)

/-- A slice of ints reads as these numbers. -/
def RdI (w : World) (ao : Option Addr) (zs : List Int) : Prop := zs = [] ∨ ∃ b off, ao = some ⟨b, off, none⟩ ∧ ∀ i, i < zs.length → w.cell? ⟨b, off + i, none⟩ = some (.int .i64 (zs.getD i 0))

end Go.Proofs.YtfplgfodoiiobaaGreatDoor
