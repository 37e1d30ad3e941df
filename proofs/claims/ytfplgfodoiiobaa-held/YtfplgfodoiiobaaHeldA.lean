/- The walks of the statement's own helpers: pick, digits, alike. -/
import Derived.Test.YtfplgfodoiiobaaWalk12
import Derived.Deep.Draws
import Derived.BigQuiet
import Derived.Deep.QuietTactic
namespace Go.Proofs.Ytfplgfodoiiobaa
open Go.RowKit

theorem tmod_in {c n : Int} (h0 : 0 ≤ c) (hn : 1 ≤ n) : 0 ≤ c.tmod n ∧ c.tmod n < n := ⟨Int.tmod_nonneg n h0, Int.tmod_lt_of_pos c (by omega)⟩

set_option maxHeartbeats 400000 in
theorem pick_any {w : World} {c n : Int} (hc1 : -9223372036854775808 ≤ c) (hc2 : c ≤ 9223372036854775807) (hn : 1 ≤ n) (hn2 : n ≤ 9223372036854775807) :
    Calls Try.prog 7 #[.int .i64 c, .int .i64 n] w fun e w' => ∃ r : Int, e = .returned (.int .i64 r) ∧ 0 ≤ r ∧ r < n ∧ w' = w := by
  by_cases h0 : c < 0
  · have hn0 : (n == 0) = false := by simp; omega
    go_enter Try.func7, Try.ntmps7
    go_wp2
    go_ret
    refine ⟨_, rfl, ?_, ?_, rfl⟩
    · rw [← Int.neg_tmod]; exact (tmod_in (by omega) hn).1
    · rw [← Int.neg_tmod]; exact (tmod_in (by omega) hn).2
  · have hn0 : (n == 0) = false := by simp; omega
    go_enter Try.func7, Try.ntmps7
    go_wp2
    go_ret
    refine ⟨_, rfl, ?_, ?_, rfl⟩
    · exact Int.emod_nonneg _ (by omega)
    · exact Int.emod_lt_of_pos _ (by omega)

set_option maxHeartbeats 400000 in
theorem digits_any {w : World} {n : Nat} (hn : n ≤ 1000000) :
    Calls Try.prog 13 #[.int .i64 (n : Int)] w fun e w' => ∃ d : Nat, e = .returned (.int .i64 (d : Int)) ∧ n < 2 ^ d ∧ d ≤ n ∧ w' = w := by
  go_enter Try.func13, Try.ntmps13
  go_wp2_with fail
  go_loop [0, 3] (fun m d => ∃ (a k : Nat), m = .int .i64 (a : Int) ∧ d = .int .i64 (k : Int) ∧ n < (a + 1) * 2 ^ k ∧ a + k ≤ n) (fun m _ => (intOf m).toNat)
  case atStart => exact ⟨n, 0, rfl, rfl, by simp, by omega⟩
  case round =>
    obtain ⟨a, k, rfl, rfl, h1, h2⟩ := hrel
    have H1 : Hid (n < (a + 1) * 2 ^ k) := h1
    clear h1
    by_cases ha : 0 < a
    · go_wp2_with fail
      go_round
      case rel =>
        refine ⟨a / 2, k + 1, by go_num, by go_num, ?_, by omega⟩
        have h1 := H1.out
        have : (a + 1) * 2 ^ k ≤ (a / 2 + 1) * 2 ^ (k + 1) := by
          rw [Nat.pow_succ, Nat.mul_comm (2 ^ k) 2, ← Nat.mul_assoc]
          exact Nat.mul_le_mul_right _ (by omega)
        omega
      case measure => simp [intOf]; omega
    · have ha0 : a = 0 := by omega
      subst ha0
      go_wp2_with fail
      go_ret
      exact ⟨k, rfl, by have := H1.out; omega, by omega, rfl⟩

/-- A slice of ints reads as these numbers. -/
def RdI (w : World) (ao : Option Addr) (zs : List Int) : Prop := zs = [] ∨ ∃ b off, ao = some ⟨b, off, none⟩ ∧ ∀ i, i < zs.length → w.cell? ⟨b, off + i, none⟩ = some (.int .i64 (zs.getD i 0))

set_option maxHeartbeats 1000000 in
theorem alike_any {w : World} {ao bo : Option Addr} {la ca lb cb : Nat} {zs : List Int} (ha : RdI w ao zs) (hb : RdI w bo zs) (e1 : la = zs.length) (e2 : lb = zs.length) (hlen : zs.length ≤ 100000000) :
    Calls Try.prog 9 #[.slice ao la ca, .slice bo lb cb] w fun e w' => e = .returned (.bool true) ∧ ∃ n, w' = w.drewN n := by
  subst e1 e2
  go_enter Try.func9, Try.ntmps9
  go_wp2_with fail
  go_loopw [5] (fun i wr => ∃ k : Nat, k ≤ zs.length ∧ i = .int .i64 (k : Int) ∧ ∃ n, wr = w.drewN n) (fun i _ => zs.length - (intOf i).toNat)
  case atStart => exact ⟨0, Nat.zero_le _, rfl, 0, rfl⟩
  case round =>
    obtain ⟨k, hk, rfl, n, rfl⟩ := hrel
    by_cases hlt : k < zs.length
    · have ca : ∃ b off, ao = some ⟨b, off, none⟩ ∧ w.cell? ⟨b, off + k, none⟩ = some (.int .i64 (zs.getD k 0)) := by
        rcases ha with rfl | ⟨b, off, h1, h2⟩
        · simp at hlt
        · exact ⟨b, off, h1, h2 k hlt⟩
      have cb : ∃ b off, bo = some ⟨b, off, none⟩ ∧ w.cell? ⟨b, off + k, none⟩ = some (.int .i64 (zs.getD k 0)) := by
        rcases hb with rfl | ⟨b, off, h1, h2⟩
        · simp at hlt
        · exact ⟨b, off, h1, h2 k hlt⟩
      obtain ⟨b1, o1, rfl, c1⟩ := ca
      obtain ⟨b2, o2, rfl, c2⟩ := cb
      generalize zs.getD k 0 = z at c1 c2
      have i1 : (0 : Int) ≤ (k : Int) := by omega
      have i2 : (k : Int) < (zs.length : Int) := by omega
      clear ha hb
      go_wp2_with fail
      go_quiet (fail)
      go_wp2_with fail
      go_roundw
      case rel => exact ⟨k + 1, by omega, by go_num, _, rfl⟩
      case measure => simp [intOf]; omega
    · go_wp2_with fail
      go_ret
      exact ⟨rfl, n, rfl⟩

end Go.Proofs.Ytfplgfodoiiobaa
