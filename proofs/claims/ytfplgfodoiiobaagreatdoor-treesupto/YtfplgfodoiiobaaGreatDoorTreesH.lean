/- The walks of the statement's own small helpers: num, pick, piece, low. -/
import Derived.Test.YtfplgfodoiiobaaGreatDoorTreesG
namespace Go.Proofs.YtfplgfodoiiobaaGreatDoor
open Go.RowKit

set_option maxHeartbeats 400000 in
theorem num_any {w : World} {c : Int} : Calls Tryz.prog 99 #[.int .i64 c] w fun e w' => e = .returned (.int .i64 c) ∧ w' = w := by
  go_enter Tryz.func99, Tryz.ntmps99
  go_wp2
  go_ret
  exact ⟨rfl, rfl⟩

set_option maxHeartbeats 400000 in
theorem lpick_any {w : World} {c n : Int} (hc1 : -9223372036854775808 ≤ c) (hc2 : c ≤ 9223372036854775807) (hn : 1 ≤ n) (hn2 : n ≤ 9223372036854775807) :
    Calls Tryz.prog 68 #[.int .i64 c, .int .i64 n] w fun e w' => ∃ r : Int, e = .returned (.int .i64 r) ∧ 0 ≤ r ∧ r < n ∧ w' = w := by
  by_cases h0 : c < 0
  · have hn0 : (n == 0) = false := by simp; omega
    go_enter Tryz.func68, Tryz.ntmps68
    go_wp2
    go_ret
    refine ⟨_, rfl, ?_, ?_, rfl⟩
    · rw [← Int.neg_tmod]; exact (tmod_in (by omega) hn).1
    · rw [← Int.neg_tmod]; exact (tmod_in (by omega) hn).2
  · have hn0 : (n == 0) = false := by simp; omega
    go_enter Tryz.func68, Tryz.ntmps68
    go_wp2
    go_ret
    refine ⟨_, rfl, ?_, ?_, rfl⟩
    · exact Int.emod_nonneg _ (by omega)
    · exact Int.emod_lt_of_pos _ (by omega)

set_option maxHeartbeats 400000 in
theorem piece_any {w : World} {n : Int} (h0 : 0 ≤ n) (h1 : n ≤ 1000000000) :
    Calls Tryz.prog 74 #[.int .i64 n] w fun e w' => e = .returned (.agg #[.int .i64 (-n), .int .i64 n]) ∧ Below w.heap.size w w' := by
  have hw : IntKind.i64.wrap (-n) = -n := by rw [IntKind.wrap_i64]; omega
  go_enter Tryz.func74, Tryz.ntmps74
  go_wp2_with fail
  refine bodyPost_ret (v := .agg #[.int .i64 (-n), .int .i64 n]) (by simp [results, Tryz.results74, go_sem]) rfl ⟨rfl, ?_⟩
  exact b_alloc _ _

/-- The block of a tree beside the document's pieces. -/
def pairB (tb : Nat) (v : Value) : Obj := .cells #[.pointer (some ⟨tb, 0, none⟩), v] 119 (0, 0)

theorem pair_cells {w : World} {sb tb : Nat} {v : Value} (h : w.heap[sb]? = some (pairB tb v)) :
    w.cell? ⟨sb, 0, none⟩ = some (.pointer (some ⟨tb, 0, none⟩)) ∧ w.cell? ⟨sb, 1, none⟩ = some v ∧ w.frozen? ⟨sb, 1, none⟩ = false := by
  simp [World.cell?, World.frozen?, h, pairB]

set_option maxHeartbeats 1000000 in
theorem low_any {w : World} {sb tb ca : Nat} {ao : Option Addr} {l : List (Int × Int)} (hp : w.heap[sb]? = some (pairB tb (.slice ao l.length ca))) (t : TreeAt w tb l) :
    Calls Tryz.prog 107 #[.pointer (some ⟨sb, 0, none⟩)] w fun e w' => e = .returned (.bool true) ∧ w' = w := by
  obtain ⟨c0, c1, -⟩ := pair_cells hp
  have hlen : l.length ≤ 4096 := by obtain ⟨_, _, _, _, _, h⟩ := t; exact h
  clear hp
  go_enter Tryz.func107, Tryz.ntmps107
  go_wp2_with fail
  refine (height_any t).mono ?_
  rintro e w ⟨h, rfl, rfl, hz, hd, hh⟩
  by_cases hl : l.length = 0
  · have hnil : l = [] := List.eq_nil_of_length_eq_zero hl
    have h0 : h = 0 := hz.2 hnil
    subst h0
    have hl' : (((l.length : Nat) : Int) == 0) = true := by simp [hl]
    clear hz hd
    go_wp2_with fail
    go_ret
    exact ⟨by simp, rfl⟩
  · have hne : h ≠ 0 := fun e => hl (by rw [hz.1 e]; rfl)
    have hl' : (((l.length : Nat) : Int) == 0) = false := by simp [hl]
    have hl2 : ¬ (((l.length : Nat) : Int) = 0) := by omega
    have H : Hid (∀ d : Nat, 2 * d + 1 ≤ h → 2 ^ d ≤ l.length) := hd
    clear hz hd
    go_wp2_with fail
    refine (rdigits_any (by omega)).mono ?_
    rintro e w ⟨d, rfl, hd, hdn, rfl⟩
    have hle := height_dig hd H.out
    have hd' : (d : Int) ≤ 4096 := by omega
    have h1 : (1 : Int) ≤ (h : Int) := by omega
    have HD : Hid (l.length < 2 ^ d) := hd
    clear hd
    go_wp2_with fail
    go_ret
    refine ⟨?_, rfl⟩
    simp [*]

end Go.Proofs.YtfplgfodoiiobaaGreatDoor
