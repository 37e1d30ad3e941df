/- The walks of the document's Digits and Find. -/
import Derived.Test.YtfplgfodoiiobaaGreatDoorTreesF
namespace Go.Proofs.YtfplgfodoiiobaaGreatDoor
open Go.RowKit

set_option maxHeartbeats 400000 in
theorem rdigits_any {w : World} {n : Nat} (hn : n ≤ 1000000) :
    Calls Tryz.prog 160 #[.int .i64 (n : Int)] w fun e w' => ∃ d : Nat, e = .returned (.int .i64 (d : Int)) ∧ n < 2 ^ d ∧ d ≤ n ∧ w' = w := by
  go_enter Tryz.func160, Tryz.ntmps160
  go_wp2_with fail
  go_loop [0, 3] (fun m d => ∃ (a k : Nat), m = .int .i64 (a : Int) ∧ d = .int .i64 (k : Int) ∧ n < (a + 1) * 2 ^ k ∧ a + k ≤ n) (fun m _ => (intOf m).toNat)
  case atStart => exact ⟨n, 0, rfl, rfl, by simp, by omega⟩
  case round =>
    obtain ⟨a, k, rfl, rfl, h1, h2⟩ := hrel
    have H1 : Hid (n < (a + 1) * 2 ^ k) := h1
    clear h1
    by_cases ha : 0 < a
    · go_wp2_with fail
      go_round
      case rel =>
        refine ⟨a / 2, k + 1, by go_num, by go_num, ?_, by omega⟩
        have h1 := H1.out
        have : (a + 1) * 2 ^ k ≤ (a / 2 + 1) * 2 ^ (k + 1) := by
          rw [Nat.pow_succ, Nat.mul_comm (2 ^ k) 2, ← Nat.mul_assoc]
          exact Nat.mul_le_mul_right _ (by omega)
        omega
      case measure => simp [intOf]; omega
    · have ha0 : a = 0 := by omega
      subst ha0
      go_wp2_with fail
      go_ret
      exact ⟨k, rfl, by have := H1.out; omega, by omega, rfl⟩

set_option maxHeartbeats 1000000 in
theorem rfind_no {w : World} {ao : Option Addr} {la ca : Nat} {l : List (Int × Int)} {pos : Int} (hr : RdP w ao l) (e1 : la = l.length) (ok : okL l) (hlen : l.length ≤ 8000) (hp : pos < 0 ∨ sz l ≤ pos) :
    Calls Tryz.prog 105 #[.slice ao la ca, .int .i64 pos] w fun e w' => e = .returned (.tuple #[.agg #[.int .i64 0, .int .i64 0], .int .i64 5]) ∧ Below w.heap.size w w' := by
  subst e1
  by_cases h0 : pos < 0
  · go_enter Tryz.func105, Tryz.ntmps105
    go_wp2_with fail
    exact bodyPost_ret (v := .tuple #[.agg #[.int .i64 0, .int .i64 0], .int .i64 5]) (by simp [results, Tryz.results105, go_sem]) rfl ⟨rfl, b_alloc _ _⟩
  · have h1 : sz l ≤ pos := by omega
    go_enter Tryz.func105, Tryz.ntmps105
    go_wp2_with fail
    refine (rsize_any (hr.below (b_alloc _ _)) rfl ok (by omega)).mono ?_
    rintro e w1 ⟨rfl, rfl⟩
    go_wp2_with fail
    exact bodyPost_ret (v := .tuple #[.agg #[.int .i64 0, .int .i64 0], .int .i64 5]) (by simp [results, Tryz.results105, go_sem]) rfl ⟨rfl, b_alloc _ _⟩

theorem head_at {l : List (Int × Int)} (ok : okL l) {k : Nat} (hk : k < l.length) {n : Int} (h1 : sz (l.take k) ≤ n) (h2 : n < sz (l.take k) + (l.getD k (0, 0)).2) :
    (tailB l n).head? = some ((l.getD k (0, 0)).1 + (n - sz (l.take k)), (l.getD k (0, 0)).2 - (n - sz (l.take k))) := by
  have e : l = l.take k ++ l.getD k (0, 0) :: l.drop (k + 1) := by
    simp [hk]
  have hm := head_mid (a := l.take k) (b := l.drop (k + 1)) (p := l.getD k (0, 0)) (okL_take ok k) h1 h2
  rw [← e] at hm
  exact hm

set_option maxRecDepth 100000 in
set_option maxHeartbeats 1000000 in
theorem rfind_yes {w : World} {ao : Option Addr} {la ca : Nat} {l : List (Int × Int)} {pos : Int} (hr : RdP w ao l) (e1 : la = l.length) (ok : okL l) (hlen : l.length ≤ 8000) (h0 : 0 ≤ pos) (h1 : pos < sz l) :
    Calls Tryz.prog 105 #[.slice ao la ca, .int .i64 pos] w fun e w' =>
      ∃ q : Int × Int, (tailB l pos).head? = some q ∧ e = .returned (.tuple #[.agg #[.int .i64 q.1, .int .i64 q.2], .int .i64 0]) ∧ Below w.heap.size w w' := by
  subst e1
  have bl := sz_bd ok
  go_enter Tryz.func105, Tryz.ntmps105
  go_wp2_with fail
  refine (rsize_any (hr.below (b_alloc _ _)) rfl ok (by omega)).mono ?_
  rintro e w1 ⟨rfl, rfl⟩
  go_wp2_with fail
  go_loop [6, 7] (fun a i => ∃ k : Nat, k ≤ l.length ∧ i = .int .i64 (k : Int) ∧ a = .int .i64 (sz (l.take k)) ∧ sz (l.take k) ≤ pos) (fun _ i => l.length - (intOf i).toNat)
  case atStart => exact ⟨0, Nat.zero_le _, rfl, rfl, h0⟩
  case round =>
    obtain ⟨k, hk, rfl, rfl, hle⟩ := hrel
    have hb := sz_take_bd ok (by omega) k
    by_cases hlt : k < l.length
    · obtain ⟨b, off, rfl, c1, c2⟩ := hr.at hlt
      have okk := okP_at ok hlt
      have HS : Hid (sz (l.take (k + 1)) = sz (l.take k) + (l.getD k (0, 0)).2) := sz_take hlt
      have HH : Hid (pos < sz (l.take k) + (l.getD k (0, 0)).2 → (tailB l pos).head? = some ((l.getD k (0, 0)).1 + (pos - sz (l.take k)), (l.getD k (0, 0)).2 - (pos - sz (l.take k)))) := fun h => head_at ok hlt hle h
      generalize l.getD k (0, 0) = p at c1 c2 okk HS HH
      obtain ⟨px, py⟩ := p
      simp only at c1 c2 HS HH
      unfold okP at okk
      simp only at okk
      have i1 : (0 : Int) ≤ (k : Int) := by omega
      have i2 : (k : Int) < (l.length : Int) := by omega
      have hlb : b < w.heap.size := World.block_lt_of_cell? _ _ c1
      have hnb : w.heap.size ≠ b := by omega
      clear hr
      by_cases hc : pos < sz (l.take k) + py
      · go_wp2_with fail
        go_region_held3 (fun w' => w'.cell? ⟨b, off + k * 2, none⟩ = some (.int .i64 px) ∧ w'.cell? ⟨b, off + k * 2 + 1, none⟩ = some (.int .i64 py)) (go_keep) (fail)
        all_goals go_wp2_with fail
        all_goals
          refine bodyPost_ret (v := .tuple #[.agg #[.int .i64 (IntKind.i64.wrap (IntKind.i64.wrap (px + pos) - sz (l.take k))), .int .i64 (IntKind.i64.wrap (IntKind.i64.wrap (py - pos) + sz (l.take k)))], .int .i64 0]) (by simp [results, Tryz.results105, go_sem]) rfl ⟨_, HH.out hc, ?_, b_alloc_drew _ _⟩
          have e1 : IntKind.i64.wrap (px + pos) = px + pos := by rw [IntKind.wrap_i64]; omega
          have e2 : IntKind.i64.wrap (py - pos) = py - pos := by rw [IntKind.wrap_i64]; omega
          rw [e1, e2]
          have e3 : IntKind.i64.wrap (px + pos - sz (l.take k)) = px + (pos - sz (l.take k)) := by rw [IntKind.wrap_i64]; omega
          have e4 : IntKind.i64.wrap (py - pos + sz (l.take k)) = py - (pos - sz (l.take k)) := by rw [IntKind.wrap_i64]; omega
          rw [e3, e4]
      · go_wp2_with fail
        go_round
        case rel => exact ⟨k + 1, by omega, by go_num, by rw [HS.out], by rw [HS.out]; omega⟩
        case measure => simp [intOf]; omega
    · exfalso
      rw [List.take_of_length_le (by omega)] at hle
      omega

end Go.Proofs.YtfplgfodoiiobaaGreatDoor
