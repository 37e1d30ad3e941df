/- The walk of 'join', by induction on the two heights. -/
import Derived.Test.YtfplgfodoiiobaaGreatDoorWalk4
namespace Go.Proofs.YtfplgfodoiiobaaGreatDoor
open Go.RowKit

def JoinSaid (n : Nat) : Prop := ∀ (w : World) (la ra : Option Addr) (hl hr : Nat) (ll lr : List (Int × Int)) (x y : Int), hl + hr ≤ n →
    T w la hl ll → T w ra hr lr → ll.length + lr.length ≤ 9000 → okL ll → okL lr → okP (x, y) →
    Calls Tryz.prog 96 #[.pointer la, .agg #[.int .i64 x, .int .i64 y], .pointer ra] w fun e w' =>
      ∃ a h, e = .returned (.pointer a) ∧ T w' a h (ll ++ (x, y) :: lr) ∧ max hl hr ≤ h ∧ h ≤ 1 + max hl hr ∧ Below w.heap.size w w'

set_option maxHeartbeats 1000000 in
theorem join_flat {w : World} {la ra : Option Addr} {hl hr : Nat} {ll lr : List (Int × Int)} (x y : Int) (h1 : hl ≤ hr + 1) (h2 : hr ≤ hl + 1)
    (tl : T w la hl ll) (tr : T w ra hr lr) (hlen : ll.length + lr.length ≤ 9000) (okl : okL ll) (okr : okL lr) (okx : okP (x, y)) :
    Calls Tryz.prog 96 #[.pointer la, .agg #[.int .i64 x, .int .i64 y], .pointer ra] w fun e w' =>
      ∃ a h, e = .returned (.pointer a) ∧ T w' a h (ll ++ (x, y) :: lr) ∧ max hl hr ≤ h ∧ h ≤ 1 + max hl hr ∧ Below w.heap.size w w' := by
  have gl := tl.hle
  have gr := tr.hle
  have hc : (1 < (hl : Int) - (hr : Int)) = False := by simp; omega
  have hc2 : ((hl : Int) - (hr : Int) < -1) = False := by simp; omega
  go_enter Tryz.func96, Tryz.ntmps96
  go_wp2_with fail
  refine (levels_any (tl.below (b_alloc _ _))).mono ?_
  rintro e w1 ⟨rfl, rfl⟩
  go_wp2_with fail
  refine (levels_any (tr.below (b_alloc _ _))).mono ?_
  rintro e w1 ⟨rfl, rfl⟩
  go_wp2_with fail
  refine (above_any x y (tl.below (b_alloc _ _)) (tr.below (b_alloc _ _)) h1 h2 (by omega) (by omega) okl okr okx).mono ?_
  rintro e w1 ⟨a, rfl, ta, hB'⟩
  go_wp2_with fail
  go_ret
  exact ⟨a, _, rfl, ta, by omega, by omega, b_trans (b_alloc _ _) hB'⟩

set_option maxHeartbeats 1000000 in
theorem join_left {n : Nat} (ih : Hid (JoinSaid n)) {w : World} {la ra : Option Addr} {hl hr : Nat} {ll lr : List (Int × Int)} (x y : Int) (h1 : hr + 1 < hl) (hn : hl + hr ≤ n + 1)
    (tl : T w la hl ll) (tr : T w ra hr lr) (hlen : ll.length + lr.length ≤ 9000) (okl : okL ll) (okr : okL lr) (okx : okP (x, y)) :
    Calls Tryz.prog 96 #[.pointer la, .agg #[.int .i64 x, .int .i64 y], .pointer ra] w fun e w' =>
      ∃ a h, e = .returned (.pointer a) ∧ T w' a h (ll ++ (x, y) :: lr) ∧ max hl hr ≤ h ∧ h ≤ 1 + max hl hr ∧ Below w.heap.size w w' := by
  have gl := tl.hle
  have gr := tr.hle
  have hc : (1 < (hl : Int) - (hr : Int)) = True := by simp; omega
  rcases tl.inv with ⟨rfl, rfl, rfl⟩ | ⟨b, a1, a2, p, g1, g2, L1, L2, rfl, hb, t1, t2, E1, E2, e1, e2⟩
  · omega
  · obtain ⟨c0, c1, c2, c3, -, -, -⟩ := node_cells hb
    have hlt := World.block_lt_of_cell? _ _ c0
    clear hb
    obtain ⟨px, py⟩ := p
    have ok1 : okL L1 := by rw [E1] at okl; exact okL_left okl
    have ok2 : okL L2 := by rw [E1] at okl; exact okL_tail (okL_right okl)
    have okp : okP (px, py) := by rw [E1] at okl; exact okL_head (okL_right okl)
    have hlen2 : L1.length + L2.length + lr.length + 1 ≤ 9000 := by rw [E1] at hlen; simp only [List.length_append, List.length_cons] at hlen; omega
    have HE : Hid (ll = L1 ++ (px, py) :: L2 ∧ hl = 1 + max g1 g2) := ⟨E1, E2⟩
    have b3 : g1 + 1 ≤ hl := by omega
    have b4 : g2 + 1 ≤ hl := by omega
    have b5 : hl ≤ g2 + 2 := by omega
    clear E1 E2
    go_enter Tryz.func96, Tryz.ntmps96
    go_wp2_with fail
    refine (levels_any (tl.below (b_alloc _ _))).mono ?_
    rintro e w1 ⟨rfl, rfl⟩
    go_wp2_with fail
    refine (levels_any (tr.below (b_alloc _ _))).mono ?_
    rintro e w1 ⟨rfl, rfl⟩
    go_wp2_with fail
    go_region_held3 (fun w' => w'.cell? ⟨w.heap.size, 0, none⟩ = some (.int .i64 x) ∧ w'.cell? ⟨w.heap.size, 1, none⟩ = some (.int .i64 y)
        ∧ w'.cell? ⟨b, 0, none⟩ = some (.pointer a1) ∧ w'.cell? ⟨b, 1, none⟩ = some (.pointer a2) ∧ w'.cell? ⟨b, 2, none⟩ = some (.int .i64 px) ∧ w'.cell? ⟨b, 3, none⟩ = some (.int .i64 py))
      (first | go_keep | (go_split_ands; refine ⟨?_, ?_, ?_, ?_, ?_, ?_⟩ <;> (refine below_cells (by assumption) ?_; assumption)))
      (first
        | (go_at_call_of 96 (Value.pointer a2); refine (ih.out _ a2 ra g2 hr L2 lr x y (by omega) (t2.below (b_alloc_drew _ _)) (tr.below (b_alloc_drew _ _)) (by omega) ok2 okr okx).mono ?_; rintro e w1 ⟨q, hq, rfl, tq, f1, f2, hb1⟩)
        | (go_at_call_of 152 (Value.pointer a1); refine (balanced_any px py (t1.below (b_trans (b_alloc_drew _ _) hb1)) tq (by omega) (by omega) (by simp; omega) ok1 (okL_append ok2 (okL_cons okx okr)) okp).mono ?_; rintro e w2 ⟨q2, hq2, rfl, tq2, f3, f4, f5, hb2⟩))
    all_goals go_wp2_with fail
    all_goals go_ret
    all_goals
      obtain ⟨E1, E2⟩ := HE.out
      exact ⟨_, hq2, rfl, by rw [E1]; simpa using tq2, by omega, by omega, b_trans (b_trans (b_alloc_drew _ _) hb1) hb2⟩

set_option maxHeartbeats 1000000 in
theorem join_right {n : Nat} (ih : Hid (JoinSaid n)) {w : World} {la ra : Option Addr} {hl hr : Nat} {ll lr : List (Int × Int)} (x y : Int) (h1 : hl + 1 < hr) (hn : hl + hr ≤ n + 1)
    (tl : T w la hl ll) (tr : T w ra hr lr) (hlen : ll.length + lr.length ≤ 9000) (okl : okL ll) (okr : okL lr) (okx : okP (x, y)) :
    Calls Tryz.prog 96 #[.pointer la, .agg #[.int .i64 x, .int .i64 y], .pointer ra] w fun e w' =>
      ∃ a h, e = .returned (.pointer a) ∧ T w' a h (ll ++ (x, y) :: lr) ∧ max hl hr ≤ h ∧ h ≤ 1 + max hl hr ∧ Below w.heap.size w w' := by
  have gl := tl.hle
  have gr := tr.hle
  have hc : (1 < (hl : Int) - (hr : Int)) = False := by simp; omega
  have hc2 : ((hl : Int) - (hr : Int) < -1) = True := by simp; omega
  rcases tr.inv with ⟨rfl, rfl, rfl⟩ | ⟨b, a1, a2, p, g1, g2, L1, L2, rfl, hb, t1, t2, E1, E2, e1, e2⟩
  · omega
  · obtain ⟨c0, c1, c2, c3, -, -, -⟩ := node_cells hb
    have hlt := World.block_lt_of_cell? _ _ c0
    clear hb
    obtain ⟨px, py⟩ := p
    have ok1 : okL L1 := by rw [E1] at okr; exact okL_left okr
    have ok2 : okL L2 := by rw [E1] at okr; exact okL_tail (okL_right okr)
    have okp : okP (px, py) := by rw [E1] at okr; exact okL_head (okL_right okr)
    have hlen2 : L1.length + L2.length + ll.length + 1 ≤ 9000 := by rw [E1] at hlen; simp only [List.length_append, List.length_cons] at hlen; omega
    have HE : Hid (lr = L1 ++ (px, py) :: L2 ∧ hr = 1 + max g1 g2) := ⟨E1, E2⟩
    have b3 : g1 + 1 ≤ hr := by omega
    have b4 : g2 + 1 ≤ hr := by omega
    have b5 : hr ≤ g1 + 2 := by omega
    clear E1 E2
    go_enter Tryz.func96, Tryz.ntmps96
    go_wp2_with fail
    refine (levels_any (tl.below (b_alloc _ _))).mono ?_
    rintro e w1 ⟨rfl, rfl⟩
    go_wp2_with fail
    refine (levels_any (tr.below (b_alloc _ _))).mono ?_
    rintro e w1 ⟨rfl, rfl⟩
    go_wp2_with fail
    go_region_held3 (fun w' => w'.cell? ⟨w.heap.size, 0, none⟩ = some (.int .i64 x) ∧ w'.cell? ⟨w.heap.size, 1, none⟩ = some (.int .i64 y)
        ∧ w'.cell? ⟨b, 0, none⟩ = some (.pointer a1) ∧ w'.cell? ⟨b, 1, none⟩ = some (.pointer a2) ∧ w'.cell? ⟨b, 2, none⟩ = some (.int .i64 px) ∧ w'.cell? ⟨b, 3, none⟩ = some (.int .i64 py))
      (first | go_keep | (go_split_ands; refine ⟨?_, ?_, ?_, ?_, ?_, ?_⟩ <;> (refine below_cells (by assumption) ?_; assumption)))
      (first
        | (go_at_call_of 96 (Value.pointer a1); refine (ih.out _ la a1 hl g1 ll L1 x y (by omega) (tl.below (b_alloc_drew _ _)) (t1.below (b_alloc_drew _ _)) (by omega) okl ok1 okx).mono ?_; rintro e w1 ⟨q, hq, rfl, tq, f1, f2, hb1⟩)
        | (go_at_call_of 152 (Value.pointer a2); refine (balanced_any px py tq (t2.below (b_trans (b_alloc_drew _ _) hb1)) (by omega) (by omega) (by simp; omega) (okL_append okl (okL_cons okx ok1)) ok2 okp).mono ?_; rintro e w2 ⟨q2, hq2, rfl, tq2, f3, f4, f5, hb2⟩))
    all_goals go_wp2_with fail
    all_goals go_ret
    all_goals
      obtain ⟨E1, E2⟩ := HE.out
      exact ⟨_, hq2, rfl, by rw [E1]; simpa using tq2, by omega, by omega, b_trans (b_trans (b_alloc_drew _ _) hb1) hb2⟩

theorem join_said : ∀ n, JoinSaid n := by
  intro n
  induction n with
  | zero =>
    intro w la ra hl hr ll lr x y hn tl tr hlen okl okr okx
    exact join_flat x y (by omega) (by omega) tl tr hlen okl okr okx
  | succ n ih =>
    intro w la ra hl hr ll lr x y hn tl tr hlen okl okr okx
    by_cases h1 : hr + 1 < hl
    · exact join_left ih x y h1 hn tl tr hlen okl okr okx
    · by_cases h2 : hl + 1 < hr
      · exact join_right ih x y h2 hn tl tr hlen okl okr okx
      · exact join_flat x y (by omega) (by omega) tl tr hlen okl okr okx

theorem join_any {w : World} {la ra : Option Addr} {hl hr : Nat} {ll lr : List (Int × Int)} (x y : Int)
    (tl : T w la hl ll) (tr : T w ra hr lr) (hlen : ll.length + lr.length ≤ 9000) (okl : okL ll) (okr : okL lr) (okx : okP (x, y)) :
    Calls Tryz.prog 96 #[.pointer la, .agg #[.int .i64 x, .int .i64 y], .pointer ra] w fun e w' =>
      ∃ a h, e = .returned (.pointer a) ∧ T w' a h (ll ++ (x, y) :: lr) ∧ Below w.heap.size w w' := by
  refine (join_said (hl + hr) w la ra hl hr ll lr x y (Nat.le_refl _) tl tr hlen okl okr okx).mono ?_
  rintro e w' ⟨a, h, rfl, ta, -, -, hB⟩
  exact ⟨a, h, rfl, ta, hB⟩

end Go.Proofs.YtfplgfodoiiobaaGreatDoor
