/- The walk of 'balanced'. -/
import Derived.Test.YtfplgfodoiiobaaGreatDoorWalk3
namespace Go.Proofs.YtfplgfodoiiobaaGreatDoor
open Go.RowKit

theorem T.hle {w : World} {a : Option Addr} {h : Nat} {l : List (Int × Int)} (t : T w a h l) : h ≤ l.length := by
  obtain ⟨k, t⟩ := t
  induction k generalizing a h l with
  | zero => obtain ⟨_, rfl, _⟩ := t; exact Nat.zero_le _
  | succ k ih =>
    rcases t with ⟨_, rfl, _⟩ | ⟨b, la, ra, p, hl, hr, ll, lr, h1, h2, h3, h4, rfl, rfl, h6, h7⟩
    · exact Nat.zero_le _
    · have e1 := ih h3
      have e2 := ih h4
      simp only [List.length_append, List.length_cons]
      omega

theorem turnRight_any {w : World} {la ra : Option Addr} {hl hr : Nat} {ll lr : List (Int × Int)} (x y : Int)
    (tl : T w la hl ll) (tr : T w ra hr lr) (e : hl = hr + 2) (hlen : ll.length + lr.length ≤ 10000) (okl : okL ll) (okr : okL lr) (okx : okP (x, y)) :
    Calls Tryz.prog 218 #[.pointer la, .agg #[.int .i64 x, .int .i64 y], .pointer ra] w fun e w' =>
      ∃ a h, e = .returned (.pointer a) ∧ T w' a h (ll ++ (x, y) :: lr) ∧ hl ≤ h ∧ h ≤ 1 + hl ∧ Below w.heap.size w w' := by
  rcases tl.inv with ⟨rfl, rfl, rfl⟩ | ⟨b, a1, a2, p, h1, h2, L1, L2, rfl, hb, t1, t2, rfl, rfl, e1, e2⟩
  · omega
  · have g1 := t1.hle
    have g2 := t2.hle
    have gr := tr.hle
    simp only [List.length_append, List.length_cons] at hlen
    by_cases hc : h2 ≤ h1
    · refine (turnRight1 p x y hb t1 t2 tr hc (by omega) (by omega) (by omega) (by omega) (okL_left okl) (okL_tail (okL_right okl)) okr (okL_head (okL_right okl)) okx).mono ?_
      rintro e w' ⟨a, rfl, ta, hB⟩
      exact ⟨a, _, rfl, by simpa using ta, by omega, by omega, hB⟩
    · rcases t2.inv with ⟨rfl, rfl, rfl⟩ | ⟨b2, a3, a4, p2, h3, h4, L3, L4, rfl, hb2, t3, t4, rfl, rfl, e3, e4⟩
      · omega
      · have g3 := t3.hle
        have g4 := t4.hle
        simp only [List.length_append, List.length_cons] at hlen
        have ok2 := okL_tail (okL_right okl)
        refine (turnRight2 p p2 x y hb hb2 t1 t2 t3 t4 tr (by omega) (by omega) (by omega) (by omega) (by omega) (by omega) (by omega) (by omega) (by omega) (okL_left okl) (okL_left ok2) (okL_tail (okL_right ok2)) okr (okL_head (okL_right okl)) (okL_head (okL_right ok2)) okx).mono ?_
        rintro e w' ⟨a, rfl, ta, hB⟩
        exact ⟨a, _, rfl, by simpa using ta, by omega, by omega, hB⟩

theorem turnLeft_any {w : World} {la ra : Option Addr} {hl hr : Nat} {ll lr : List (Int × Int)} (x y : Int)
    (tl : T w la hl ll) (tr : T w ra hr lr) (e : hr = hl + 2) (hlen : ll.length + lr.length ≤ 10000) (okl : okL ll) (okr : okL lr) (okx : okP (x, y)) :
    Calls Tryz.prog 219 #[.pointer la, .agg #[.int .i64 x, .int .i64 y], .pointer ra] w fun e w' =>
      ∃ a h, e = .returned (.pointer a) ∧ T w' a h (ll ++ (x, y) :: lr) ∧ hr ≤ h ∧ h ≤ 1 + hr ∧ Below w.heap.size w w' := by
  rcases tr.inv with ⟨rfl, rfl, rfl⟩ | ⟨b, a1, a2, p, h1, h2, L1, L2, rfl, hb, t1, t2, rfl, rfl, e1, e2⟩
  · omega
  · have g1 := t1.hle
    have g2 := t2.hle
    have gl := tl.hle
    simp only [List.length_append, List.length_cons] at hlen
    by_cases hc : h1 ≤ h2
    · refine (turnLeft1 p x y hb t1 t2 tl hc (by omega) (by omega) (by omega) (by omega) (okL_left okr) (okL_tail (okL_right okr)) okl (okL_head (okL_right okr)) okx).mono ?_
      rintro e w' ⟨a, rfl, ta, hB⟩
      exact ⟨a, _, rfl, by simpa using ta, by omega, by omega, hB⟩
    · rcases t1.inv with ⟨rfl, rfl, rfl⟩ | ⟨b2, a3, a4, p2, h3, h4, L3, L4, rfl, hb2, t3, t4, rfl, rfl, e3, e4⟩
      · omega
      · have g3 := t3.hle
        have g4 := t4.hle
        simp only [List.length_append, List.length_cons] at hlen
        have ok1 := okL_left okr
        refine (turnLeft2 p p2 x y hb hb2 t1 t2 t3 t4 tl (by omega) (by omega) (by omega) (by omega) (by omega) (by omega) (by omega) (by omega) (by omega) (okL_tail (okL_right okr)) (okL_left ok1) (okL_tail (okL_right ok1)) okl (okL_head (okL_right okr)) (okL_head (okL_right ok1)) okx).mono ?_
        rintro e w' ⟨a, rfl, ta, hB⟩
        exact ⟨a, _, rfl, by simpa using ta, by omega, by omega, hB⟩

set_option maxHeartbeats 1000000 in
theorem balanced_any {w : World} {la ra : Option Addr} {hl hr : Nat} {ll lr : List (Int × Int)} (x y : Int)
    (tl : T w la hl ll) (tr : T w ra hr lr) (h1 : hl ≤ hr + 2) (h2 : hr ≤ hl + 2) (hlen : ll.length + lr.length ≤ 10000) (okl : okL ll) (okr : okL lr) (okx : okP (x, y)) :
    Calls Tryz.prog 152 #[.pointer la, .agg #[.int .i64 x, .int .i64 y], .pointer ra] w fun e w' =>
      ∃ a h, e = .returned (.pointer a) ∧ T w' a h (ll ++ (x, y) :: lr) ∧ (hl ≤ hr + 1 → hr ≤ hl + 1 → h = 1 + max hl hr) ∧ max hl hr ≤ h ∧ h ≤ 1 + max hl hr ∧ Below w.heap.size w w' := by
  have gl := tl.hle
  have gr := tr.hle
  by_cases hA : hl = hr + 2
  · have hc : ((hl : Int) - (hr : Int) == 2) = true := by simp; omega
    have HA : Hid (hl = hr + 2) := hA
    clear hA
    go_enter Tryz.func152, Tryz.ntmps152
    go_wp2_with fail
    refine (levels_any (tl.below (b_alloc _ _))).mono ?_
    rintro e w1 ⟨rfl, rfl⟩
    go_wp2_with fail
    refine (levels_any (tr.below (b_alloc _ _))).mono ?_
    rintro e w1 ⟨rfl, rfl⟩
    go_wp2_with fail
    refine (turnRight_any x y (tl.below (b_alloc _ _)) (tr.below (b_alloc _ _)) HA.out hlen okl okr okx).mono ?_
    rintro e w1 ⟨a, h, rfl, ta, e1, e2, hB⟩
    go_wp2_with fail
    go_ret
    have hA := HA.out
    exact ⟨a, h, rfl, ta, by omega, by omega, by omega, b_trans (b_alloc _ _) hB⟩
  · by_cases hB : hr = hl + 2
    · have hc : ((hl : Int) - (hr : Int) == 2) = false := by simp; omega
      have hc2 : ((hl : Int) - (hr : Int) == -2) = true := by simp; omega
      have HB : Hid (hr = hl + 2) := hB
      clear hB
      go_enter Tryz.func152, Tryz.ntmps152
      go_wp2_with fail
      refine (levels_any (tl.below (b_alloc _ _))).mono ?_
      rintro e w1 ⟨rfl, rfl⟩
      go_wp2_with fail
      refine (levels_any (tr.below (b_alloc _ _))).mono ?_
      rintro e w1 ⟨rfl, rfl⟩
      go_wp2_with fail
      refine (turnLeft_any x y (tl.below (b_alloc _ _)) (tr.below (b_alloc _ _)) HB.out hlen okl okr okx).mono ?_
      rintro e w1 ⟨a, h, rfl, ta, e1, e2, hB'⟩
      go_wp2_with fail
      go_ret
      have hB := HB.out
      exact ⟨a, h, rfl, ta, by omega, by omega, by omega, b_trans (b_alloc _ _) hB'⟩
    · have hc : ((hl : Int) - (hr : Int) == 2) = false := by simp; omega
      have hc2 : ((hl : Int) - (hr : Int) == -2) = false := by simp; omega
      have g1 : hl ≤ hr + 1 := by omega
      have g2 : hr ≤ hl + 1 := by omega
      clear hA hB
      go_enter Tryz.func152, Tryz.ntmps152
      go_wp2_with fail
      refine (levels_any (tl.below (b_alloc _ _))).mono ?_
      rintro e w1 ⟨rfl, rfl⟩
      go_wp2_with fail
      refine (levels_any (tr.below (b_alloc _ _))).mono ?_
      rintro e w1 ⟨rfl, rfl⟩
      go_wp2_with fail
      refine (above_any x y (tl.below (b_alloc _ _)) (tr.below (b_alloc _ _)) g1 g2 (by omega) (by omega) okl okr okx).mono ?_
      rintro e w1 ⟨a, rfl, ta, hB'⟩
      go_wp2_with fail
      go_ret
      exact ⟨a, _, rfl, ta, fun _ _ => rfl, by omega, by omega, b_trans (b_alloc _ _) hB'⟩

end Go.Proofs.YtfplgfodoiiobaaGreatDoor
