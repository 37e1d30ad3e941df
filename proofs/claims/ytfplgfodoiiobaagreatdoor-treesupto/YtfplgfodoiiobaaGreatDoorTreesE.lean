/- The walks of the document's Cut and Insert. -/
import Derived.Test.YtfplgfodoiiobaaGreatDoorTreesD
namespace Go.Proofs.YtfplgfodoiiobaaGreatDoor
open Go.RowKit

set_option maxHeartbeats 400000 in
theorem rcut_zero {w : World} {ao : Option Addr} {la ca : Nat} {pos : Int} :
    Calls Tryz.prog 157 #[.slice ao la ca, .int .i64 pos, .int .i64 0] w fun e w' => e = .returned (.tuple #[.slice ao la ca, .slice none 0 0]) ∧ w' = w := by
  go_enter Tryz.func157, Tryz.ntmps157
  go_wp2_with fail
  go_ret2
  exact ⟨rfl, rfl⟩

set_option maxRecDepth 100000 in
set_option maxHeartbeats 1000000 in
theorem rcut_go {w : World} {ao : Option Addr} {la ca : Nat} {l : List (Int × Int)} {pos n : Int} (hr : RdP w ao l) (e1 : la = l.length) (ok : okL l) (hlen : l.length ≤ 8000) (h0 : 0 ≤ pos) (hn : 0 < n) (h1 : n ≤ sz l - pos) :
    Calls Tryz.prog 157 #[.slice ao la ca, .int .i64 pos, .int .i64 n] w fun e w' =>
      ∃ v g, e = .returned (.tuple #[v, g]) ∧ OwnP w' w.heap.size v (delL l pos n) ∧ OwnP w' w.heap.size g (goneL l pos n) ∧ Below w.heap.size w w' := by
  subst e1
  have hs := sz_bd ok
  have hP1 := part_len l 0 pos
  have hP2 := part_len l (pos + n) (sz l)
  have HP : Hid (partL l 0 pos ++ partL l (pos + n) (sz l) = delL l pos n ∧ partL l pos (pos + n) = goneL l pos n) := cut_eq ok h0 (by omega) h1
  have hn0 : (n == 0) = false := by simp; omega
  go_enter Tryz.func157, Tryz.ntmps157
  go_wp2_with fail
  refine (part_any hr rfl ok (by omega) (by omega) (by omega) h0 (by omega)).mono ?_
  rintro e w1 ⟨v1, rfl, hown1, hb1⟩
  have hr1 := hr.below hb1
  have hs1 := hb1.size
  go_wp2_with fail
  refine (rsize_any hr1 rfl ok (by omega)).mono ?_
  rintro e w1 ⟨rfl, rfl⟩
  go_wp2_with fail
  refine (part_any hr1 rfl ok (by omega) (by omega) (by omega) (by omega) (by omega)).mono ?_
  rintro e w3 ⟨v3, rfl, hown3, hb3⟩
  obtain ⟨ao3, cp3, rfl, hr3, hn3⟩ := hown3.form
  have hown1' := hown1.below hb3
  have B3 := b_trans hb1 hb3
  have hs3 := B3.size
  clear hown1 hown3
  go_upto_region 5 with (at_builtin; go_must (refine wp_append_pieces (by rfl) (.tmp 15) (.tmp 22) (by rfl) w.heap.size _ (partL l 0 pos) (partL l (pos + n) (sz l)) (by rfl) (by exact hown1') _ _ _ (by rfl) (by rfl) (by exact hn3) (by exact hr3) (by omega) (by omega) ?_); intro v4 w4 hown4 hg4)
  have B4 : Below w.heap.size w w4 := own_stepP B3 hown1' hg4
  have hr4 := hr.below B4
  have hs4 := B4.size
  clear hg4 hown1' hr3
  go_wp2_with fail
  refine (part_any hr4 rfl ok (by omega) h0 (by omega) (by omega) (by omega)).mono ?_
  rintro e w5 ⟨v5, rfl, hown5, hb5⟩
  go_wp2_with fail
  go_ret2
  exact ⟨_, _, rfl, by rw [← HP.out.1]; exact hown4.below hb5, by rw [← HP.out.2]; exact hown5.weak hs4, b_trans B4 hb5⟩

set_option maxHeartbeats 1000000 in
theorem rinsert_pos {w : World} {ao : Option Addr} {la ca : Nat} {l : List (Int × Int)} {pos x y : Int} (hr : RdP w ao l) (e1 : la = l.length) (ok : okL l) (hlen : l.length ≤ 8000) (hp : pos < 0 ∨ sz l < pos) :
    Calls Tryz.prog 100 #[.slice ao la ca, .int .i64 pos, .agg #[.int .i64 x, .int .i64 y]] w fun e w' => e = .returned (.tuple #[.slice ao la ca, .int .i64 5]) ∧ Below w.heap.size w w' := by
  subst e1
  by_cases h0 : pos < 0
  · go_enter Tryz.func100, Tryz.ntmps100
    go_wp2_with fail
    go_ret2
    exact ⟨rfl, b_alloc _ _⟩
  · have h1 : sz l < pos := by omega
    go_enter Tryz.func100, Tryz.ntmps100
    go_wp2_with fail
    refine (rsize_any (hr.below (b_alloc _ _)) rfl ok (by omega)).mono ?_
    rintro e w1 ⟨rfl, rfl⟩
    go_wp2_with fail
    go_ret2
    exact ⟨rfl, b_alloc _ _⟩

set_option maxHeartbeats 1000000 in
theorem rinsert_arg {w : World} {ao : Option Addr} {la ca : Nat} {l : List (Int × Int)} {pos x y : Int} (hr : RdP w ao l) (e1 : la = l.length) (ok : okL l) (hlen : l.length ≤ 8000) (h0 : 0 ≤ pos) (h1 : pos ≤ sz l) (hm : ¬ mayP x y) :
    Calls Tryz.prog 100 #[.slice ao la ca, .int .i64 pos, .agg #[.int .i64 x, .int .i64 y]] w fun e w' => e = .returned (.tuple #[.slice ao la ca, .int .i64 1]) ∧ Below w.heap.size w w' := by
  subst e1
  unfold mayP at hm
  by_cases k1 : y < 1
  · go_enter Tryz.func100, Tryz.ntmps100
    go_wp2_with fail
    refine (rsize_any (hr.below (b_alloc _ _)) rfl ok (by omega)).mono ?_
    rintro e w1 ⟨rfl, rfl⟩
    go_wp2_with fail
    go_ret2
    exact ⟨rfl, b_alloc _ _⟩
  · by_cases k2 : 5000 < y
    · go_enter Tryz.func100, Tryz.ntmps100
      go_wp2_with fail
      refine (rsize_any (hr.below (b_alloc _ _)) rfl ok (by omega)).mono ?_
      rintro e w1 ⟨rfl, rfl⟩
      go_wp2_with fail
      go_ret2
      exact ⟨rfl, b_alloc _ _⟩
    · by_cases k3 : x < 0
      · go_enter Tryz.func100, Tryz.ntmps100
        go_wp2_with fail
        refine (rsize_any (hr.below (b_alloc _ _)) rfl ok (by omega)).mono ?_
        rintro e w1 ⟨rfl, rfl⟩
        go_wp2_with fail
        go_ret2
        exact ⟨rfl, b_alloc _ _⟩
      · have k4 : 1000000000 < x := by omega
        go_enter Tryz.func100, Tryz.ntmps100
        go_wp2_with fail
        refine (rsize_any (hr.below (b_alloc _ _)) rfl ok (by omega)).mono ?_
        rintro e w1 ⟨rfl, rfl⟩
        go_wp2_with fail
        go_ret2
        exact ⟨rfl, b_alloc _ _⟩

set_option maxRecDepth 100000 in
set_option maxHeartbeats 1000000 in
theorem rinsert_go {w : World} {ao : Option Addr} {la ca : Nat} {l : List (Int × Int)} {pos x y : Int} (hr : RdP w ao l) (e1 : la = l.length) (ok : okL l) (hlen : l.length ≤ 8000) (h0 : 0 ≤ pos) (h1 : pos ≤ sz l) (hm : mayP x y) :
    Calls Tryz.prog 100 #[.slice ao la ca, .int .i64 pos, .agg #[.int .i64 x, .int .i64 y]] w fun e w' =>
      (4096 < (insL l pos (x, y)).length ∧ e = .returned (.tuple #[.slice ao la ca, .int .i64 13]) ∧ Below w.heap.size w w')
      ∨ ((insL l pos (x, y)).length ≤ 4096 ∧ ∃ v, e = .returned (.tuple #[v, .int .i64 0]) ∧ OwnP w' w.heap.size v (insL l pos (x, y)) ∧ Below w.heap.size w w') := by
  subst e1
  obtain ⟨m1, m2, m3, m4⟩ := hm
  have hone : RdP ((w.alloc (.cells #[.int .i64 x, .int .i64 y] 114)).alloc (.cells #[.int .i64 x, .int .i64 y] 114)) (some ⟨w.heap.size + 1, 0, none⟩) [(x, y)] := by
    have := rdp_one (w.alloc (.cells #[.int .i64 x, .int .i64 y] 114)) x y
    rwa [World.size_alloc] at this
  go_enter Tryz.func100, Tryz.ntmps100
  go_wp2_with fail
  refine (rsize_any (hr.below (b_alloc _ _)) rfl ok (by omega)).mono ?_
  rintro e w1 ⟨rfl, rfl⟩
  go_wp2_with fail
  refine (put_any (hr.below (b_trans (b_alloc _ _) (b_alloc _ _))) rfl hone rfl ok hlen h0 h1).mono ?_
  rintro e w2 ⟨v2, rfl, hown2, hb2⟩
  have B2 : Below w.heap.size w w2 := b_trans (b_trans (b_alloc _ _) (b_alloc _ _)) hb2
  obtain ⟨ao2, cp2, rfl, hr2, hn2⟩ := hown2.form
  by_cases hf : 4096 < (insL l pos (x, y)).length
  · have hf' : ((4096 : Int) < ((insL l pos (x, y)).length : Int)) := by omega
    go_wp2_with fail
    go_ret2
    exact Or.inl ⟨hf, rfl, B2⟩
  · have hf' : ¬ ((4096 : Int) < ((insL l pos (x, y)).length : Int)) := by omega
    go_wp2_with fail
    go_ret2
    exact Or.inr ⟨by omega, _, rfl, hown2.weak (by simp; omega), B2⟩

end Go.Proofs.YtfplgfodoiiobaaGreatDoor
