/- The walk of the document's Delete. -/
import Derived.Test.YtfplgfodoiiobaaGreatDoorTreesE
namespace Go.Proofs.YtfplgfodoiiobaaGreatDoor
open Go.RowKit

set_option maxHeartbeats 1000000 in
theorem rdelete_pos {w : World} {ao : Option Addr} {la ca : Nat} {l : List (Int × Int)} {pos n : Int} (hr : RdP w ao l) (e1 : la = l.length) (ok : okL l) (hlen : l.length ≤ 8000) (hp : n < 0 ∨ pos < 0 ∨ sz l < pos ∨ sz l - pos < n) :
    Calls Tryz.prog 102 #[.slice ao la ca, .int .i64 pos, .int .i64 n] w fun e w' => e = .returned (.tuple #[.slice ao la ca, .slice none 0 0, .int .i64 5]) ∧ w' = w := by
  subst e1
  have bl := sz_bd ok
  by_cases h1 : n < 0
  · go_enter Tryz.func102, Tryz.ntmps102
    go_wp2_with fail
    go_ret3
    exact ⟨rfl, rfl⟩
  · by_cases h2 : pos < 0
    · go_enter Tryz.func102, Tryz.ntmps102
      go_wp2_with fail
      go_ret3
      exact ⟨rfl, rfl⟩
    · by_cases h3 : sz l < pos
      · go_enter Tryz.func102, Tryz.ntmps102
        go_wp2_with fail
        refine (rsize_any hr rfl ok (by omega)).mono ?_
        rintro e w ⟨rfl, rfl⟩
        go_wp2_with fail
        go_ret3
        exact ⟨rfl, rfl⟩
      · have h4 : sz l - pos < n := by omega
        go_enter Tryz.func102, Tryz.ntmps102
        go_wp2_with fail
        refine (rsize_any hr rfl ok (by omega)).mono ?_
        rintro e w ⟨rfl, rfl⟩
        go_wp2_with fail
        refine (rsize_any hr rfl ok (by omega)).mono ?_
        rintro e w ⟨rfl, rfl⟩
        go_wp2_with fail
        go_ret3
        exact ⟨rfl, rfl⟩

set_option maxHeartbeats 1000000 in
theorem rdelete_zero {w : World} {ao : Option Addr} {la ca : Nat} {l : List (Int × Int)} {pos : Int} (hr : RdP w ao l) (e1 : la = l.length) (ok : okL l) (hlen : l.length ≤ 4096) (h0 : 0 ≤ pos) (h1 : pos ≤ sz l) :
    Calls Tryz.prog 102 #[.slice ao la ca, .int .i64 pos, .int .i64 0] w fun e w' => e = .returned (.tuple #[.slice ao la ca, .slice none 0 0, .int .i64 0]) ∧ w' = w := by
  subst e1
  have bl := sz_bd ok
  have h2 : ¬ ((4096 : Int) < (l.length : Int)) := by omega
  go_enter Tryz.func102, Tryz.ntmps102
  go_wp2_with fail
  refine (rsize_any hr rfl ok (by omega)).mono ?_
  rintro e w ⟨rfl, rfl⟩
  go_wp2_with fail
  refine (rsize_any hr rfl ok (by omega)).mono ?_
  rintro e w ⟨rfl, rfl⟩
  go_wp2_with fail
  refine rcut_zero.mono ?_
  rintro e w ⟨rfl, rfl⟩
  go_wp2_with fail
  go_ret3
  exact ⟨rfl, rfl⟩

set_option maxRecDepth 100000 in
set_option maxHeartbeats 1000000 in
theorem rdelete_go {w : World} {ao : Option Addr} {la ca : Nat} {l : List (Int × Int)} {pos n : Int} (hr : RdP w ao l) (e1 : la = l.length) (ok : okL l) (hlen : l.length ≤ 8000) (h0 : 0 ≤ pos) (h1 : pos ≤ sz l) (hn : 0 < n) (h2 : n ≤ sz l - pos) :
    Calls Tryz.prog 102 #[.slice ao la ca, .int .i64 pos, .int .i64 n] w fun e w' =>
      (4096 < (delL l pos n).length ∧ e = .returned (.tuple #[.slice ao la ca, .slice none 0 0, .int .i64 13]) ∧ Below w.heap.size w w')
      ∨ ((delL l pos n).length ≤ 4096 ∧ ∃ v g, e = .returned (.tuple #[v, g, .int .i64 0]) ∧ OwnP w' w.heap.size v (delL l pos n) ∧ OwnP w' w.heap.size g (goneL l pos n) ∧ Below w.heap.size w w') := by
  subst e1
  have bl := sz_bd ok
  go_enter Tryz.func102, Tryz.ntmps102
  go_wp2_with fail
  refine (rsize_any hr rfl ok (by omega)).mono ?_
  rintro e w ⟨rfl, rfl⟩
  go_wp2_with fail
  refine (rsize_any hr rfl ok (by omega)).mono ?_
  rintro e w ⟨rfl, rfl⟩
  go_wp2_with fail
  refine (rcut_go hr rfl ok hlen h0 hn h2).mono ?_
  rintro e w2 ⟨v2, g2, rfl, hown2, hgone2, B2⟩
  obtain ⟨ao2, cp2, rfl, hr2, hn2⟩ := hown2.form
  by_cases hf : 4096 < (delL l pos n).length
  · have hf' : ((4096 : Int) < ((delL l pos n).length : Int)) := by omega
    go_wp2_with fail
    go_ret3
    exact Or.inl ⟨hf, rfl, B2⟩
  · have hf' : ¬ ((4096 : Int) < ((delL l pos n).length : Int)) := by omega
    go_wp2_with fail
    go_ret3
    exact Or.inr ⟨by omega, _, _, rfl, hown2, hgone2, B2⟩

end Go.Proofs.YtfplgfodoiiobaaGreatDoor
