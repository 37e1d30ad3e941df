/- The walks of the tree's Delete and Find. -/
import Derived.Test.YtfplgfodoiiobaaGreatDoorWalk11
namespace Go.Proofs.YtfplgfodoiiobaaGreatDoor
open Go.RowKit

set_option maxHeartbeats 1000000 in
theorem delete_pos {w : World} {tb : Nat} {l : List (Int × Int)} (t : TreeAt w tb l) {pos n : Int} (hn2 : n ≤ 9223372036854775807) (hp2 : pos ≤ 9223372036854775807) (hp : n < 0 ∨ pos < 0 ∨ sz l < pos ∨ sz l - pos < n) :
    Calls Tryz.prog 101 #[.pointer (some ⟨tb, 0, none⟩), .int .i64 pos, .int .i64 n] w fun e w' => e = .returned (.tuple #[.slice none 0 0, .int .i64 5]) ∧ w' = w := by
  obtain ⟨r, h, hb, ht, ok, hlen⟩ := id t
  have bl := sz_bd ok
  clear hb ht ok
  by_cases h1 : n < 0
  · go_enter Tryz.func101, Tryz.ntmps101
    go_wp2_with fail
    refine (size_any t).mono ?_
    rintro e w ⟨rfl, rfl⟩
    go_wp2_with fail
    go_ret2
    exact ⟨rfl, rfl⟩
  · by_cases h2 : pos < 0
    · go_enter Tryz.func101, Tryz.ntmps101
      go_wp2_with fail
      refine (size_any t).mono ?_
      rintro e w ⟨rfl, rfl⟩
      go_wp2_with fail
      go_ret2
      exact ⟨rfl, rfl⟩
    · by_cases h3 : sz l < pos
      · go_enter Tryz.func101, Tryz.ntmps101
        go_wp2_with fail
        refine (size_any t).mono ?_
        rintro e w ⟨rfl, rfl⟩
        go_wp2_with fail
        go_ret2
        exact ⟨rfl, rfl⟩
      · have h4 : sz l - pos < n := by omega
        go_enter Tryz.func101, Tryz.ntmps101
        go_wp2_with fail
        refine (size_any t).mono ?_
        rintro e w ⟨rfl, rfl⟩
        go_wp2_with fail
        go_ret2
        exact ⟨rfl, rfl⟩

set_option maxHeartbeats 1000000 in
theorem delete_zero {w : World} {tb : Nat} {l : List (Int × Int)} (t : TreeAt w tb l) {pos : Int} (h0 : 0 ≤ pos) (h1 : pos ≤ sz l) :
    Calls Tryz.prog 101 #[.pointer (some ⟨tb, 0, none⟩), .int .i64 pos, .int .i64 0] w fun e w' => e = .returned (.tuple #[.slice none 0 0, .int .i64 0]) ∧ w' = w := by
  obtain ⟨r, h, hb, ht, ok, hlen⟩ := id t
  have bl := sz_bd ok
  clear hb ht ok
  go_enter Tryz.func101, Tryz.ntmps101
  go_wp2_with fail
  refine (size_any t).mono ?_
  rintro e w ⟨rfl, rfl⟩
  go_wp2_with fail
  go_ret2
  exact ⟨rfl, rfl⟩

def delL (l : List (Int × Int)) (pos n : Int) : List (Int × Int) := headB l pos ++ tailB (tailB l pos) n
def goneL (l : List (Int × Int)) (pos n : Int) : List (Int × Int) := headB (tailB l pos) n

set_option maxHeartbeats 1000000 in
theorem delete_go {w : World} {tb : Nat} {l : List (Int × Int)} (t : TreeAt w tb l) {pos n : Int} (h0 : 0 ≤ pos) (h1 : pos ≤ sz l) (h2 : 0 < n) (h3 : n ≤ sz l - pos) :
    Calls Tryz.prog 101 #[.pointer (some ⟨tb, 0, none⟩), .int .i64 pos, .int .i64 n] w fun e w' =>
      (4096 < (delL l pos n).length ∧ e = .returned (.tuple #[.slice none 0 0, .int .i64 13]) ∧ Below w.heap.size w w')
      ∨ ((delL l pos n).length ≤ 4096 ∧ ∃ g, e = .returned (.tuple #[.slice (some ⟨g, 0, none⟩) (goneL l pos n).length (goneL l pos n).length, .int .i64 0])
          ∧ w'.ownsRow g 114 2 (.slice (some ⟨g, 0, none⟩) (goneL l pos n).length (goneL l pos n).length) (goneL l pos n).length (pcs (goneL l pos n)) ∧ w.heap.size ≤ g
          ∧ TreeAt w' tb (delL l pos n) ∧ w.grownBy w' (some tb)) := by
  obtain ⟨r, h, hb, ht, ok, hlen⟩ := id t
  obtain ⟨c0, -⟩ := tree_cell hb
  have hlt := lt_of_some hb
  have bl := sz_bd ok
  have hln := len_split l pos
  have hln2 := len_split (tailB l pos) n
  have okh := okL_headB ok pos
  have okt := okL_tailB ok pos
  have okb := okL_tailB okt n
  have hn : (n == 0) = false := by simp; omega
  have hn' : ¬ n < 0 := by omega
  have hp' : ¬ pos < 0 := by omega
  go_enter Tryz.func101, Tryz.ntmps101
  go_wp2_with fail
  refine (size_any t).mono ?_
  rintro e w ⟨rfl, rfl⟩
  go_wp2_with fail
  refine (split_any ht (by omega) ok (by omega)).mono ?_
  rintro e w1 ⟨r1, g1, r2, g2, rfl, t1, t2, hb1⟩
  go_wp2_with fail
  refine (split_any t2 (by omega) okt (by omega)).mono ?_
  rintro e w2 ⟨r3, g3, r4, g4, rfl, t3, t4, hb2⟩
  go_wp2_with fail
  refine (concat_any (t1.below hb2) t4 (by omega) okh okb).mono ?_
  rintro e w3 ⟨q, hq, rfl, tq, hb3⟩
  have B3 : Below w.heap.size w w3 := b_trans hb1 (b_trans hb2 hb3)
  have hb' : w3.heap[tb]? = some (treeB r) := (B3.block tb hlt).trans hb
  go_wp2_with fail
  by_cases hf : 4096 < (delL l pos n).length
  · refine (become_full tq hf).mono ?_
    rintro e w3 ⟨rfl, rfl⟩
    go_wp2_with fail
    go_ret2
    exact Or.inl ⟨hf, rfl, B3⟩
  · refine (become_ok hb' tq (Nat.le_of_not_lt hf)).mono ?_
    rintro e w4 ⟨rfl, rfl⟩
    have t4' := tree_set hb' tq (okL_append okh okb) (Nat.le_of_not_lt hf)
    have tg : T (w3.setCell ⟨tb, 0, none⟩ (.pointer q)) r3 g3 (headB (tailB l pos) n) := T.setOff (by simp [World.cell?, hb', treeB]) (t3.below hb3)
    have G4 := grown_set B3 tb 0 (.pointer q)
    go_wp2_with fail
    refine (list_any tg (by omega)).mono ?_
    rintro e w5 ⟨g, rfl, hown, hg, hB5⟩
    go_wp2_with fail
    go_ret2
    refine Or.inr ⟨by omega, g, rfl, hown, ?_, t4'.below hB5, grown_trans G4 (grown_of_below hB5 _)⟩
    have := B3.size
    simp only [World.setCell, Array.size_modify] at hg
    omega

set_option maxHeartbeats 1000000 in
theorem find_no {w : World} {tb : Nat} {l : List (Int × Int)} (t : TreeAt w tb l) {pos : Int} (hp : pos < 0 ∨ sz l ≤ pos) :
    Calls Tryz.prog 104 #[.pointer (some ⟨tb, 0, none⟩), .int .i64 pos] w fun e w' => e = .returned (.tuple #[.agg #[.int .i64 0, .int .i64 0], .int .i64 5]) ∧ Below w.heap.size w w' := by
  by_cases h0 : pos < 0
  · go_enter Tryz.func104, Tryz.ntmps104
    go_wp2_with fail
    exact bodyPost_ret (v := .tuple #[.agg #[.int .i64 0, .int .i64 0], .int .i64 5]) (by simp [results, Tryz.results104, go_sem]) rfl ⟨rfl, b_alloc _ _⟩
  · have h1 : sz l ≤ pos := by omega
    go_enter Tryz.func104, Tryz.ntmps104
    go_wp2_with fail
    refine (size_any (t.below (b_alloc _ _))).mono ?_
    rintro e w1 ⟨rfl, rfl⟩
    go_wp2_with fail
    exact bodyPost_ret (v := .tuple #[.agg #[.int .i64 0, .int .i64 0], .int .i64 5]) (by simp [results, Tryz.results104, go_sem]) rfl ⟨rfl, b_alloc _ _⟩

set_option maxHeartbeats 1000000 in
theorem find_yes {w : World} {tb : Nat} {l : List (Int × Int)} (t : TreeAt w tb l) {pos : Int} (h0 : 0 ≤ pos) (h1 : pos < sz l) :
    Calls Tryz.prog 104 #[.pointer (some ⟨tb, 0, none⟩), .int .i64 pos] w fun e w' =>
      ∃ q : Int × Int, (tailB l pos).head? = some q ∧ e = .returned (.tuple #[.agg #[.int .i64 q.1, .int .i64 q.2], .int .i64 0]) ∧ Below w.heap.size w w' := by
  obtain ⟨r, h, hb, ht, ok, hlen⟩ := id t
  obtain ⟨c0, -⟩ := tree_cell hb
  have hlt := lt_of_some hb
  clear hb
  go_enter Tryz.func104, Tryz.ntmps104
  go_wp2_with fail
  refine (size_any (t.below (b_alloc _ _))).mono ?_
  rintro e w1 ⟨rfl, rfl⟩
  go_wp2_with fail
  refine (rest_any (ht.below (b_alloc _ _)) (by omega) ok h0 h1).mono ?_
  rintro e w1 ⟨⟨qx, qy⟩, E, rfl, hb1⟩
  have HE : Hid ((tailB l pos).head? = some (qx, qy)) := E
  clear E
  have k0 : w1.cell? ⟨w.heap.size, 0, none⟩ = some (.int .i64 0) := (hb1.cell (by simp)).trans (by simp)
  have k1 : w1.cell? ⟨w.heap.size, 1, none⟩ = some (.int .i64 0) := (hb1.cell (by simp)).trans (by simp)
  have f0 : w1.frozen? ⟨w.heap.size, 0, none⟩ = false := (hb1.frozen (by simp)).trans (by simp)
  have f1 : w1.frozen? ⟨w.heap.size, 1, none⟩ = false := (hb1.frozen (by simp)).trans (by simp)
  go_wp2_with fail
  refine bodyPost_ret (v := .tuple #[.agg #[.int .i64 qx, .int .i64 qy], .int .i64 0]) (by simp [results, Tryz.results104, go_sem, k0, k1]) rfl ⟨(qx, qy), HE.out, rfl, ?_⟩
  exact ((b_trans (b_alloc w _) hb1).setCell (p := ⟨w.heap.size, 0, none⟩) (Nat.le_refl _) _).setCell (p := ⟨w.heap.size, 1, none⟩) (Nat.le_refl _) _

end Go.Proofs.YtfplgfodoiiobaaGreatDoor
