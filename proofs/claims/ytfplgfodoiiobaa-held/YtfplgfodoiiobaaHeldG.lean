/- The walk of Held: for every slice of ops the call returns true, and nothing that was there before has turned. -/
import Derived.Test.YtfplgfodoiiobaaHeldE1
import Derived.Test.YtfplgfodoiiobaaHeldF1
import Derived.Test.YtfplgfodoiiobaaHeldF2
namespace Go.Proofs.Ytfplgfodoiiobaa
open Go.RowKit

theorem met_self {K : Act → World → Prop} : ∀ a w, Met K a w → K a w := fun _ _ h => h

theorem wp_then {P : Program} {c : Code} {R : Exit → Act → World → Prop} {a : Act} {w : World} (h : c.wp P (Exit.then (R .normal) R) a w) : c.wp P R a w :=
  wp_mono h (fun e _ _ hq => by cases e <;> exact hq)

set_option maxRecDepth 1000000 in
set_option maxHeartbeats 4000000 in
theorem held_walk {w : World} {ao : Option Addr} {len cap : Nat} (hr : RdO w ao len) :
    Calls Try.prog 3 #[.slice ao len cap] w fun e w' => e = .returned (.bool true) ∧ Below w.heap.size w w' := by
  go_enter Try.func3, Try.ntmps3
  go_wp2_with fail
  refine (new_any _).mono ?_
  rintro e w1 ⟨rfl, rfl⟩
  go_wp2_with fail
  refine (insert_go (new_tree w) (pos := 0) (x := 7) (y := 1) (by omega) (by simp [sz]) (by unfold mayP; omega)).mono ?_
  rintro e w2 (⟨hf, -, -⟩ | ⟨-, rfl, t2, hg2⟩)
  · simp [insL, headB, tailB] at hf
  have t2' : TreeAt w2 w.heap.size [(7, 1)] := by simpa [insL, headB, tailB] using t2
  clear t2
  go_wp2_with fail
  refine (delete_all t2' (pos := 0) (n := 1) (by simp [fl]) (by simp)).mono ?_
  rintro e w3 ⟨ao3, g3, l3, rfl, -, -, -, t3, hg3, -, hf3, hl3⟩
  have B3 : Below w.heap.size w w3 := grown_below' (grown_trans hg2 hg3)
  have t3' : TreeAt w3 w.heap.size [] := by
    have : l3 = [] := fl_nil (by obtain ⟨_, _, _, _, ok, _⟩ := t3; exact ok) (by rw [hf3]; simp [fl])
    rw [this] at t3; exact t3
  clear t3 hg2 hg3 hf3 hl3 t2'
  go_wp2_with fail
  go_loopg [4, 5, 9] len (fun gk v m i wr => ∃ (k : Nat) (l : List (Int × Int)), k ≤ len ∧ k ≤ 200 ∧ gk = len - k ∧ i = .int .i64 (k : Int) ∧ m = .int .i64 (l.length : Int) ∧ HInv w k l v wr)
  case atStart => exact ⟨0, [], Nat.zero_le _, by omega, rfl, rfl, rfl, t3', World.ownsRow_nil _ _ _ _, by simp, by simp [fl], B3⟩
  case round =>
    clear B3 t3'
    obtain ⟨k, l, hk, hk2, hgk, rfl, rfl, t, hown, hl1, hl2, hB⟩ := hrel
    by_cases hlt : k < len ∧ k < 200
    · obtain ⟨hlt1, hlt2⟩ := hlt
      have cc : ∃ b off, ao = some ⟨b, off, none⟩ ∧ ∃ c0 c1 c2 c3 : Int, i64 c0 ∧ i64 c1 ∧ i64 c2 ∧ i64 c3 ∧
          w.cell? ⟨b, off + k * 4, none⟩ = some (.int .i64 c0) ∧ w.cell? ⟨b, off + k * 4 + 1, none⟩ = some (.int .i64 c1) ∧ w.cell? ⟨b, off + k * 4 + 2, none⟩ = some (.int .i64 c2) ∧ w.cell? ⟨b, off + k * 4 + 3, none⟩ = some (.int .i64 c3) := by
        rcases hr with h0 | ⟨b, off, h1, h2⟩
        · omega
        · exact ⟨b, off, h1, h2 k hlt1⟩
      obtain ⟨b, off, rfl, c0, c1, c2, c3, j0, j1, j2, j3, d0, d1, d2, d3⟩ := cc
      have d0' := cell_later hB d0
      have d1' := cell_later hB d1
      have d2' := cell_later hB d2
      have d3' := cell_later hB d3
      clear d0 d1 d2 d3 hr
      unfold i64 at j0 j1
      obtain ⟨mo, cp, rfl, hrd, hcp, hnl, hge⟩ := hown.form
      have i1 : (0 : Int) ≤ (k : Int) := by omega
      have i2 : (k : Int) < (len : Int) := by omega
      have HG : Hid (gk = len - k) := hgk
      clear hgk
      go_wp2_with fail
      refine (pick_any j1.1 j1.2 (by omega) (by omega)).mono ?_
      rintro e w4 ⟨r, rfl, r0, r1, rfl⟩
      obtain ⟨pos, rfl⟩ := Int.eq_ofNat_of_zero_le r0
      go_wp2_with fail
      refine (pick_any j0.1 j0.2 (by omega) (by omega)).mono ?_
      rintro e w4 ⟨r, rfl, q0, q1, rfl⟩
      go_upto_if 71 with fail
      have hp1 : pos ≤ (fl l).length := by omega
      go_cut [4, 12] (fun v m wc => ∃ l' : List (Int × Int), HMid w wr k l c3 l' v m wc)
      case first =>
        by_cases hr2 : r < 2
        · refine wp_cond_true (by show Value.bool (decide (r < 2)) = Value.bool true; rw [decide_eq_true hr2]) ?_
          refine held_ins hlt2 j2 t hown hrd hcp hnl hge hl1 hl2 hB hp1 j3 _ _ _ _ _ _ _ _ _ _ _ _ _ _ _ _ _ _ _ _ _ _ _ _ _ _ _ _ _ _ (by assumption) ?_ _ _ _ _ _ _ _ _ _ _ _ _ _ _ _ _ _ _ _ _ _ _ _ _ _ _ _ _ _ _ _ _ _ _ _ _ _ _ _ _ _ _ _ _ _ _ _ _ _ _ _ _ _ _ _ _ _ _ _ _ _ _ _ _ _ _ _ _ _ _ _ _ _ _ _ _ _ _ _ _ _ _ _ _ _ _ _ _ _ _ _ _ _ _ _ _ _ _ _ _ _ _ _ _ _ _ _ _ _ _ _ _ _ _ _ _ _ _ _ _ _ _ _ _ _ _ _ _ _ _ _ _ _ _ _ _ _ _ _ _ _ _ _ _ _ _ _ _ _ _ _ _ _ _ _ _ _ _ _ _ _ _ _ _ _ _ _ _ _ _ _ _ _ _ _ _ _ _ _ _ _ _ _ _ _ _ _ _ _ _ _ _ _ _ _ _ _ _ _ _ _ _ _ _ _ _ _ _
          show ∀ wf v' m' l', HMid w wr k l c3 l' v' m' wf → _
          intro wf v' m' l' hmid
          intros
          try dsimp only
          go_step
          (repeat apply Exists.intro)
          exact ⟨⟨l', hmid⟩, rfl⟩
        · refine wp_cond_false (by show Value.bool (decide (r < 2)) = Value.bool false; rw [decide_eq_false hr2]) ?_
          refine held_del hlt2 j2 t hown hrd hcp hnl hge hl1 hl2 hB hp1 _ _ _ _ _ _ _ _ _ _ _ _ _ _ _ _ _ _ _ _ _ _ _ _ _ _ _ _ _ _ (by assumption) ?_ _ _ _ _ _ _ _ _ _ _ _ _ _ _ _ _ _ _ _ _ _ _ _ _ _ _ _ _ _ _ _ _ _ _ _ _ _ _ _ _ _ _ _ _ _ _ _ _ _ _ _ _ _ _ _ _ _ _ _ _ _ _ _ _ _ _ _ _ _ _ _ _ _ _ _ _ _ _ _ _ _ _ _ _ _ _ _ _ _ _ _ _ _ _ _ _ _ _ _ _ _ _ _ _ _ _ _ _ _ _ _ _ _ _ _ _ _ _ _ _ _ _ _ _ _ _ _ _ _ _ _ _ _ _ _ _ _ _ _ _ _ _ _ _ _ _ _ _ _ _ _ _ _ _ _ _ _ _ _ _ _ _ _ _ _ _ _ _ _ _ _ _ _ _ _ _ _ _ _ _ _ _ _ _ _ _ _ _ _ _ _ _ _ _ _ _ _ _ _ _ _ _ _ _ _ _ _ _
          show ∀ wf v' m' l', HMid w wr k l c3 l' v' m' wf → _
          intro wf v' m' l' hmid
          intros
          try dsimp only
          go_step
          (repeat apply Exists.intro)
          exact ⟨⟨l', hmid⟩, rfl⟩
      case rest =>
        obtain ⟨l', hmid⟩ := hcut
        go_step
        refine wp_then ?_
        refine held_rest hlt2 j3 (by omega) hmid _ _ _ _ _ _ _ _ _ _ _ _ _ _ _ _ _ _ _ _ _ met_self ?_ _ _ _ _ _ _ _ _ _ _ _ _ _ _ _ _ _ _ _ _ _ _ _ _ _ _ _ _ _ _ _ _ _ _ _ _ _ _ _ _ _ _ _ _ _ _ _ _ _ _ _ _ _ _ _ _ _ _ _ _ _ _ _ _ _ _ _ _ _ _ _ _ _ _ _ _ _ _ _ _ _ _ _ _ _ _ _ _ _ _ _ _ _ _ _ _ _ _ _ _ _ _ _ _ _ _ _ _ _ _ _ _ _ _ _ _ _ _ _ _ _ _ _ _ _ _ _ _ _ _ _ _ _ _ _ _ _ _ _ _ _ _ _ _ _ _ _ _ _ _ _ _ _ _ _ _ _ _ _ _ _ _ _ _ _ _ _ _ _ _ _ _ _ _ _ _ _ _ _ _ _ _ _ _ _ _ _ _ _ _ _ _ _ _ _ _ _ _ _ _ _ _ _ _ _ _ _ _ _ _ _ _ _ _ _ _ _ _
        show ∀ wf, HInv w (k + 1) l' _ wf → _
        intro wf hinv
        intros
        try dsimp only
        go_wp2_with fail
        go_roundg (len - (k + 1))
        case measure => have := HG.out; omega
        case rel => exact ⟨k + 1, l', by omega, by omega, rfl, by go_num, rfl, hinv⟩
    · go_wp2_with fail
      all_goals go_ret
      all_goals exact ⟨rfl, hB⟩

end Go.Proofs.Ytfplgfodoiiobaa
