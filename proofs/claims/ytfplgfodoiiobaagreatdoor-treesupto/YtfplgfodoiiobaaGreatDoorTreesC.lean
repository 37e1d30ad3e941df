/- The walk of the document's part. -/
import Derived.Test.YtfplgfodoiiobaaGreatDoorTreesB
namespace Go.Proofs.YtfplgfodoiiobaaGreatDoor
open Go.RowKit

theorem OwnP.push {w1 : World} {B : Nat} {v1 : Value} {l : List (Int × Int)} {x y : Int} (h : w1.ownsRow B 114 2 v1 (l.length + 1) (pcs l ++ [.int .i64 x, .int .i64 y])) : OwnP w1 B v1 (l ++ [(x, y)]) := by
  unfold OwnP
  rw [pcs_append]
  simpa [pcs] using h

theorem own_belowP {w wr w1 : World} {B : Nat} {v : Value} {l : List (Int × Int)} {o : Obj} (hB : Below B w wr) (hs : B ≤ wr.heap.size) (hown : OwnP wr B v l) (hg : (wr.alloc o).grownBy w1 v.ownBlock) : Below B w w1 :=
  (hB.alloc hs o).grown hg (by simp; omega) (fun k e => (World.ownsRow.lt hown k e).1)

theorem part_step {l : List (Int × Int)} {k : Nat} (hk : k < l.length) (f t : Int) :
    partL (l.drop k) f t = (if max f 0 < min t (l.getD k (0, 0)).2 then [((l.getD k (0, 0)).1 + max f 0, min t (l.getD k (0, 0)).2 - max f 0)] else []) ++ partL (l.drop (k + 1)) (f - (l.getD k (0, 0)).2) (t - (l.getD k (0, 0)).2) := by
  rw [List.drop_eq_getElem_cons hk]
  simp [partL, hk]

set_option maxRecDepth 100000 in
set_option maxHeartbeats 2000000 in
theorem part_any {w : World} {ao : Option Addr} {la ca : Nat} {l : List (Int × Int)} {f t : Int} (hr : RdP w ao l) (e1 : la = l.length) (ok : okL l) (hlen : l.length ≤ 9000)
    (hf : 0 ≤ f) (hf2 : f ≤ 1000000000) (ht : 0 ≤ t) (ht2 : t ≤ 1000000000) :
    Calls Tryz.prog 165 #[.slice ao la ca, .int .i64 f, .int .i64 t] w fun e w' => ∃ v, e = .returned v ∧ OwnP w' w.heap.size v (partL l f t) ∧ Below w.heap.size w w' := by
  subst e1
  obtain ⟨i0, hi, hz0, hz1, hz2⟩ := info_parts Tryz.infoPiece
  go_enter Tryz.func165, Tryz.ntmps165
  go_wp2_with fail
  go_loopw [7, 8, 9, 10, 11] (fun v a i _ _ wr => ∃ (k : Nat) (out : List (Int × Int)), k ≤ l.length ∧ i = .int .i64 (k : Int) ∧ a = .int .i64 (sz (l.take k)) ∧ OwnP wr w.heap.size v out ∧ Below w.heap.size w wr ∧ out.length ≤ k
      ∧ partL l f t = out ++ partL (l.drop k) (f - sz (l.take k)) (t - sz (l.take k))) (fun _ _ i _ _ _ => l.length - (intOf i).toNat)
  case atStart => exact ⟨0, [], Nat.zero_le _, rfl, rfl, World.ownsRow_nil _ _ _ _, Below.refl _ _, by simp, by simp [sz]⟩
  case round =>
    obtain ⟨k, out, hk, rfl, rfl, hown, hB, hout, E⟩ := hrel
    have hb := sz_take_bd ok hlen k
    by_cases hlt : k < l.length
    · obtain ⟨b, off, rfl, c1, c2⟩ := hr.at hlt
      have okk := okP_at ok hlt
      have HS : Hid (sz (l.take (k + 1)) = sz (l.take k) + (l.getD k (0, 0)).2) := sz_take hlt
      have HP : Hid (partL l f t = out ++ ((if max (f - sz (l.take k)) 0 < min (t - sz (l.take k)) (l.getD k (0, 0)).2 then [((l.getD k (0, 0)).1 + max (f - sz (l.take k)) 0, min (t - sz (l.take k)) (l.getD k (0, 0)).2 - max (f - sz (l.take k)) 0)] else [])
          ++ partL (l.drop (k + 1)) (f - sz (l.take k) - (l.getD k (0, 0)).2) (t - sz (l.take k) - (l.getD k (0, 0)).2))) := by
        show _ = _; rw [E, part_step hlt]
      generalize l.getD k (0, 0) = p at c1 c2 okk HS HP
      generalize hA : sz (l.take k) = A at hb HS HP ⊢
      obtain ⟨px, py⟩ := p
      simp only at c1 c2 HS HP
      unfold okP at okk
      simp only at okk
      have i1 : (0 : Int) ≤ (k : Int) := by omega
      have i2 : (k : Int) < (l.length : Int) := by omega
      have d1 := cell_later hB c1
      have d2 := cell_later hB c2
      have hs := hB.size
      clear hr E hA
      by_cases hF : f - A < 0
      · by_cases hT : py < t - A
        · by_cases hc : 0 < py
          · go_wp2_with (at_builtin; go_must (refine wpList_append_own _ rfl (.tmp 41) (.tmp 53) 102 rfl w.heap.size 114 i0 (.agg #[.int .i64 0, .int .i64 0]) 2 16 Tryz.underlying102 hi hz0 hz1 hz2 rfl (by decide) _ _ _ rfl (World.ownsRow.alloc hown _) ⟨_, 0, none⟩ 1 1 [.int .i64 _, .int .i64 _] rfl rfl (cell_two_new _ _ _ _) (by simp [Value.oneCell']) (by unfold maxLen; omega) (by omega) (by simp; omega) ?_); intro v1 w1 hown1 hg1 _; have D2 := cell_later (own_belowP hB hs hown hg1) c2)
            go_roundw
            case rel => exact ⟨k + 1, _, by omega, by go_num, by rw [HS.out], OwnP.push hown1, own_belowP hB hs hown hg1, by simp; omega, by rw [HP.out, if_pos (by omega), HS.out, show max (f - A) 0 = 0 from by omega, show min (t - A) py = py from by omega]; simp [Int.sub_sub]⟩
            case measure => simp [intOf]; omega
          · omega
        · by_cases hc : 0 < t - A
          · go_wp2_with (at_builtin; go_must (refine wpList_append_own _ rfl (.tmp 41) (.tmp 53) 102 rfl w.heap.size 114 i0 (.agg #[.int .i64 0, .int .i64 0]) 2 16 Tryz.underlying102 hi hz0 hz1 hz2 rfl (by decide) _ _ _ rfl (World.ownsRow.alloc hown _) ⟨_, 0, none⟩ 1 1 [.int .i64 _, .int .i64 _] rfl rfl (cell_two_new _ _ _ _) (by simp [Value.oneCell']) (by unfold maxLen; omega) (by omega) (by simp; omega) ?_); intro v1 w1 hown1 hg1 _; have D2 := cell_later (own_belowP hB hs hown hg1) c2)
            go_roundw
            case rel => exact ⟨k + 1, _, by omega, by go_num, by rw [HS.out], OwnP.push hown1, own_belowP hB hs hown hg1, by simp; omega, by rw [HP.out, if_pos (by omega), HS.out, show max (f - A) 0 = 0 from by omega, show min (t - A) py = t - A from by omega]; simp [Int.sub_sub]⟩
            case measure => simp [intOf]; omega
          · go_wp2_with fail
            go_roundw
            case rel => exact ⟨k + 1, out, by omega, by go_num, by rw [HS.out], hown, hB, by omega, by rw [HP.out, if_neg (by omega), HS.out]; simp [Int.sub_sub]⟩
            case measure => simp [intOf]; omega
      · by_cases hT : py < t - A
        · by_cases hc : f - A < py
          · go_wp2_with (at_builtin; go_must (refine wpList_append_own _ rfl (.tmp 41) (.tmp 53) 102 rfl w.heap.size 114 i0 (.agg #[.int .i64 0, .int .i64 0]) 2 16 Tryz.underlying102 hi hz0 hz1 hz2 rfl (by decide) _ _ _ rfl (World.ownsRow.alloc hown _) ⟨_, 0, none⟩ 1 1 [.int .i64 _, .int .i64 _] rfl rfl (cell_two_new _ _ _ _) (by simp [Value.oneCell']) (by unfold maxLen; omega) (by omega) (by simp; omega) ?_); intro v1 w1 hown1 hg1 _; have D2 := cell_later (own_belowP hB hs hown hg1) c2)
            go_roundw
            case rel => exact ⟨k + 1, _, by omega, by go_num, by rw [HS.out], OwnP.push hown1, own_belowP hB hs hown hg1, by simp; omega, by rw [HP.out, if_pos (by omega), HS.out, show max (f - A) 0 = f - A from by omega, show min (t - A) py = py from by omega]; simp [Int.sub_sub]⟩
            case measure => simp [intOf]; omega
          · go_wp2_with fail
            go_roundw
            case rel => exact ⟨k + 1, out, by omega, by go_num, by rw [HS.out], hown, hB, by omega, by rw [HP.out, if_neg (by omega), HS.out]; simp [Int.sub_sub]⟩
            case measure => simp [intOf]; omega
        · by_cases hc : f - A < t - A
          · go_wp2_with (at_builtin; go_must (refine wpList_append_own _ rfl (.tmp 41) (.tmp 53) 102 rfl w.heap.size 114 i0 (.agg #[.int .i64 0, .int .i64 0]) 2 16 Tryz.underlying102 hi hz0 hz1 hz2 rfl (by decide) _ _ _ rfl (World.ownsRow.alloc hown _) ⟨_, 0, none⟩ 1 1 [.int .i64 _, .int .i64 _] rfl rfl (cell_two_new _ _ _ _) (by simp [Value.oneCell']) (by unfold maxLen; omega) (by omega) (by simp; omega) ?_); intro v1 w1 hown1 hg1 _; have D2 := cell_later (own_belowP hB hs hown hg1) c2)
            go_roundw
            case rel => exact ⟨k + 1, _, by omega, by go_num, by rw [HS.out], OwnP.push hown1, own_belowP hB hs hown hg1, by simp; omega, by rw [HP.out, if_pos (by omega), HS.out, show max (f - A) 0 = f - A from by omega, show min (t - A) py = t - A from by omega]; simp [Int.sub_sub]⟩
            case measure => simp [intOf]; omega
          · go_wp2_with fail
            go_roundw
            case rel => exact ⟨k + 1, out, by omega, by go_num, by rw [HS.out], hown, hB, by omega, by rw [HP.out, if_neg (by omega), HS.out]; simp [Int.sub_sub]⟩
            case measure => simp [intOf]; omega
    · go_wp2_with fail
      go_ret
      exact ⟨_, rfl, by rw [E, List.drop_of_length_le (by omega)]; simpa [partL] using hown, hB⟩

end Go.Proofs.YtfplgfodoiiobaaGreatDoor
