/- Rows of pieces: append from whatever source; the walks of the document's Put and Cut. -/
import Derived.Test.YtfplgfodoiiobaaGreatDoorTreesC
import Derived.Deep.DeepCutAuto
namespace Go.Proofs.YtfplgfodoiiobaaGreatDoor
open Go.RowKit

theorem pcs_cells {w : World} {b off : Nat} {l : List (Int × Int)} (hc : ∀ i, i < l.length → w.cell? ⟨b, off + i * 2, none⟩ = some (.int .i64 (l.getD i (0, 0)).1) ∧ w.cell? ⟨b, off + i * 2 + 1, none⟩ = some (.int .i64 (l.getD i (0, 0)).2)) :
    ∀ j u, (pcs l)[j]? = some u → w.cell? ((⟨b, off, none⟩ : Addr).add j) = some u := by
  intro j u hj
  have hlt : j < l.length * 2 := by
    by_cases hlt : j < l.length * 2
    · exact hlt
    · rw [List.getElem?_eq_none (by rw [pcs_length]; omega)] at hj; cases hj
  obtain ⟨h1, h2⟩ := hc (j / 2) (by omega)
  obtain ⟨g1, g2⟩ := pcs_get l (j / 2) (by omega)
  have ha : (⟨b, off, none⟩ : Addr).add j = ⟨b, off + j, none⟩ := by
    cases j with
    | zero => simp [Addr.add]
    | succ j => simp [Addr.add]
  rw [ha]
  rcases Nat.mod_two_eq_zero_or_one j with hm | hm
  · have e : j / 2 * 2 = j := by omega
    rw [e] at h1 g1
    rw [h1]; rw [g1] at hj; exact hj
  · have e : j / 2 * 2 + 1 = j := by omega
    rw [Nat.add_assoc, e] at h2
    rw [e] at g2
    rw [h2]; rw [g2] at hj; exact hj

theorem wp_append_pieces {w : World} {ops : Array Oper} {rest : List Oper} {o : Oper} {a : Act} {Q : Exit → Act → World → Prop} (hgd : o.guard = none) (s x : Operand)
    (ho : o.op = .call { callee := .builtin .append, args := #[s, x], argTypes := #[102, 102] })
    (base : Nat) (v : Value) (ys zs : List (Int × Int)) (hs : a.eval s = v) (hown : OwnP w base v ys) (ao : Option Addr) (m c : Nat) (hx : a.eval x = .slice ao m c) (hm : m = zs.length) (hnil : ao = none → zs.length = 0 ∧ c = 0) (hr : RdP w ao zs)
    (hlen : ys.length + zs.length ≤ 1000000000) (hbase : base ≤ w.heap.size)
    (h : ∀ v' w', OwnP w' base v' (ys ++ zs) → w.grownBy w' v.ownBlock → wpList Tryz.prog ops Q rest (a.put o.dst v') w') : wpList Tryz.prog ops Q (o :: rest) a w := by
  obtain ⟨i0, hi, hz0, hz1, hz2⟩ := info_parts Tryz.infoPiece
  subst hm
  cases ao with
  | none =>
    obtain ⟨h1, rfl⟩ := hnil rfl
    have hz : zs = [] := List.eq_nil_of_length_eq_zero h1
    subst hz
    exact wpList_append_own_none hgd s x 102 ho base 114 i0 2 Tryz.underlying102 hi v _ _ hs hown hx (h v w (by simpa using hown) (World.grownBy.refl _ _))
  | some ad =>
    refine wpList_append_own w hgd s x 102 ho base 114 i0 (.agg #[.int .i64 0, .int .i64 0]) 2 16 Tryz.underlying102 hi hz0 hz1 hz2 rfl (by decide) v ys.length (pcs ys) hs hown ad zs.length c (pcs zs) hx (pcs_length zs) ?_ ?_ (by unfold maxLen; omega) (by omega) hbase ?_
    · rcases hr with rfl | ⟨b, off, e, hc⟩
      · intro j u hj; simp [pcs] at hj
      · cases e; exact pcs_cells hc
    · intro u hu
      obtain ⟨p, -, hp⟩ := List.mem_flatMap.1 hu
      simp at hp
      rcases hp with rfl | rfl <;> rfl
    · intro v' w' h1 h2 _
      refine h v' w' ?_ h2
      unfold OwnP
      rw [pcs_append, List.length_append]
      exact h1

theorem OwnP.form {w : World} {B : Nat} {v : Value} {l : List (Int × Int)} (h : OwnP w B v l) : ∃ ao cap, v = .slice ao l.length cap ∧ RdP w ao l ∧ (ao = none → l.length = 0 ∧ cap = 0) := by
  have h' := h
  obtain ⟨-, h2⟩ := h
  rcases h2 with ⟨rfl, h3⟩ | ⟨g, cap, cur, rfl, -⟩
  · exact ⟨none, 0, by rw [h3], Or.inl (List.eq_nil_of_length_eq_zero h3), fun _ => ⟨h3, rfl⟩⟩
  · exact ⟨some ⟨g, 0, none⟩, cap, rfl, RdP.own h', (fun e => by cases e)⟩

theorem OwnP.below {w w' : World} {B : Nat} {v : Value} {l : List (Int × Int)} (h : OwnP w B v l) (hB : Below w.heap.size w w') : OwnP w' B v l := by
  refine World.ownsRow.kept h (grown_of_below hB none) ?_
  cases hv : v.ownBlock with
  | none => exact Or.inl rfl
  | some k => exact Or.inr (by simp)

theorem own_stepP {w wr w1 : World} {v : Value} {l : List (Int × Int)} (hB : Below w.heap.size w wr) (hown : OwnP wr w.heap.size v l) (hg : wr.grownBy w1 v.ownBlock) : Below w.heap.size w w1 :=
  hB.grown hg hB.size (fun k e => (World.ownsRow.lt hown k e).1)

theorem OwnP.weak {w : World} {B B' : Nat} {v : Value} {l : List (Int × Int)} (h : OwnP w B' v l) (hB : B ≤ B') : OwnP w B v l := by
  obtain ⟨h1, h2⟩ := h
  refine ⟨h1, ?_⟩
  rcases h2 with h2 | ⟨g, cap, cur, hv, hg, hh⟩
  · exact Or.inl h2
  · exact Or.inr ⟨g, cap, cur, hv, Nat.le_trans hB hg, hh⟩

theorem part_len (l : List (Int × Int)) : ∀ f t : Int, (partL l f t).length ≤ l.length := by
  induction l with
  | nil => intro f t; simp [partL]
  | cons p l ih =>
    intro f t
    have := ih (f - p.2) (t - p.2)
    simp only [partL, List.length_append, List.length_cons]
    split <;> simp <;> omega

set_option maxRecDepth 100000 in
set_option maxHeartbeats 1000000 in
theorem put_any {w : World} {ao bo : Option Addr} {la ca lb cb : Nat} {l : List (Int × Int)} {pos x y : Int} (hr : RdP w ao l) (e1 : la = l.length) (hb : RdP w bo [(x, y)]) (e2 : lb = 1) (ok : okL l) (hlen : l.length ≤ 8000)
    (h0 : 0 ≤ pos) (h1 : pos ≤ sz l) :
    Calls Tryz.prog 155 #[.slice ao la ca, .int .i64 pos, .slice bo lb cb] w fun e w' => ∃ v, e = .returned v ∧ OwnP w' w.heap.size v (insL l pos (x, y)) ∧ Below w.heap.size w w' := by
  subst e1 e2
  have hs := sz_bd ok
  have hP1 := part_len l 0 pos
  have hP2 := part_len l pos (sz l)
  have HP : Hid (partL l 0 pos ++ [(x, y)] ++ partL l pos (sz l) = insL l pos (x, y)) := put_eq ok (x, y) h0 h1
  have hbn : bo = none → [(x, y)].length = 0 ∧ cb = 0 := by
    rcases hb with h | ⟨b, off, rfl, -⟩
    · cases h
    · intro e; cases e
  go_enter Tryz.func155, Tryz.ntmps155
  go_wp2_with fail
  refine (part_any hr rfl ok (by omega) (by omega) (by omega) h0 (by omega)).mono ?_
  rintro e w1 ⟨v1, rfl, hown1, hb1⟩
  have hbr := hb.below hb1
  have hs1 := hb1.size
  go_upto_region 5 with (at_builtin; go_must (refine wp_append_pieces (by rfl) (.tmp 15) (.tmp 16) (by rfl) w.heap.size _ (partL l 0 pos) [(x, y)] (by rfl) (by exact hown1) _ _ _ (by rfl) (by rfl) (by exact hbn) (by exact hbr) (by simp; omega) (by omega) ?_); intro v2 w2 hown2 hg2)
  have B2 : Below w.heap.size w w2 := own_stepP hb1 hown1 hg2
  have hr2 := hr.below B2
  have hs2 := B2.size
  clear hg2 hown1 hbr
  go_wp2_with fail
  refine (rsize_any hr2 rfl ok (by omega)).mono ?_
  rintro e w2 ⟨rfl, rfl⟩
  go_wp2_with fail
  refine (part_any hr2 rfl ok (by omega) h0 (by omega) (by omega) (by omega)).mono ?_
  rintro e w3 ⟨v3, rfl, hown3, hb3⟩
  obtain ⟨ao3, cp3, rfl, hr3, hn3⟩ := hown3.form
  have hown2' := hown2.below hb3
  have B3 := b_trans B2 hb3
  have hs3 := B3.size
  clear hown2 hown3
  go_wp2_with (at_builtin; go_must (refine wp_append_pieces (by rfl) (.tmp 18) (.tmp 23) (by rfl) w.heap.size _ (partL l 0 pos ++ [(x, y)]) (partL l pos (sz l)) (by rfl) (by exact hown2') _ _ _ (by rfl) (by rfl) (by exact hn3) (by exact hr3) (by simp; omega) (by omega) ?_); intro v4 w4 hown4 hg4)
  go_ret
  exact ⟨_, rfl, by rw [← HP.out]; exact hown4, own_stepP B3 hown2' hg4⟩

end Go.Proofs.YtfplgfodoiiobaaGreatDoor
