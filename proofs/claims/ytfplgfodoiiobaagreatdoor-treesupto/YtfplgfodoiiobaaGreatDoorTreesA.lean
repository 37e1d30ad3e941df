/- Plain facts on the document's flat list of pieces: 'part' (the bytes from one place up to another) against the first bytes and the rest. -/
import Derived.Test.YtfplgfodoiiobaaGreatDoorPure
namespace Go.Proofs.YtfplgfodoiiobaaGreatDoor

/-- The bytes from f up to t, as pieces. -/
def partL : List (Int × Int) → Int → Int → List (Int × Int)
  | [], _, _ => []
  | p :: l, f, t => (if max f 0 < min t p.2 then [(p.1 + max f 0, min t p.2 - max f 0)] else []) ++ partL l (f - p.2) (t - p.2)

theorem part_head {l : List (Int × Int)} (h : okL l) : ∀ {f : Int} (t : Int), f ≤ 0 → partL l f t = headB l t := by
  induction l with
  | nil => intros; rfl
  | cons p l ih =>
    intro f t hf
    have h2 := okL_head h
    unfold okP at h2
    simp only [partL, headB]
    rw [ih (okL_tail h) _ (by omega), show max f 0 = 0 from by omega]
    by_cases h0 : t ≤ 0
    · rw [if_neg (by omega), if_pos h0, headB_neg _ (by omega)]; rfl
    · rw [if_pos (by omega), if_neg h0]
      by_cases h1 : p.2 ≤ t
      · rw [if_pos h1, show min t p.2 = p.2 from by omega]; simp
      · rw [if_neg h1, headB_neg _ (by omega), show min t p.2 = t from by omega]; simp

theorem part_eq {l : List (Int × Int)} (h : okL l) : ∀ {f : Int} (t : Int), 0 ≤ f → partL l f t = headB (tailB l f) (t - f) := by
  induction l with
  | nil => intros; rfl
  | cons p l ih =>
    intro f t hf
    have h2 := okL_head h
    unfold okP at h2
    by_cases h0 : f ≤ 0
    · have : f = 0 := by omega
      subst this
      rw [part_head h _ (Int.le_refl _), tailB_neg _ (Int.le_refl _), Int.sub_zero]
    · simp only [partL, tailB]
      rw [if_neg h0]
      by_cases h1 : p.2 ≤ f
      · rw [if_pos h1, if_neg (by omega), ih (okL_tail h) _ (by omega), show t - p.2 - (f - p.2) = t - f from by omega]; rfl
      · rw [if_neg h1, part_head (okL_tail h) _ (by omega)]
        simp only [headB]
        rw [show max f 0 = f from by omega]
        by_cases h3 : t - f ≤ 0
        · rw [if_pos h3, if_neg (by omega), headB_neg _ (by omega)]; rfl
        · rw [if_neg h3]
          by_cases h4 : p.2 - f ≤ t - f
          · rw [if_pos h4, if_pos (by omega), show min t p.2 = p.2 from by omega, show t - f - (p.2 - f) = t - p.2 from by omega]; rfl
          · rw [if_neg h4, if_pos (by omega), show min t p.2 = t from by omega, headB_neg _ (by omega)]; simp

theorem tailB_tailB {l : List (Int × Int)} (h : okL l) : ∀ {p n : Int}, 0 ≤ p → 0 ≤ n → tailB (tailB l p) n = tailB l (p + n) := by
  induction l with
  | nil => intros; rfl
  | cons q l ih =>
    intro p n hp hn
    have h2 := okL_head h
    unfold okP at h2
    by_cases h0 : p ≤ 0
    · have : p = 0 := by omega
      subst this
      rw [tailB_neg _ (Int.le_refl _), Int.zero_add]
    · simp only [tailB]
      rw [if_neg h0, if_neg (show ¬ p + n ≤ 0 by omega)]
      by_cases h1 : q.2 ≤ p
      · rw [if_pos h1, if_pos (show q.2 ≤ p + n by omega), ih (okL_tail h) (by omega) hn, show p - q.2 + n = p + n - q.2 from by omega]
      · rw [if_neg h1]
        simp only [tailB]
        by_cases h3 : n ≤ 0
        · have : n = 0 := by omega
          subst this
          rw [if_pos (Int.le_refl _), if_neg (by omega)]; simp
        · rw [if_neg h3]
          by_cases h4 : q.2 - p ≤ n
          · rw [if_pos h4, if_pos (show q.2 ≤ p + n by omega), show n - (q.2 - p) = p + n - q.2 from by omega]
          · rw [if_neg h4, if_neg (by omega)]
            simp
            omega

theorem part_tail {l : List (Int × Int)} (h : okL l) {f : Int} (h0 : 0 ≤ f) (h1 : f ≤ sz l) : partL l f (sz l) = tailB l f := by
  rw [part_eq h _ h0, headB_all (okL_tailB h f) (by rw [sz_tailB h h0 h1]; omega)]

/-- The document's Put and Cut are the tree's. -/
theorem put_eq {l : List (Int × Int)} (h : okL l) {pos : Int} (p : Int × Int) (h0 : 0 ≤ pos) (h1 : pos ≤ sz l) : partL l 0 pos ++ [p] ++ partL l pos (sz l) = headB l pos ++ p :: tailB l pos := by
  rw [part_head h _ (Int.le_refl _), part_tail h h0 h1]; simp
theorem cut_eq {l : List (Int × Int)} (h : okL l) {pos n : Int} (h0 : 0 ≤ pos) (hn : 0 ≤ n) (h1 : n ≤ sz l - pos) :
    partL l 0 pos ++ partL l (pos + n) (sz l) = headB l pos ++ tailB (tailB l pos) n ∧ partL l pos (pos + n) = headB (tailB l pos) n := by
  rw [part_head h _ (Int.le_refl _), part_tail h (by omega) (by omega), tailB_tailB h h0 hn, part_eq h _ h0, show pos + n - pos = n from by omega]
  exact ⟨rfl, rfl⟩

end Go.Proofs.YtfplgfodoiiobaaGreatDoor
