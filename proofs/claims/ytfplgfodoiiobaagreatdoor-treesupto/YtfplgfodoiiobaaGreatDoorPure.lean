/- Plain facts on lists of pieces (an offset and a length): their bytes, the first bytes and the rest of a list; no program is named here. -/
import Derived.WalkKit
namespace Go.Proofs.YtfplgfodoiiobaaGreatDoor

/-- How many bytes the pieces have. -/
def sz : List (Int × Int) → Int
  | [] => 0
  | p :: l => p.2 + sz l

def okP (p : Int × Int) : Prop := 1 ≤ p.2 ∧ p.2 ≤ 5000 ∧ 0 ≤ p.1 ∧ p.1 + p.2 ≤ 1000005000
def okL (l : List (Int × Int)) : Prop := ∀ p, p ∈ l → okP p

/-- The first n bytes, and the rest. -/
def headB : List (Int × Int) → Int → List (Int × Int)
  | [], _ => []
  | p :: l, n => if n ≤ 0 then [] else if p.2 ≤ n then p :: headB l (n - p.2) else [(p.1, n)]
def tailB : List (Int × Int) → Int → List (Int × Int)
  | [], _ => []
  | p :: l, n => if n ≤ 0 then p :: l else if p.2 ≤ n then tailB l (n - p.2) else (p.1 + n, p.2 - n) :: l

theorem sz_append (a b : List (Int × Int)) : sz (a ++ b) = sz a + sz b := by
  induction a with
  | nil => simp [sz]
  | cons p a ih => simp [sz, ih]; omega

theorem sz_cons (p : Int × Int) (l : List (Int × Int)) : sz (p :: l) = p.2 + sz l := rfl

theorem okL_nil : okL [] := fun _ h => by simp at h
theorem okL_cons {p : Int × Int} {l : List (Int × Int)} (hp : okP p) (h : okL l) : okL (p :: l) := fun q hq => by
  rcases List.mem_cons.1 hq with rfl | hq
  · exact hp
  · exact h q hq
theorem okL_append {a b : List (Int × Int)} (ha : okL a) (hb : okL b) : okL (a ++ b) := fun q hq => by
  rcases List.mem_append.1 hq with h | h
  · exact ha q h
  · exact hb q h
theorem okL_left {a b : List (Int × Int)} (h : okL (a ++ b)) : okL a := fun q hq => h q (List.mem_append.2 (Or.inl hq))
theorem okL_right {a b : List (Int × Int)} (h : okL (a ++ b)) : okL b := fun q hq => h q (List.mem_append.2 (Or.inr hq))
theorem okL_tail {p : Int × Int} {l : List (Int × Int)} (h : okL (p :: l)) : okL l := fun q hq => h q (List.mem_cons.2 (Or.inr hq))
theorem okL_head {p : Int × Int} {l : List (Int × Int)} (h : okL (p :: l)) : okP p := h p (List.mem_cons.2 (Or.inl rfl))

theorem sz_bd {l : List (Int × Int)} (h : okL l) : (l.length : Int) ≤ sz l ∧ sz l ≤ 5000 * l.length := by
  induction l with
  | nil => simp [sz]
  | cons p l ih =>
    have h1 := ih (okL_tail h)
    have h2 := okL_head h
    unfold okP at h2
    simp [sz]
    omega

theorem headB_neg (l : List (Int × Int)) {n : Int} (h : n ≤ 0) : headB l n = [] := by
  cases l with
  | nil => rfl
  | cons p l => simp [headB, h]
theorem tailB_neg (l : List (Int × Int)) {n : Int} (h : n ≤ 0) : tailB l n = l := by
  cases l with
  | nil => rfl
  | cons p l => simp [tailB, h]

theorem headB_append {a : List (Int × Int)} (b : List (Int × Int)) (h : okL a) : ∀ n : Int, headB (a ++ b) n = if n ≤ sz a then headB a n else a ++ headB b (n - sz a) := by
  induction a with
  | nil =>
    intro n
    by_cases hn : n ≤ 0
    · simp [sz, hn, headB_neg]
    · simp [sz, hn]
  | cons p a ih =>
    intro n
    have h1 := sz_bd (okL_tail h)
    have h2 := okL_head h
    unfold okP at h2
    have e := ih (okL_tail h) (n - p.2)
    have hsz : sz (p :: a) = p.2 + sz a := rfl
    simp only [List.cons_append, headB]
    by_cases hn : n ≤ 0
    · rw [if_pos hn, if_pos (show n ≤ sz (p :: a) by omega), if_pos hn]
    · by_cases hp : p.2 ≤ n
      · rw [if_neg hn, if_pos hp, e]
        by_cases hs : n ≤ sz (p :: a)
        · rw [if_pos (by omega), if_pos hs, if_neg hn, if_pos hp]
        · rw [if_neg (by omega), if_neg hs, show n - p.2 - sz a = n - sz (p :: a) from by omega]
      · rw [if_neg hn, if_neg hp, if_pos (show n ≤ sz (p :: a) by omega), if_neg hn, if_neg hp]

theorem tailB_append {a : List (Int × Int)} (b : List (Int × Int)) (h : okL a) : ∀ n : Int, tailB (a ++ b) n = if n ≤ sz a then tailB a n ++ b else tailB b (n - sz a) := by
  induction a with
  | nil =>
    intro n
    by_cases hn : n ≤ 0
    · simp [sz, hn, tailB_neg]
    · simp [sz, hn]
  | cons p a ih =>
    intro n
    have h1 := sz_bd (okL_tail h)
    have h2 := okL_head h
    unfold okP at h2
    have e := ih (okL_tail h) (n - p.2)
    have hsz : sz (p :: a) = p.2 + sz a := rfl
    simp only [List.cons_append, tailB]
    by_cases hn : n ≤ 0
    · rw [if_pos hn, if_pos (show n ≤ sz (p :: a) by omega), if_pos hn]; rfl
    · by_cases hp : p.2 ≤ n
      · rw [if_neg hn, if_pos hp, e]
        by_cases hs : n ≤ sz (p :: a)
        · rw [if_pos (by omega), if_pos hs, if_neg hn, if_pos hp]
        · rw [if_neg (by omega), if_neg hs, show n - p.2 - sz a = n - sz (p :: a) from by omega]
      · rw [if_neg hn, if_neg hp, if_pos (show n ≤ sz (p :: a) by omega), if_neg hn, if_neg hp]; rfl

theorem headB_all {l : List (Int × Int)} (h : okL l) : ∀ {n : Int}, sz l ≤ n → headB l n = l := by
  induction l with
  | nil => intros; rfl
  | cons p l ih =>
    intro n hn
    have h1 := sz_bd (okL_tail h)
    have h2 := okL_head h
    unfold okP at h2
    simp only [sz] at hn
    simp only [headB]
    rw [if_neg (by omega), if_pos (by omega), ih (okL_tail h) (by omega)]
theorem tailB_all {l : List (Int × Int)} (h : okL l) : ∀ {n : Int}, sz l ≤ n → tailB l n = [] := by
  induction l with
  | nil => intros; rfl
  | cons p l ih =>
    intro n hn
    have h1 := sz_bd (okL_tail h)
    have h2 := okL_head h
    unfold okP at h2
    simp only [sz] at hn
    simp only [tailB]
    rw [if_neg (by omega), if_pos (by omega), ih (okL_tail h) (by omega)]

/-- The three ways of a split at a node. -/
theorem split_left {a b : List (Int × Int)} {p : Int × Int} {n : Int} (h : okL a) (hn : n ≤ sz a) :
    headB (a ++ p :: b) n = headB a n ∧ tailB (a ++ p :: b) n = tailB a n ++ p :: b := by
  rw [headB_append _ h, tailB_append _ h, if_pos hn, if_pos hn]; exact ⟨rfl, rfl⟩
theorem split_right {a b : List (Int × Int)} {p : Int × Int} {n : Int} (h : okL a) (hp : okP p) (hn : sz a + p.2 ≤ n) :
    headB (a ++ p :: b) n = a ++ p :: headB b (n - (sz a + p.2)) ∧ tailB (a ++ p :: b) n = tailB b (n - (sz a + p.2)) := by
  unfold okP at hp
  rw [headB_append _ h, tailB_append _ h, if_neg (by omega), if_neg (by omega)]
  simp only [headB, tailB]
  rw [if_neg (by omega), if_pos (by omega), if_neg (by omega), if_pos (by omega), show n - sz a - p.2 = n - (sz a + p.2) from by omega]
  exact ⟨rfl, rfl⟩
theorem split_mid {a b : List (Int × Int)} {p : Int × Int} {n : Int} (h : okL a) (h1 : sz a < n) (h2 : n < sz a + p.2) :
    headB (a ++ p :: b) n = a ++ [(p.1, n - sz a)] ∧ tailB (a ++ p :: b) n = (p.1 + (n - sz a), p.2 - (n - sz a)) :: b := by
  rw [headB_append _ h, tailB_append _ h, if_neg (by omega), if_neg (by omega)]
  simp only [headB, tailB]
  rw [if_neg (by omega), if_neg (by omega), if_neg (by omega), if_neg (by omega)]
  exact ⟨rfl, rfl⟩

theorem okL_headB {l : List (Int × Int)} (h : okL l) : ∀ n : Int, okL (headB l n) := by
  induction l with
  | nil => intro n; exact okL_nil
  | cons p l ih =>
    intro n
    have h2 := okL_head h
    simp only [headB]
    by_cases hn : n ≤ 0
    · rw [if_pos hn]; exact okL_nil
    · rw [if_neg hn]
      by_cases hp : p.2 ≤ n
      · rw [if_pos hp]; exact okL_cons h2 (ih (okL_tail h) _)
      · rw [if_neg hp]
        refine okL_cons ?_ okL_nil
        unfold okP at h2 ⊢
        simp only
        omega
theorem okL_tailB {l : List (Int × Int)} (h : okL l) : ∀ n : Int, okL (tailB l n) := by
  induction l with
  | nil => intro n; exact okL_nil
  | cons p l ih =>
    intro n
    have h2 := okL_head h
    simp only [tailB]
    by_cases hn : n ≤ 0
    · rw [if_pos hn]; exact h
    · rw [if_neg hn]
      by_cases hp : p.2 ≤ n
      · rw [if_pos hp]; exact ih (okL_tail h) _
      · rw [if_neg hp]
        refine okL_cons ?_ (okL_tail h)
        unfold okP at h2 ⊢
        simp only
        omega

theorem len_split (l : List (Int × Int)) : ∀ n : Int, l.length ≤ (headB l n).length + (tailB l n).length ∧ (headB l n).length + (tailB l n).length ≤ l.length + 1 := by
  induction l with
  | nil => intro n; simp [headB, tailB]
  | cons p l ih =>
    intro n
    have e := ih (n - p.2)
    simp only [headB, tailB]
    by_cases hn : n ≤ 0
    · rw [if_pos hn, if_pos hn]; simp
    · rw [if_neg hn, if_neg hn]
      by_cases hp : p.2 ≤ n
      · rw [if_pos hp, if_pos hp]; simp only [List.length_cons]; omega
      · rw [if_neg hp, if_neg hp]; simp only [List.length_cons, List.length_nil]; omega

theorem sz_headB {l : List (Int × Int)} (h : okL l) : ∀ {n : Int}, 0 ≤ n → n ≤ sz l → sz (headB l n) = n := by
  induction l with
  | nil => intro n h0 hn; simp [sz] at hn; simp [headB, sz]; omega
  | cons p l ih =>
    intro n h0 hn
    simp only [sz] at hn
    simp only [headB]
    by_cases hz : n ≤ 0
    · rw [if_pos hz]; simp [sz]; omega
    · rw [if_neg hz]
      by_cases hp : p.2 ≤ n
      · rw [if_pos hp, sz_cons, ih (okL_tail h) (by omega) (by omega)]; omega
      · rw [if_neg hp]; simp [sz]
theorem sz_tailB {l : List (Int × Int)} (h : okL l) : ∀ {n : Int}, 0 ≤ n → n ≤ sz l → sz (tailB l n) = sz l - n := by
  induction l with
  | nil => intro n h0 hn; simp [sz] at hn; simp [tailB, sz]; omega
  | cons p l ih =>
    intro n h0 hn
    simp only [sz] at hn
    simp only [tailB]
    by_cases hz : n ≤ 0
    · rw [if_pos hz]; simp [sz]; omega
    · rw [if_neg hz]
      by_cases hp : p.2 ≤ n
      · rw [if_pos hp, ih (okL_tail h) (by omega) (by omega)]; simp [sz]; omega
      · rw [if_neg hp]; simp [sz]; omega

/-- The places in the buffer, byte for byte. -/
def fl : List (Int × Int) → List Int
  | [] => []
  | p :: l => (List.range p.2.toNat).map (fun k : Nat => p.1 + (k : Int)) ++ fl l

theorem fl_append (a b : List (Int × Int)) : fl (a ++ b) = fl a ++ fl b := by
  induction a with
  | nil => rfl
  | cons p a ih => simp [fl, ih]

theorem fl_length {l : List (Int × Int)} (h : okL l) : ((fl l).length : Int) = sz l := by
  induction l with
  | nil => rfl
  | cons p l ih =>
    have e := ih (okL_tail h)
    have h2 := okL_head h
    unfold okP at h2
    simp only [fl, List.length_append, List.length_map, List.length_range, sz]
    omega

theorem fl_headB {l : List (Int × Int)} (h : okL l) : ∀ n : Int, fl (headB l n) = (fl l).take n.toNat := by
  induction l with
  | nil => intro n; simp [headB, fl]
  | cons p l ih =>
    intro n
    have h2 := okL_head h
    unfold okP at h2
    simp only [headB]
    by_cases hz : n ≤ 0
    · rw [if_pos hz, show n.toNat = 0 from by omega]; simp [fl]
    · rw [if_neg hz]
      by_cases hp : p.2 ≤ n
      · rw [if_pos hp]
        simp only [fl]
        rw [ih (okL_tail h), List.take_append]
        simp only [List.length_map, List.length_range]
        rw [List.take_of_length_le (show (List.map (fun k : Nat => p.1 + (k : Int)) (List.range p.2.toNat)).length ≤ n.toNat by simp; omega), show n.toNat - p.2.toNat = (n - p.2).toNat from by omega]
      · rw [if_neg hp]
        simp only [fl, List.append_nil]
        rw [List.take_append_of_le_length (by simp; omega), ← List.map_take, List.take_range, Nat.min_eq_left (by omega)]

theorem fl_split {l : List (Int × Int)} (h : okL l) : ∀ n : Int, fl (headB l n) ++ fl (tailB l n) = fl l := by
  induction l with
  | nil => intro n; simp [headB, tailB, fl]
  | cons p l ih =>
    intro n
    have h2 := okL_head h
    unfold okP at h2
    simp only [headB, tailB]
    by_cases hz : n ≤ 0
    · rw [if_pos hz, if_pos hz]; simp [fl]
    · rw [if_neg hz, if_neg hz]
      by_cases hp : p.2 ≤ n
      · rw [if_pos hp, if_pos hp]
        simp only [fl]
        rw [List.append_assoc, ih (okL_tail h)]
      · rw [if_neg hp, if_neg hp]
        simp only [fl, List.append_nil]
        rw [← List.append_assoc]
        congr 1
        rw [show p.2.toNat = n.toNat + (p.2 - n).toNat from by omega, List.range_add, List.map_append, List.map_map]
        congr 1
        apply List.map_congr_left
        intro k _
        simp only [Function.comp]
        omega

theorem fl_tailB {l : List (Int × Int)} (h : okL l) (n : Int) (hn : n ≤ sz l) : fl (tailB l n) = (fl l).drop n.toNat := by
  have e := fl_split h n
  have e1 := fl_headB h n
  rw [e1] at e
  have hl := fl_length h
  by_cases h0 : n ≤ 0
  · rw [tailB_neg l h0, show n.toNat = 0 from by omega]; rfl
  · have : List.drop n.toNat (fl l) = List.drop n.toNat (List.take n.toNat (fl l) ++ fl (tailB l n)) := by rw [e]
    rw [this, List.drop_append, List.length_take, Nat.min_eq_left (by omega), Nat.sub_self]
    rw [List.drop_of_length_le (by rw [List.length_take]; omega)]
    simp

end Go.Proofs.YtfplgfodoiiobaaGreatDoor
