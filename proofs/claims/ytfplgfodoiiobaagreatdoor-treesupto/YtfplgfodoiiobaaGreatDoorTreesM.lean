/- The calls of a tree and of the document's list, each in one contract: what comes out is told by one function of the pieces. -/
import Derived.Test.YtfplgfodoiiobaaGreatDoorTreesL
namespace Go.Proofs.YtfplgfodoiiobaaGreatDoor
open Go.RowKit

/-- What Insert leaves, and its number. -/
def insR (l : List (Int × Int)) (pos x y : Int) : List (Int × Int) × Int :=
  if pos < 0 ∨ sz l < pos then (l, 5) else if ¬ (1 ≤ y ∧ y ≤ 5000 ∧ 0 ≤ x ∧ x ≤ 1000000000) then (l, 1) else if 4096 < (insL l pos (x, y)).length then (l, 13) else (insL l pos (x, y), 0)
/-- What Delete leaves, what went, and its number. -/
def delR (l : List (Int × Int)) (pos n : Int) : List (Int × Int) × List (Int × Int) × Int :=
  if n < 0 ∨ pos < 0 ∨ sz l < pos ∨ sz l - pos < n then (l, [], 5) else if n = 0 then (l, [], 0) else if 4096 < (delL l pos n).length then (l, [], 13) else (delL l pos n, goneL l pos n, 0)
/-- What Find tells. -/
def findR (l : List (Int × Int)) (pos : Int) : (Int × Int) × Int :=
  if pos < 0 ∨ sz l ≤ pos then ((0, 0), 5) else (((tailB l pos).head?).getD (0, 0), 0)

theorem TreeAt.ok {w : World} {tb : Nat} {l : List (Int × Int)} (t : TreeAt w tb l) : okL l ∧ l.length ≤ 4096 := by
  obtain ⟨_, _, _, _, h1, h2⟩ := t; exact ⟨h1, h2⟩

theorem insert_all {w : World} {tb : Nat} {l : List (Int × Int)} (t : TreeAt w tb l) {pos x y : Int} :
    Calls Tryz.prog 63 #[.pointer (some ⟨tb, 0, none⟩), .int .i64 pos, .agg #[.int .i64 x, .int .i64 y]] w fun e w' =>
      e = .returned (.int .i64 (insR l pos x y).2) ∧ TreeAt w' tb (insR l pos x y).1 ∧ w.grownBy w' (some tb) := by
  by_cases h1 : pos < 0 ∨ sz l < pos
  · refine (insert_pos t h1).mono ?_
    rintro e w' ⟨rfl, hb⟩
    simp only [insR, if_pos h1]
    exact ⟨trivial, t.below hb, grown_of_below hb _⟩
  · by_cases h2 : mayP x y
    · refine (insert_go t (by omega) (by omega) h2).mono ?_
      rintro e w' (⟨h3, rfl, hb⟩ | ⟨h3, rfl, ht, hg⟩)
      · simp only [insR, if_neg h1, if_neg (not_not_intro (show 1 ≤ y ∧ y ≤ 5000 ∧ 0 ≤ x ∧ x ≤ 1000000000 from h2)), if_pos h3]
        exact ⟨trivial, t.below hb, grown_of_below hb _⟩
      · simp only [insR, if_neg h1, if_neg (not_not_intro (show 1 ≤ y ∧ y ≤ 5000 ∧ 0 ≤ x ∧ x ≤ 1000000000 from h2)), if_neg (Nat.not_lt.2 h3)]
        exact ⟨trivial, ht, hg⟩
    · refine (insert_arg t (by omega) (by omega) h2).mono ?_
      rintro e w' ⟨rfl, hb⟩
      simp only [insR, if_neg h1, if_pos (show ¬ (1 ≤ y ∧ y ≤ 5000 ∧ 0 ≤ x ∧ x ≤ 1000000000) from h2)]
      exact ⟨trivial, t.below hb, grown_of_below hb _⟩

theorem rinsert_all {w : World} {ao : Option Addr} {la ca : Nat} {l : List (Int × Int)} {pos x y : Int} (hr : RdT w ao l) (e1 : la = l.length) (ok : okL l) (hlen : l.length ≤ 4096) :
    Calls Tryz.prog 100 #[.slice ao la ca, .int .i64 pos, .agg #[.int .i64 x, .int .i64 y]] w fun e w' =>
      ∃ ao' ca', e = .returned (.tuple #[.slice ao' (insR l pos x y).1.length ca', .int .i64 (insR l pos x y).2]) ∧ RdT w' ao' (insR l pos x y).1 ∧ Below w.heap.size w w' := by
  have hrb : ∀ w', Below w.heap.size w w' → RdT w' ao l := fun w' hb => hr.fr (Fr.of_below hb (fun _ => False)) (fun _ _ _ => id)
  by_cases h1 : pos < 0 ∨ sz l < pos
  · refine (rinsert_pos hr.1 e1 ok (by omega) h1).mono ?_
    rintro e w' ⟨rfl, hb⟩
    subst e1
    simp only [insR, if_pos h1]
    exact ⟨_, _, rfl, hrb _ hb, hb⟩
  · by_cases h2 : mayP x y
    · refine (rinsert_go hr.1 e1 ok (by omega) (by omega) (by omega) h2).mono ?_
      rintro e w' (⟨h3, rfl, hb⟩ | ⟨h3, v, rfl, ho, hb⟩)
      · subst e1
        simp only [insR, if_neg h1, if_neg (not_not_intro (show 1 ≤ y ∧ y ≤ 5000 ∧ 0 ≤ x ∧ x ≤ 1000000000 from h2)), if_pos h3]
        exact ⟨_, _, rfl, hrb _ hb, hb⟩
      · simp only [insR, if_neg h1, if_neg (not_not_intro (show 1 ≤ y ∧ y ≤ 5000 ∧ 0 ≤ x ∧ x ≤ 1000000000 from h2)), if_neg (Nat.not_lt.2 h3)]
        obtain ⟨ao', cap', rfl, hr', -⟩ := RdT.of_own ho
        exact ⟨_, _, rfl, hr', hb⟩
    · refine (rinsert_arg hr.1 e1 ok (by omega) (by omega) (by omega) h2).mono ?_
      rintro e w' ⟨rfl, hb⟩
      subst e1
      simp only [insR, if_neg h1, if_pos (show ¬ (1 ≤ y ∧ y ≤ 5000 ∧ 0 ≤ x ∧ x ≤ 1000000000) from h2)]
      exact ⟨_, _, rfl, hrb _ hb, hb⟩

theorem deleteT_all {w : World} {tb : Nat} {l : List (Int × Int)} (t : TreeAt w tb l) {pos n : Int} (hn2 : n ≤ 9223372036854775807) (hp2 : pos ≤ 9223372036854775807) :
    Calls Tryz.prog 101 #[.pointer (some ⟨tb, 0, none⟩), .int .i64 pos, .int .i64 n] w fun e w' =>
      ∃ ao, e = .returned (.tuple #[.slice ao (delR l pos n).2.1.length (delR l pos n).2.1.length, .int .i64 (delR l pos n).2.2]) ∧ OwnP w' w.heap.size (.slice ao (delR l pos n).2.1.length (delR l pos n).2.1.length) (delR l pos n).2.1
        ∧ TreeAt w' tb (delR l pos n).1 ∧ w.grownBy w' (some tb) := by
  by_cases h1 : n < 0 ∨ pos < 0 ∨ sz l < pos ∨ sz l - pos < n
  · refine (delete_pos t hn2 hp2 h1).mono ?_
    rintro e w' ⟨rfl, rfl⟩
    simp only [delR, if_pos h1]
    exact ⟨none, rfl, World.ownsRow_nil _ _ _ _, t, World.grownBy.refl _ _⟩
  · by_cases h2 : n = 0
    · subst h2
      refine (delete_zero t (by omega) (by omega)).mono ?_
      rintro e w' ⟨rfl, rfl⟩
      simp only [delR, if_neg h1, if_pos]
      exact ⟨none, rfl, World.ownsRow_nil _ _ _ _, t, World.grownBy.refl _ _⟩
    · refine (delete_go t (by omega) (by omega) (by omega) (by omega)).mono ?_
      rintro e w' (⟨h3, rfl, hb⟩ | ⟨h3, g, rfl, ho, hg, ht, hgr⟩)
      · simp only [delR, if_neg h1, if_neg h2, if_pos h3]
        exact ⟨none, rfl, World.ownsRow_nil _ _ _ _, t.below hb, grown_of_below hb _⟩
      · simp only [delR, if_neg h1, if_neg h2, if_neg (Nat.not_lt.2 h3)]
        exact ⟨_, rfl, OwnP.weak (B' := g) ho hg, ht, hgr⟩

theorem rdelete_all {w : World} {ao : Option Addr} {la ca : Nat} {l : List (Int × Int)} {pos n : Int} (hr : RdT w ao l) (e1 : la = l.length) (ok : okL l) (hlen : l.length ≤ 4096) :
    Calls Tryz.prog 102 #[.slice ao la ca, .int .i64 pos, .int .i64 n] w fun e w' =>
      ∃ ao' ca' go gc, e = .returned (.tuple #[.slice ao' (delR l pos n).1.length ca', .slice go (delR l pos n).2.1.length gc, .int .i64 (delR l pos n).2.2]) ∧ RdT w' ao' (delR l pos n).1 ∧ RdT w' go (delR l pos n).2.1 ∧ (∀ a, ao' = some a → ao = some a ∨ w.heap.size ≤ a.block) ∧ Below w.heap.size w w' := by
  have hrb : ∀ w', Below w.heap.size w w' → RdT w' ao l := fun w' hb => hr.fr (Fr.of_below hb (fun _ => False)) (fun _ _ _ => id)
  by_cases h1 : n < 0 ∨ pos < 0 ∨ sz l < pos ∨ sz l - pos < n
  · refine (rdelete_pos hr.1 e1 ok (by omega) h1).mono ?_
    rintro e w' ⟨rfl, rfl⟩
    subst e1
    simp only [delR, if_pos h1]
    exact ⟨_, _, none, 0, rfl, hr, RdT.nil _, fun a e => Or.inl e, Below.refl _ _⟩
  · by_cases h2 : n = 0
    · subst h2
      refine (rdelete_zero hr.1 e1 ok (by omega) (by omega) (by omega)).mono ?_
      rintro e w' ⟨rfl, rfl⟩
      subst e1
      simp only [delR, if_neg h1, if_pos]
      exact ⟨_, _, none, 0, rfl, hr, RdT.nil _, fun a e => Or.inl e, Below.refl _ _⟩
    · refine (rdelete_go hr.1 e1 ok (by omega) (by omega) (by omega) (by omega) (by omega)).mono ?_
      rintro e w' (⟨h3, rfl, hb⟩ | ⟨h3, v, g, rfl, ho, hg, hb⟩)
      · subst e1
        simp only [delR, if_neg h1, if_neg h2, if_pos h3]
        exact ⟨_, _, none, 0, rfl, hrb _ hb, RdT.nil _, fun a e => Or.inl e, hb⟩
      · simp only [delR, if_neg h1, if_neg h2, if_neg (Nat.not_lt.2 h3)]
        obtain ⟨ao', cap', rfl, hr', -⟩ := RdT.of_own ho
        obtain ⟨go, gc, rfl, hg', -⟩ := RdT.of_own hg
        exact ⟨_, _, _, _, rfl, hr', hg', fun a e => Or.inr (ho.typed a e).choose_spec.2, hb⟩

theorem find_all {w : World} {tb : Nat} {l : List (Int × Int)} (t : TreeAt w tb l) {pos : Int} :
    Calls Tryz.prog 104 #[.pointer (some ⟨tb, 0, none⟩), .int .i64 pos] w fun e w' =>
      e = .returned (.tuple #[.agg #[.int .i64 (findR l pos).1.1, .int .i64 (findR l pos).1.2], .int .i64 (findR l pos).2]) ∧ Below w.heap.size w w' := by
  by_cases h1 : pos < 0 ∨ sz l ≤ pos
  · simp only [findR, if_pos h1]
    exact find_no t h1
  · refine (find_yes t (by omega) (by omega)).mono ?_
    rintro e w' ⟨q, hq, rfl, hb⟩
    simp only [findR, if_neg h1, hq, Option.getD_some]
    exact ⟨trivial, hb⟩

theorem rfind_all {w : World} {ao : Option Addr} {la ca : Nat} {l : List (Int × Int)} {pos : Int} (hr : RdP w ao l) (e1 : la = l.length) (ok : okL l) (hlen : l.length ≤ 4096) :
    Calls Tryz.prog 105 #[.slice ao la ca, .int .i64 pos] w fun e w' =>
      e = .returned (.tuple #[.agg #[.int .i64 (findR l pos).1.1, .int .i64 (findR l pos).1.2], .int .i64 (findR l pos).2]) ∧ Below w.heap.size w w' := by
  by_cases h1 : pos < 0 ∨ sz l ≤ pos
  · simp only [findR, if_pos h1]
    exact rfind_no hr e1 ok (by omega) h1
  · refine (rfind_yes hr e1 ok (by omega) (by omega) (by omega)).mono ?_
    rintro e w' ⟨q, hq, rfl, hb⟩
    simp only [findR, if_neg h1, hq, Option.getD_some]
    exact ⟨trivial, hb⟩

end Go.Proofs.YtfplgfodoiiobaaGreatDoor
