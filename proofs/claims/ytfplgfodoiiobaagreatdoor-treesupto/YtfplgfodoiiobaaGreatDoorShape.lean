/- A tree of nodes as it lies in memory: which pieces it has, how high it is; what a world that only grew keeps of it. -/
import Derived.Test.YtfplgfodoiiobaaGreatDoorChecked
import Derived.Test.YtfplgfodoiiobaaGreatDoorPure
import Derived.WalkKit
import Derived.WalkSpells
namespace Go.Proofs.YtfplgfodoiiobaaGreatDoor
open Go.RowKit

/-- A node's block. -/
def nodeB (la ra : Option Addr) (p : Int × Int) (h : Nat) (l : List (Int × Int)) : Obj :=
  .cells #[.pointer la, .pointer ra, .int .i64 p.1, .int .i64 p.2, .int .i64 (h : Int), .int .i64 (l.length : Int), .int .i64 (sz l)] 234

/-- The pointer leads to a balanced tree of that height with those pieces; so many levels are enough to see it. -/
def Tr (w : World) : Nat → Option Addr → Nat → List (Int × Int) → Prop
  | 0, a, h, l => a = none ∧ h = 0 ∧ l = []
  | k + 1, a, h, l => (a = none ∧ h = 0 ∧ l = []) ∨ ∃ (b : Nat) (la ra : Option Addr) (p : Int × Int) (hl hr : Nat) (ll lr : List (Int × Int)),
      a = some ⟨b, 0, none⟩ ∧ w.heap[b]? = some (nodeB la ra p h l) ∧ Tr w k la hl ll ∧ Tr w k ra hr lr ∧ l = ll ++ p :: lr ∧ h = 1 + max hl hr ∧ hl ≤ hr + 1 ∧ hr ≤ hl + 1

def T (w : World) (a : Option Addr) (h : Nat) (l : List (Int × Int)) : Prop := ∃ k, Tr w k a h l

theorem Tr.mono {w : World} : ∀ {k : Nat} {a : Option Addr} {h : Nat} {l : List (Int × Int)}, Tr w k a h l → ∀ j, k ≤ j → Tr w j a h l := by
  intro k
  induction k with
  | zero =>
    intro a h l ht j _
    cases j with
    | zero => exact ht
    | succ j => exact Or.inl ht
  | succ k ih =>
    intro a h l ht j hj
    cases j with
    | zero => omega
    | succ j =>
      rcases ht with ht | ⟨b, la, ra, p, hl, hr, ll, lr, h1, h2, h3, h4, h5⟩
      · exact Or.inl ht
      · exact Or.inr ⟨b, la, ra, p, hl, hr, ll, lr, h1, h2, ih h3 j (by omega), ih h4 j (by omega), h5⟩

theorem T.nil (w : World) : T w none 0 [] := ⟨0, rfl, rfl, rfl⟩

theorem T.node {w : World} {b : Nat} {la ra : Option Addr} {p : Int × Int} {hl hr : Nat} {ll lr : List (Int × Int)}
    (hb : w.heap[b]? = some (nodeB la ra p (1 + max hl hr) (ll ++ p :: lr))) (h1 : T w la hl ll) (h2 : T w ra hr lr) (h3 : hl ≤ hr + 1) (h4 : hr ≤ hl + 1) :
    T w (some ⟨b, 0, none⟩) (1 + max hl hr) (ll ++ p :: lr) := by
  obtain ⟨k1, t1⟩ := h1
  obtain ⟨k2, t2⟩ := h2
  exact ⟨max k1 k2 + 1, Or.inr ⟨b, la, ra, p, hl, hr, ll, lr, rfl, hb, t1.mono _ (by omega), t2.mono _ (by omega), rfl, rfl, h3, h4⟩⟩

theorem T.inv {w : World} {a : Option Addr} {h : Nat} {l : List (Int × Int)} (t : T w a h l) :
    (a = none ∧ h = 0 ∧ l = []) ∨ ∃ (b : Nat) (la ra : Option Addr) (p : Int × Int) (hl hr : Nat) (ll lr : List (Int × Int)),
      a = some ⟨b, 0, none⟩ ∧ w.heap[b]? = some (nodeB la ra p h l) ∧ T w la hl ll ∧ T w ra hr lr ∧ l = ll ++ p :: lr ∧ h = 1 + max hl hr ∧ hl ≤ hr + 1 ∧ hr ≤ hl + 1 := by
  obtain ⟨k, t⟩ := t
  cases k with
  | zero => exact Or.inl t
  | succ k =>
    rcases t with t | ⟨b, la, ra, p, hl, hr, ll, lr, h1, h2, h3, h4, h5⟩
    · exact Or.inl t
    · exact Or.inr ⟨b, la, ra, p, hl, hr, ll, lr, h1, h2, ⟨k, h3⟩, ⟨k, h4⟩, h5⟩

/-- What keeps every node's block keeps the tree. -/
theorem T.keep {w w' : World} (hk : ∀ (b : Nat) (la ra : Option Addr) (p : Int × Int) (h : Nat) (l : List (Int × Int)), w.heap[b]? = some (nodeB la ra p h l) → w'.heap[b]? = w.heap[b]?)
    {a : Option Addr} {h : Nat} {l : List (Int × Int)} (t : T w a h l) : T w' a h l := by
  obtain ⟨k, t⟩ := t
  refine ⟨k, ?_⟩
  induction k generalizing a h l with
  | zero => exact t
  | succ k ih =>
    rcases t with t | ⟨b, la, ra, p, hl, hr, ll, lr, h1, h2, h3, h4, h5⟩
    · exact Or.inl t
    · exact Or.inr ⟨b, la, ra, p, hl, hr, ll, lr, h1, (hk _ _ _ _ _ _ h2).trans h2, ih h3, ih h4, h5⟩

theorem T.below {w w' : World} (hb : Below w.heap.size w w') {a : Option Addr} {h : Nat} {l : List (Int × Int)} (t : T w a h l) : T w' a h l := by
  refine T.keep (fun b la ra p h' l' e => ?_) t
  refine hb.block b ?_
  by_cases hlt : b < w.heap.size
  · exact hlt
  · rw [Array.getElem?_eq_none (by omega)] at e; cases e

/-- The height, and how many pieces there are. -/
theorem T.many {w : World} {a : Option Addr} {h : Nat} {l : List (Int × Int)} (t : T w a h l) : ∀ d : Nat, 2 * d + 1 ≤ h → 2 ^ d ≤ l.length := by
  obtain ⟨k, t⟩ := t
  induction k generalizing a h l with
  | zero => obtain ⟨_, rfl, _⟩ := t; intro d hd; omega
  | succ k ih =>
    rcases t with ⟨_, rfl, _⟩ | ⟨b, la, ra, p, hl, hr, ll, lr, h1, h2, h3, h4, rfl, rfl, h6, h7⟩
    · intro d hd; omega
    · intro d hd
      cases d with
      | zero => simp; omega
      | succ d =>
        have e1 := ih h3 d (by omega)
        have e2 := ih h4 d (by omega)
        simp only [List.length_append, List.length_cons]
        rw [Nat.pow_succ]
        omega

theorem T.zero {w : World} {a : Option Addr} {h : Nat} {l : List (Int × Int)} (t : T w a h l) : (h = 0 ↔ l = []) ∧ (a = none ↔ l = []) := by
  rcases t.inv with ⟨rfl, rfl, rfl⟩ | ⟨b, la, ra, p, hl, hr, ll, lr, rfl, h2, h3, h4, rfl, rfl, h5, h6⟩
  · simp
  · simp

/-- A node's cells. -/
theorem node_cells {w : World} {b : Nat} {la ra : Option Addr} {p : Int × Int} {h : Nat} {l : List (Int × Int)} (e : w.heap[b]? = some (nodeB la ra p h l)) :
    w.cell? ⟨b, 0, none⟩ = some (.pointer la) ∧ w.cell? ⟨b, 1, none⟩ = some (.pointer ra) ∧ w.cell? ⟨b, 2, none⟩ = some (.int .i64 p.1) ∧ w.cell? ⟨b, 3, none⟩ = some (.int .i64 p.2)
      ∧ w.cell? ⟨b, 4, none⟩ = some (.int .i64 (h : Int)) ∧ w.cell? ⟨b, 5, none⟩ = some (.int .i64 (l.length : Int)) ∧ w.cell? ⟨b, 6, none⟩ = some (.int .i64 (sz l)) := by
  simp [World.cell?, e, nodeB]

theorem below_cells {w w' : World} (hb : Below w.heap.size w w') {b o : Nat} {v : Value} (h : w.cell? ⟨b, o, none⟩ = some v) : w'.cell? ⟨b, o, none⟩ = some v := cell_later hb h

end Go.Proofs.YtfplgfodoiiobaaGreatDoor
