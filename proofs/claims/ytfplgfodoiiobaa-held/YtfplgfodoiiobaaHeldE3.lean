/- Held's round, its end: pick, Find and the last tests. -/
import Derived.Test.YtfplgfodoiiobaaHeldC
import Derived.Deep.DeepCutAuto
namespace Go.Proofs.Ytfplgfodoiiobaa
open Go.RowKit

def i64 (n : Int) : Prop := -9223372036854775808 ≤ n ∧ n ≤ 9223372036854775807

/-- A slice of ops. -/
def RdO (w : World) (ao : Option Addr) (len : Nat) : Prop := len = 0 ∨ ∃ b off, ao = some ⟨b, off, none⟩ ∧ ∀ i, i < len → ∃ k n m q : Int, i64 k ∧ i64 n ∧ i64 m ∧ i64 q ∧
  w.cell? ⟨b, off + i * 4, none⟩ = some (.int .i64 k) ∧ w.cell? ⟨b, off + i * 4 + 1, none⟩ = some (.int .i64 n) ∧ w.cell? ⟨b, off + i * 4 + 2, none⟩ = some (.int .i64 m) ∧ w.cell? ⟨b, off + i * 4 + 3, none⟩ = some (.int .i64 q)

/-- What holds ahead of each round. -/
def HInv (w : World) (k : Nat) (l : List (Int × Int)) (v : Value) (wr : World) : Prop :=
  TreeAt wr w.heap.size l ∧ OwnI wr (w.heap.size + 1) v (fl l) ∧ l.length ≤ 2 * k ∧ (fl l).length ≤ 30 * k ∧ Below w.heap.size w wr

/-- What holds behind the change of a round. -/
def HMid (w wr : World) (k : Nat) (l : List (Int × Int)) (c3 : Int) (l' : List (Int × Int)) (v m : Value) (wc : World) : Prop :=
  TreeAt wc w.heap.size l' ∧ OwnI wc (w.heap.size + 1) v (fl l') ∧ l'.length ≤ 2 * k + 2 ∧ (fl l').length ≤ 30 * k + 30 ∧ Below w.heap.size w wc ∧ wc.cell? ⟨wr.heap.size, 3, none⟩ = some (.int .i64 c3)
    ∧ ((m = .int .i64 1 ∧ (l'.length = l.length + 1 ∨ l'.length = l.length + 2)) ∨ m = .int .i64 0)

/-- The code of a function from a region on, and behind a region. -/
def isReg (n : Nat) : Code → Bool
  | .region id _ _ => id == n
  | _ => false
def codeAt (n : Nat) : Code → Option Code
  | .seq a b => if isReg n a then some (.seq a b) else match codeAt n a with
    | some c => some c
    | none => codeAt n b
  | .loop c => codeAt n c
  | .block _ c => codeAt n c
  | .scope c => codeAt n c
  | .cond _ a b => match codeAt n a with
    | some c => some c
    | none => codeAt n b
  | _ => none
def codeBehind (n : Nat) : Code → Option Code
  | .seq a b => if isReg n a then some b else match codeBehind n a with
    | some c => some c
    | none => codeBehind n b
  | .loop c => codeBehind n c
  | .block _ c => codeBehind n c
  | .scope c => codeBehind n c
  | .cond _ a b => match codeBehind n a with
    | some c => some c
    | none => codeBehind n b
  | _ => none


end Go.Proofs.Ytfplgfodoiiobaa
