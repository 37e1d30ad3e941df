/- The walk of the statement's helper flat. -/
import Derived.Test.YtfplgfodoiiobaaGreatDoorHeldA
namespace Go.Proofs.YtfplgfodoiiobaaGreatDoor
open Go.RowKit

theorem Tryz.infoInt : (Tryz.prog.info? 3).map (fun i => (i.zero, i.size, i.bytes)) = some (some (.int .i64 0), 1, 8) := by kernel_rfl

/-- A slice of pieces reads as these. -/
def RdP (w : World) (ao : Option Addr) (l : List (Int × Int)) : Prop := l = [] ∨ ∃ b off, ao = some ⟨b, off, none⟩ ∧ ∀ i, i < l.length →
  w.cell? ⟨b, off + i * 2, none⟩ = some (.int .i64 (l.getD i (0, 0)).1) ∧ w.cell? ⟨b, off + i * 2 + 1, none⟩ = some (.int .i64 (l.getD i (0, 0)).2)

/-- A row of ints of the call's own. -/
def OwnI (w : World) (B : Nat) (v : Value) (zs : List Int) : Prop := w.ownsRow B 3 1 v zs.length (zs.map (Value.int .i64))

theorem pcs_get (l : List (Int × Int)) (i : Nat) (h : i < l.length) : (pcs l)[i * 2]? = some (.int .i64 (l.getD i (0, 0)).1) ∧ (pcs l)[i * 2 + 1]? = some (.int .i64 (l.getD i (0, 0)).2) := by
  induction l generalizing i with
  | nil => simp at h
  | cons p l ih =>
    cases i with
    | zero => simp [pcs_cons]
    | succ i =>
      have := ih i (by simpa using h)
      rw [pcs_cons, show (i + 1) * 2 = i * 2 + 1 + 1 from by omega]
      simpa using this

theorem RdP.own {w : World} {B g : Nat} {n c : Nat} {l : List (Int × Int)} (h : w.ownsRow B 114 2 (.slice (some ⟨g, 0, none⟩) n c) n (pcs l)) : RdP w (some ⟨g, 0, none⟩) l := by
  refine Or.inr ⟨g, 0, rfl, fun i hi => ?_⟩
  obtain ⟨h1, h2⟩ := pcs_get l i hi
  have e1 := h.cells rfl _ _ h1
  have e2 := h.cells rfl _ _ h2
  simp only [Nat.zero_add]
  refine ⟨?_, ?_⟩
  · cases i with
    | zero => simpa [Addr.add] using e1
    | succ i => simpa [Addr.add] using e1
  · simpa [Addr.add] using e2

theorem RdP.below {w w' : World} {ao : Option Addr} {l : List (Int × Int)} (h : RdP w ao l) (hB : Below w.heap.size w w') : RdP w' ao l := by
  rcases h with rfl | ⟨b, off, rfl, hc⟩
  · left; rfl
  · exact Or.inr ⟨b, off, rfl, fun i hi => ⟨cell_later hB (hc i hi).1, cell_later hB (hc i hi).2⟩⟩

theorem fl_take {l : List (Int × Int)} {k : Nat} (h : k < l.length) : fl (l.take (k + 1)) = fl (l.take k) ++ (List.range (l.getD k (0, 0)).2.toNat).map (fun j : Nat => (l.getD k (0, 0)).1 + (j : Int)) := by
  rw [List.take_succ_eq_append_getElem h, fl_append]
  simp [fl, h]

theorem okL_take {l : List (Int × Int)} (h : okL l) (k : Nat) : okL (l.take k) := fun p hp => h p (List.mem_of_mem_take hp)

theorem OwnI.push {w1 : World} {B : Nat} {v1 : Value} {zs : List Int} {x : Int} (h : w1.ownsRow B 3 1 v1 (zs.length + 1) (zs.map (Value.int .i64) ++ [.int .i64 x])) : OwnI w1 B v1 (zs ++ [x]) := by
  unfold OwnI; simpa using h

theorem own_below {w wr w1 : World} {B : Nat} {v : Value} {n : Nat} {xs : List Value} {o : Obj} (hB : Below B w wr) (hs : B ≤ wr.heap.size) (hown : wr.ownsRow B 3 1 v n xs) (hg : (wr.alloc o).grownBy w1 v.ownBlock) : Below B w w1 :=
  (hB.alloc hs o).grown hg (by simp; omega) (fun k e => (hown.lt k e).1)

end Go.Proofs.YtfplgfodoiiobaaGreatDoor
