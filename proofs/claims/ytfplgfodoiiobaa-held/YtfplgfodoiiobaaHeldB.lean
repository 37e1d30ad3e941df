/- The walk of the statement's helper flat. -/
import Derived.Test.YtfplgfodoiiobaaHeldA
namespace Go.Proofs.Ytfplgfodoiiobaa
open Go.RowKit

theorem Try.infoInt : (Try.prog.info? 3).map (fun i => (i.zero, i.size, i.bytes)) = some (some (.int .i64 0), 1, 8) := by kernel_rfl

/-- A slice of pieces reads as these. -/
def RdP (w : World) (ao : Option Addr) (l : List (Int × Int)) : Prop := l = [] ∨ ∃ b off, ao = some ⟨b, off, none⟩ ∧ ∀ i, i < l.length →
  w.cell? ⟨b, off + i * 2, none⟩ = some (.int .i64 (l.getD i (0, 0)).1) ∧ w.cell? ⟨b, off + i * 2 + 1, none⟩ = some (.int .i64 (l.getD i (0, 0)).2)

/-- A row of ints of the call's own. -/
def OwnI (w : World) (B : Nat) (v : Value) (zs : List Int) : Prop := w.ownsRow B 3 1 v zs.length (zs.map (Value.int .i64))

theorem pcs_get (l : List (Int × Int)) (i : Nat) (h : i < l.length) : (pcs l)[i * 2]? = some (.int .i64 (l.getD i (0, 0)).1) ∧ (pcs l)[i * 2 + 1]? = some (.int .i64 (l.getD i (0, 0)).2) := by
  induction l generalizing i with
  | nil => simp at h
  | cons p l ih =>
    cases i with
    | zero => simp [pcs_cons]
    | succ i =>
      have := ih i (by simpa using h)
      rw [pcs_cons, show (i + 1) * 2 = i * 2 + 1 + 1 from by omega]
      simpa using this

theorem RdP.own {w : World} {B g : Nat} {n c : Nat} {l : List (Int × Int)} (h : w.ownsRow B 29 2 (.slice (some ⟨g, 0, none⟩) n c) n (pcs l)) : RdP w (some ⟨g, 0, none⟩) l := by
  refine Or.inr ⟨g, 0, rfl, fun i hi => ?_⟩
  obtain ⟨h1, h2⟩ := pcs_get l i hi
  have e1 := h.cells rfl _ _ h1
  have e2 := h.cells rfl _ _ h2
  simp only [Nat.zero_add]
  refine ⟨?_, ?_⟩
  · cases i with
    | zero => simpa [Addr.add] using e1
    | succ i => simpa [Addr.add] using e1
  · simpa [Addr.add] using e2

theorem RdP.below {w w' : World} {ao : Option Addr} {l : List (Int × Int)} (h : RdP w ao l) (hB : Below w.heap.size w w') : RdP w' ao l := by
  rcases h with rfl | ⟨b, off, rfl, hc⟩
  · left; rfl
  · exact Or.inr ⟨b, off, rfl, fun i hi => ⟨cell_later hB (hc i hi).1, cell_later hB (hc i hi).2⟩⟩

theorem fl_take {l : List (Int × Int)} {k : Nat} (h : k < l.length) : fl (l.take (k + 1)) = fl (l.take k) ++ (List.range (l.getD k (0, 0)).2.toNat).map (fun j : Nat => (l.getD k (0, 0)).1 + (j : Int)) := by
  rw [List.take_succ_eq_append_getElem h, fl_append]
  simp [fl, h]

theorem okL_take {l : List (Int × Int)} (h : okL l) (k : Nat) : okL (l.take k) := fun p hp => h p (List.mem_of_mem_take hp)

theorem OwnI.push {w1 : World} {B : Nat} {v1 : Value} {zs : List Int} {x : Int} (h : w1.ownsRow B 3 1 v1 (zs.length + 1) (zs.map (Value.int .i64) ++ [.int .i64 x])) : OwnI w1 B v1 (zs ++ [x]) := by
  unfold OwnI; simpa using h

theorem own_below {w wr w1 : World} {B : Nat} {v : Value} {n : Nat} {xs : List Value} {o : Obj} (hB : Below B w wr) (hs : B ≤ wr.heap.size) (hown : wr.ownsRow B 3 1 v n xs) (hg : (wr.alloc o).grownBy w1 v.ownBlock) : Below B w w1 :=
  (hB.alloc hs o).grown hg (by simp; omega) (fun k e => (hown.lt k e).1)

set_option maxRecDepth 100000 in
set_option maxHeartbeats 2000000 in
theorem flat_any {w : World} {ao : Option Addr} {la ca : Nat} {l : List (Int × Int)} (hr : RdP w ao l) (e1 : la = l.length) (ok : okL l) (hlen : l.length ≤ 9000) :
    Calls Try.prog 8 #[.slice ao la ca] w fun e w' => ∃ v, e = .returned v ∧ OwnI w' w.heap.size v (fl l) ∧ Below w.heap.size w w' := by
  subst e1
  obtain ⟨i0, hi, hz0, hz1, hz2⟩ := info_parts Try.infoInt
  go_enter Try.func8, Try.ntmps8
  go_wp2_with fail
  go_loopw [3, 4] (fun v i wr => ∃ k : Nat, k ≤ l.length ∧ i = .int .i64 (k : Int) ∧ OwnI wr w.heap.size v (fl (l.take k)) ∧ Below w.heap.size w wr) (fun _ i _ => l.length - (intOf i).toNat)
  case atStart => exact ⟨0, Nat.zero_le _, rfl, World.ownsRow_nil _ _ _ _, Below.refl _ _⟩
  case round =>
    obtain ⟨k, hk, rfl, hown, hB⟩ := hrel
    by_cases hlt : k < l.length
    · have cc : ∃ b off, ao = some ⟨b, off, none⟩ ∧ w.cell? ⟨b, off + k * 2, none⟩ = some (.int .i64 (l.getD k (0, 0)).1) ∧ w.cell? ⟨b, off + k * 2 + 1, none⟩ = some (.int .i64 (l.getD k (0, 0)).2) := by
        rcases hr with rfl | ⟨b, off, h1, h2⟩
        · simp at hlt
        · exact ⟨b, off, h1, h2 k hlt⟩
      have okk : okP (l.getD k (0, 0)) := by
        have : l.getD k (0, 0) ∈ l := by simp [hlt]
        exact ok _ this
      have HT : Hid (fl (l.take (k + 1)) = fl (l.take k) ++ (List.range (l.getD k (0, 0)).2.toNat).map (fun j : Nat => (l.getD k (0, 0)).1 + (j : Int))) := fl_take hlt
      obtain ⟨b, off, rfl, c1, c2⟩ := cc
      have hfl : (fl (l.take k)).length ≤ 5000 * 9000 := by
        have a1 := fl_length (okL_take ok k)
        have a2 := sz_bd (okL_take ok k)
        have a3 : (l.take k).length ≤ 9000 := by rw [List.length_take]; omega
        omega
      generalize l.getD k (0, 0) = p at c1 c2 okk HT
      generalize fl (l.take k) = F at hown HT hfl
      obtain ⟨px, py⟩ := p
      simp only at c1 c2 HT
      unfold okP at okk
      simp only at okk
      have i1 : (0 : Int) ≤ (k : Int) := by omega
      have i2 : (k : Int) < (l.length : Int) := by omega
      clear hr
      go_wp2_with fail
      go_loopw [3, 5] (fun v i wi => ∃ j : Nat, (j : Int) ≤ py ∧ i = .int .i64 (j : Int) ∧ OwnI wi w.heap.size v (F ++ (List.range j).map (fun j : Nat => px + (j : Int))) ∧ Below w.heap.size w wi) (fun _ i _ => (py - intOf i).toNat)
      case atStart => exact ⟨0, by omega, rfl, by simpa using hown, hB⟩
      case round =>
        clear hown hB
        obtain ⟨j, hj, rfl, hown, hB⟩ := hrel
        have d1 := cell_later hB c1
        have d2 := cell_later hB c2
        have hs := hB.size
        have hlen1 : (F ++ (List.range j).map (fun j : Nat => px + (j : Int))).length = F.length + j := by simp
        have HS : Hid ((F ++ (List.range j).map (fun j : Nat => px + (j : Int))) ++ [px + (j : Int)] = F ++ (List.range (j + 1)).map (fun j : Nat => px + (j : Int))) := by
          show _ = _; rw [List.range_succ]; simp
        generalize hG : F ++ (List.range j).map (fun j : Nat => px + (j : Int)) = G at hown hlen1 HS
        have HG : Hid (F ++ (List.range j).map (fun j : Nat => px + (j : Int)) = G) := hG
        clear hG
        have hg : G.length ≤ 5000 * 9000 + 5000 := by omega
        clear hlen1
        by_cases hjl : (j : Int) < py
        · have hj5 : (j : Int) ≤ 5000 := by omega
          go_wp2_with (at_builtin; go_must (refine wpList_append_own _ rfl (.tmp 25) (.tmp 33) 25 rfl w.heap.size 3 i0 (.int .i64 0) 1 8 Try.underlying25 hi hz0 hz1 hz2 rfl (by decide) _ _ _ rfl (World.ownsRow.alloc hown _) ⟨_, 0, none⟩ 1 1 [.int .i64 (px + (j : Int))] rfl rfl (cell_one_new _ _ _) (by simp [Value.oneCell']) (by unfold maxLen; omega) (by omega) (by simp; omega) ?_); intro v1 w1 hown1 hg1 _)
          go_roundw
          case rel => exact ⟨j + 1, by omega, by go_num, by rw [← HS.out]; exact OwnI.push hown1, own_below hB hs hown hg1⟩
          case measure => simp [intOf]; omega
        · have hjp : (j : Int) = py := by omega
          go_wp2_with fail
          go_roundw
          case rel => exact ⟨k + 1, by omega, by go_num, by rw [HT.out, show py.toNat = j from by omega, HG.out]; exact hown, hB⟩
          case measure => simp [intOf]; omega
    · go_wp2_with fail
      go_ret
      exact ⟨_, rfl, by rw [List.take_of_length_le (by omega)] at hown; exact hown, hB⟩

end Go.Proofs.Ytfplgfodoiiobaa
