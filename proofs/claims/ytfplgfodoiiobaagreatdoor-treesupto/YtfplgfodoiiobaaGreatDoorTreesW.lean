/- The walks of upTo over steps on trees, and of Trees. -/
import Derived.Test.YtfplgfodoiiobaaGreatDoorTreesV
namespace Go.Proofs.YtfplgfodoiiobaaGreatDoor
open Go.RowKit

def int64 (n : Int) : Prop := -9223372036854775808 ≤ n ∧ n ≤ 9223372036854775807

/-- The cells of one step. -/
def StepAt (w : World) (b o : Nat) (q a n m k : Int) (s : ByteArray) (fo : Option Addr) (fl fc : Nat) : Prop :=
  int64 q ∧ int64 a ∧ int64 n ∧ int64 m ∧ int64 k ∧ w.cell? ⟨b, o, none⟩ = some (.int .i64 q) ∧ w.cell? ⟨b, o + 1, none⟩ = some (.int .i64 a) ∧ w.cell? ⟨b, o + 2, none⟩ = some (.int .i64 n) ∧ w.cell? ⟨b, o + 3, none⟩ = some (.int .i64 m)
    ∧ w.cell? ⟨b, o + 4, none⟩ = some (.int .i64 k) ∧ w.cell? ⟨b, o + 5, none⟩ = some (.string s) ∧ w.cell? ⟨b, o + 6, none⟩ = some (.slice fo fl fc)
/-- A script. -/
def RdS (w : World) (ao : Option Addr) (len : Nat) : Prop := len = 0 ∨ ∃ b off, ao = some ⟨b, off, none⟩ ∧ ∀ i, i < len → ∃ q a n m k s fo fl fc, StepAt w b (off + i * 7) q a n m k s fo fl fc

/-- What holds ahead of each round. -/
def UpInv (w wr : World) (wb i : Nat) : Prop := Below w.heap.size w wr ∧ ∃ rs c, INV wr w.heap.size wb rs c ∧ rs.length ≤ i ∧ c ≤ i

theorem INV.start {w wa : World} (hb : Below w.heap.size w wa) : INV (wa.alloc (worldB (.slice none 0 0) 0 (.slice none 0 0) (.slice none 0 0))) w.heap.size wa.heap.size [] 0 :=
  ⟨.slice none 0 0, .slice none 0 0, .slice none 0 0, [], heap_alloc_new wa _, hb.size, World.ownsRow_nil _ _ _ _, (fun r hr => by cases hr), List.Pairwise.nil, World.ownsRow_nil _ _ _ _, rfl, (fun i x e => by simp at e), World.ownsRow_nil _ _ _ _⟩

theorem UpInv.next {w wr w1 w2 : World} {wb i c : Nat} {rs : List Rec} (h1 : Below w.heap.size w wr) (hr : rs.length ≤ i) (hc : c ≤ i) (hD : StepDone wr w1 w.heap.size wb rs c) (hg : Grew w1 w2) : UpInv w w2 wb (i + 1) := by
  obtain ⟨b1, rs', c', hI, e1, e2⟩ := hD
  have hs := hI.lt
  refine ⟨⟨hg.os.trans (b1.os.trans h1.os), hg.tape.trans (b1.tape.trans h1.tape), hg.output.trans (b1.output.trans h1.output), Nat.le_trans h1.size (Nat.le_trans b1.size hg.size), fun b hb => (hg.block b (by omega)).trans ((b1.block b hb).trans (h1.block b hb))⟩, rs', c', hI.below hg, by omega, by omega⟩

theorem step_any {w : World} {B wb c : Nat} {rs : List Rec} (h : INV w B wb rs c) (hc : c ≤ 2000000) (hl : rs.length ≤ 2000000) {q a n m k : Int} {s : ByteArray} {fo : Option Addr} {fl fc : Nat} (hq : 1 ≤ q) (hq2 : q ≤ 7) (ha : int64 a) (hn : int64 n) (hm : int64 m) :
    Calls Tryz.prog 37 #[.pointer (some ⟨wb, 0, none⟩), .agg #[.int .i64 q, .int .i64 a, .int .i64 n, .int .i64 m, .int .i64 k, .string s, .slice fo fl fc]] w fun e w' => e = .returned (.bool true) ∧ StepDone w w' B wb rs c := by
  by_cases h1 : q = 1
  · subst h1
    exact step1 h hl
  · exact step27 h hc hl (by omega) hq2 ha.1 ha.2 hn.2 hm.2

theorem still_inv {w : World} {B wb c : Nat} {rs : List Rec} (h : INV w B wb rs c) (hc : c ≤ 2000000) : Calls Tryz.prog 38 #[.pointer (some ⟨wb, 2, none⟩)] w fun e w' => e = .returned (.bool true) ∧ Grew w w' := by
  obtain ⟨vts, vp, vm, hs, h1, h2, h3, h4, h5, h6, h7, h8, h9⟩ := h
  exact still_any h1 h6 h7 h8 h9 hc

set_option maxRecDepth 100000 in
set_option maxHeartbeats 1000000 in
theorem upto_trees {w : World} {ao : Option Addr} {len cap : Nat} (hr : RdS w ao len) (hlen : len ≤ 1048576) :
    Calls Tryz.prog 14 #[.slice ao len cap, .int .i64 1, .int .i64 7] w fun e w' => e = .returned (.int .i64 (-1)) ∧ Below w.heap.size w w' := by
  go_enter Tryz.func14, Tryz.ntmps14
  go_wp2_with fail
  refine heads_trees.mono ?_
  rintro e wa ⟨rfl, ba⟩
  have hst := INV.start ba
  have bb := b_trans ba (b_alloc wa (worldB (.slice none 0 0) 0 (.slice none 0 0) (.slice none 0 0)))
  go_wp2_with fail
  go_loopw [9] (fun x wr => ∃ i : Nat, i ≤ len ∧ x = .int .i64 (i : Int) ∧ UpInv w wr wa.heap.size i) (fun x _ => len - (intOf x).toNat)
  case atStart => exact ⟨0, Nat.zero_le _, rfl, bb, [], 0, hst, by simp, by omega⟩
  case round =>
    clear hst bb ba
    obtain ⟨i, hi, rfl, hB, rs, c, hI, e1, e2⟩ := hrel
    by_cases hlt : i < len
    · obtain ⟨b, off, rfl, q, a, n, m, k, s, fo, fl, fc, iq, ia, inn, im, ik, z0, z1, z2, z3, z4, z5, z6⟩ : ∃ b off, ao = some ⟨b, off, none⟩ ∧ ∃ q a n m k s fo fl fc, StepAt w b (off + i * 7) q a n m k s fo fl fc := by
        rcases hr with h | ⟨b, off, h1, h2⟩
        · omega
        · exact ⟨b, off, h1, h2 i hlt⟩
      have y0 := cell_later hB z0
      have y1 := cell_later hB z1
      have y2 := cell_later hB z2
      have y3 := cell_later hB z3
      have y4 := cell_later hB z4
      have y5 := cell_later hB z5
      have y6 := cell_later hB z6
      have i1 : (0 : Int) ≤ (i : Int) := by omega
      have i2 : (i : Int) < (len : Int) := by omega
      clear hr z0 z1 z2 z3 z4 z5 z6
      by_cases hq : q < 1
      · go_wp2_with fail
        go_roundw
        case rel => exact ⟨i + 1, by omega, by go_num, hB, rs, c, hI, by omega, by omega⟩
        case measure => simp [intOf]; omega
      · by_cases hq2 : 7 < q
        · go_wp2_with fail
          go_roundw
          case rel => exact ⟨i + 1, by omega, by go_num, hB, rs, c, hI, by omega, by omega⟩
          case measure => simp [intOf]; omega
        · go_wp2_with fail
          refine (step_any hI (by omega) (by omega) (by omega) (by omega) ia inn im).mono ?_
          rintro e w1 ⟨rfl, hD⟩
          obtain ⟨b1, rs', c', hI', f1, f2⟩ := id hD
          go_wp2_with fail
          refine (still_inv hI' (by omega)).mono ?_
          rintro e w2 ⟨rfl, hg⟩
          have hN := UpInv.next hB e1 e2 hD hg
          go_wp2_with fail
          go_roundw
          case rel => exact ⟨i + 1, by omega, by go_num, hN⟩
          case measure => simp [intOf]; omega
    · go_wp2_with fail
      go_ret
      exact ⟨rfl, hB⟩

set_option maxHeartbeats 400000 in
theorem trees_walk {w : World} {ao : Option Addr} {len cap : Nat} (hr : RdS w ao len) (hlen : len ≤ 1048576) :
    Calls Tryz.prog 3 #[.slice ao len cap] w fun e w' => e = .returned (.bool true) ∧ Below w.heap.size w w' := by
  go_enter Tryz.func3, Tryz.ntmps3
  go_wp2_with fail
  refine (upto_trees hr hlen).mono ?_
  rintro e w1 ⟨rfl, hb⟩
  go_wp2_with fail
  go_ret
  exact ⟨rfl, hb⟩

end Go.Proofs.YtfplgfodoiiobaaGreatDoor
