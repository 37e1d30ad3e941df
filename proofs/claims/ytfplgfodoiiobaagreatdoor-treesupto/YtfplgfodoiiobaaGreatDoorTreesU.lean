/- The walk of a step of the script on a tree that is there. -/
import Derived.Test.YtfplgfodoiiobaaGreatDoorTreesT
namespace Go.Proofs.YtfplgfodoiiobaaGreatDoor
open Go.RowKit

theorem grows_any {w : World} {B wb c i : Nat} {rs : List Rec} {r : Rec} (h : INV w B wb rs c) (hc : c ≤ 2000000) (hr : rs[i]? = some r) {q a n m k : Int} {s : ByteArray} {fo : Option Addr} {fl fc : Nat} (hq : 2 ≤ q) (hq2 : q ≤ 7) (hn : n ≤ 9223372036854775807) (hm : m ≤ 9223372036854775807) :
    Calls Tryz.prog 67 #[.pointer (some ⟨wb, 0, none⟩), .pointer (some ⟨r.sb, 0, none⟩), stepV q a n m k s fo fl fc] w fun e w' => e = .returned (.bool true) ∧ StepOk w w' B wb rs c := by
  rcases (by omega : q = 2 ∨ q = 3 ∨ q = 4 ∨ q = 5 ∨ q = 6 ∨ q = 7) with rfl | rfl | rfl | rfl | rfl | rfl
  · exact grows2 h hr
  · exact grows3 h hc hr hn hm
  · exact grows4 h hr
  · exact grows5 h hc hr
  · exact grows6 h hr
  · exact grows7 h hr

def stepB (q a n m k : Int) (s : ByteArray) (fo : Option Addr) (fl fc : Nat) : Obj := .cells #[.int .i64 q, .int .i64 a, .int .i64 n, .int .i64 m, .int .i64 k, .string s, .slice fo fl fc] 73 (0, 0)

theorem step_cells {w : World} {wb g p bx : Nat} {vts u : Value} {cur : Array Value} {q a n m k : Int} {s : ByteArray} {fo : Option Addr} {fl fc : Nat} (h0 : w.cell? ⟨wb, 0, none⟩ = some vts) (hg : w.heap[g]? = some (.cells cur 117 (0, 0))) (hp : cur[p]? = some u)
    (hb : w.heap[bx]? = some (stepB q a n m k s fo fl fc)) : w.cell? ⟨wb, 0, none⟩ = some vts ∧ w.cell? ⟨g, p, none⟩ = some u ∧ w.cell? ⟨bx, 0, none⟩ = some (.int .i64 q) ∧ w.cell? ⟨bx, 1, none⟩ = some (.int .i64 a) ∧ w.cell? ⟨bx, 2, none⟩ = some (.int .i64 n) ∧ w.cell? ⟨bx, 3, none⟩ = some (.int .i64 m) ∧ w.cell? ⟨bx, 4, none⟩ = some (.int .i64 k) ∧ w.cell? ⟨bx, 5, none⟩ = some (.string s) ∧ w.cell? ⟨bx, 6, none⟩ = some (.slice fo fl fc) := by
  refine ⟨h0, ?_, ?_⟩
  · rw [cell_of_row w g p cur _ _ hg]; exact hp
  · simp [World.cell?, hb, stepB]

set_option maxRecDepth 100000 in
set_option maxHeartbeats 1000000 in
theorem step27 {w : World} {B wb c : Nat} {rs : List Rec} (h : INV w B wb rs c) (hc : c ≤ 2000000) (hl : rs.length ≤ 2000000) {q a n m k : Int} {s : ByteArray} {fo : Option Addr} {fl fc : Nat} (hq : 2 ≤ q) (hq2 : q ≤ 7) (ha : -9223372036854775808 ≤ a) (ha2 : a ≤ 9223372036854775807) (hn : n ≤ 9223372036854775807) (hm : m ≤ 9223372036854775807) :
    Calls Tryz.prog 37 #[.pointer (some ⟨wb, 0, none⟩), stepV q a n m k s fo fl fc] w fun e w' => e = .returned (.bool true) ∧ StepDone w w' B wb rs c := by
  have HI : Hid (INV w B wb rs c) := h
  have hlt := h.lt
  obtain ⟨vts, vp, vm, hs, h1, h2, h3, h4, h5, h6, h7, h8, h9⟩ := h
  obtain ⟨c0, -, -, -, -, -, -⟩ := world_cells h1
  have q1 : (q == 1) = false := by simp; omega
  have q2 : (q == 11) = false := by simp; omega
  have q3 : ¬ q = 1 := by omega
  have q4 : ¬ q = 11 := by omega
  have hne : w.heap.size ≠ wb := by omega
  clear h4 h5 h6 h7 h8 h9
  by_cases hz : rs.length = 0
  · obtain ⟨x8, c8, rfl⟩ : ∃ x8 c8, vts = .slice x8 rs.length c8 := by
      rcases h3.2 with ⟨h', h0⟩ | ⟨g, cap', cur, hv, -⟩
      · exact ⟨none, 0, by rw [h', h0]⟩
      · exact ⟨_, _, hv⟩
    rw [hz] at c0
    clear h1 h3
    unfold stepV
    go_enter Tryz.func37, Tryz.ntmps37
    go_wp2_with fail
    go_ret
    exact ⟨rfl, (StepOk.quiet HI.out (b_alloc _ _)).2⟩
  · obtain ⟨g, cap, cur, rfl, hg, hh, hcap, hcm, hcs, htake⟩ : ∃ g cap cur, vts = .slice (some ⟨g, 0, none⟩) rs.length cap ∧ B ≤ g ∧ w.heap[g]? = some (.cells cur 117 (0, 0)) ∧ rs.length ≤ cap ∧ cap ≤ maxLen ∧ cur.size = cap * 1 ∧ cur.toList.take (rs.length * 1) = rs.map (fun r : Rec => Value.pointer (some ⟨r.sb, 0, none⟩)) := by
      rcases h3.2 with ⟨h', h0⟩ | hx
      · exact absurd h0 hz
      · exact hx
    obtain ⟨p, hp, hpick⟩ := lpick_det (c := a) (n := (rs.length : Int)) ha ha2 (by omega) (by omega)
    have hpl : p < rs.length := by omega
    obtain ⟨r, hr⟩ : ∃ r, rs[p]? = some r := ⟨_, List.getElem?_eq_getElem hpl⟩
    have hcp : cur[p]? = some (.pointer (some ⟨r.sb, 0, none⟩)) := by
      have e := congrArg (fun z => z[p]?) htake
      simp only [List.getElem?_take, List.getElem?_map, hr, Option.map_some, Nat.mul_one] at e
      rw [if_pos hpl] at e
      rw [← Array.getElem?_toList]; exact e
    have HIa : INV (w.alloc (stepB q a n m k s fo fl fc)).drew B wb rs c := HI.out.below (b_alloc_drew _ _)
    have hba : (w.alloc (stepB q a n m k s fo fl fc)).heap[w.heap.size]? = some (stepB q a n m k s fo fl fc) := heap_alloc_new w _
    have hga := (Below.heap_alloc w (stepB q a n m k s fo fl fc) _ (lt_of_some hh)).trans hh
    have hwa := (Below.heap_alloc w (stepB q a n m k s fo fl fc) _ hlt.2).trans h1
    have sd := step_cells (world_cells hwa).1 hga hcp hba
    have HEnd : ∀ w', StepOk (w.alloc (stepB q a n m k s fo fl fc)).drew w' B wb rs c → StepDone w w' B wb rs c := fun w' h' => by
      obtain ⟨-, b1, r1⟩ := h'
      have := b_alloc w (stepB q a n m k s fo fl fc)
      exact ⟨⟨b1.os.trans this.os, b1.tape.trans this.tape, b1.output.trans this.output, Nat.le_trans this.size b1.size, fun b hb => (b1.block b hb).trans (this.block b (by omega))⟩, r1⟩
    have hz2 : ¬ (((rs.length : Nat) : Int) = 0) := by omega
    have hz' : (((rs.length : Nat) : Int) == 0) = false := by rw [beq_eq_false_iff_ne]; exact hz2
    have i1 : (0 : Int) ≤ (p : Int) := by omega
    clear h1 h3 htake hcs hcm hcap
    unfold stepV
    go_enter Tryz.func37, Tryz.ntmps37
    go_upto_region 10 with fail
    rw [show (Obj.cells #[.int .i64 q, .int .i64 a, .int .i64 n, .int .i64 m, .int .i64 k, .string s, .slice fo fl fc] 73) = stepB q a n m k s fo fl fc from rfl]
    generalize w.alloc (stepB q a n m k s fo fl fc) = wa at *
    clear c0 hz
    generalize rs.length = L at *
    go_cut [4] (fun b wc => b = .bool true ∧ StepOk wa.drew wc B wb rs c)
    case first =>
      go_region_held3 (fun w' => w'.cell? ⟨wb, 0, none⟩ = some (.slice (some ⟨g, 0, none⟩) L cap) ∧ w'.cell? ⟨g, p, none⟩ = some (.pointer (some ⟨r.sb, 0, none⟩)) ∧ w'.cell? ⟨w.heap.size, 0, none⟩ = some (.int .i64 q) ∧ w'.cell? ⟨w.heap.size, 1, none⟩ = some (.int .i64 a) ∧ w'.cell? ⟨w.heap.size, 2, none⟩ = some (.int .i64 n) ∧ w'.cell? ⟨w.heap.size, 3, none⟩ = some (.int .i64 m) ∧ w'.cell? ⟨w.heap.size, 4, none⟩ = some (.int .i64 k) ∧ w'.cell? ⟨w.heap.size, 5, none⟩ = some (.string s) ∧ w'.cell? ⟨w.heap.size, 6, none⟩ = some (.slice fo fl fc))
        (first | assumption | exact sd | (exact step_cells (hK.1.2 _ _ _ _ hwa) (hK.1.1 _ _ _ _ (by decide) (by decide) (by decide) (by decide) (by decide) (by decide) hga) hcp (hK.1.1 _ _ _ _ (by decide) (by decide) (by decide) (by decide) (by decide) (by decide) hba)))
        (first | (go_at_call 68; refine (hpick _).mono ?_; rintro e w5 ⟨rfl, rfl⟩)
               | (go_at_call 67; refine (grows_any HIa hc hr (q := q) (a := a) (n := n) (m := m) (k := k) (s := s) (fo := fo) (fl := fl) (fc := fc) hq hq2 hn hm).mono ?_; rintro e w6 ⟨rfl, hK⟩))
      all_goals go_wp2_with fail
      all_goals go_meet
      all_goals exact ⟨rfl, hK⟩
    case rest =>
      obtain ⟨rfl, hK⟩ := hcut
      go_wp2_with fail
      go_ret
      exact ⟨rfl, HEnd _ hK⟩

end Go.Proofs.YtfplgfodoiiobaaGreatDoor
