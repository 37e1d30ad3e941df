/- Held (promises P3 and P4 without the document's answer): for every slice of ops the call returns true, and the slice reads behind the call as it read before. No condition. -/
import Derived.Test.YtfplgfodoiiobaaRows
import Derived.Test.YtfplgfodoiiobaaHeldG
import Derived.ProofKit
import Derived.Deep.SlicePairs
namespace Go.Proofs.Ytfplgfodoiiobaa
open Go.ChangeShapes Go.WideShapes Go.ChangeAt Go.RowKit Go.Deep

theorem Try.own : ownKnob Try.prog.godebug = none := by kernel_rfl
theorem Try.laidOut : laidOutB Try.prog = true := by kernel_rfl
theorem Try.cellsInt : Try.prog.cellsOf 3 = 1 := by kernel_rfl
theorem Try.cellsOp : Try.prog.cellsOf 34 = 4 := by kernel_rfl

theorem i64_of_wf {z : Int} (h : (Lit.int .i64 z).wf = true) : i64 z := by
  have h1 : IntKind.i64.min = -9223372036854775808 := rfl
  have h2 : IntKind.i64.max = 9223372036854775807 := rfl
  simp only [Lit.wf, Bool.and_eq_true, decide_eq_true_eq] at h
  unfold i64
  omega


set_option maxRecDepth 100000 in
theorem open_op {H : Type} {enc : TypeId × Value → H} {w : World} {base : Nat} {spare : Nat → Bool} {held : Bool} {n : Nat} {cs : List Value} {y : DataW H × List MemPlace} {a : Addr}
    (h1 : w.cells? base a 4 = some cs) (h2 : DataW.trod enc Try.prog w base spare held n 34 cs = some y) :
    ∃ c0 c1 c2 c3 : Int, i64 c0 ∧ i64 c1 ∧ i64 c2 ∧ i64 c3 ∧ w.cell? (a.add 0) = some (.int .i64 c0) ∧ w.cell? (a.add 1) = some (.int .i64 c1) ∧ w.cell? (a.add 2) = some (.int .i64 c2) ∧ w.cell? (a.add 3) = some (.int .i64 c3) := by
  obtain ⟨_, hlen, hcell⟩ := World.cells?_some h1
  obtain ⟨xs, k, hk, hxy, _, hxl, hf⟩ := DataW.trod_struct Try.underlying34 h2
  match xs, hxl, cs, hlen with
  | [y0, y1, y2, y3], _, [v0, v1, v2, v3], _ =>
    have g0 := hf 0 _ rfl
    have g1 := hf 1 _ rfl
    have g2 := hf 2 _ rfl
    have g3 := hf 3 _ rfl
    simp [Try.cellsInt] at g0 g1 g2 g3
    obtain ⟨c0, e0, -, w0⟩ := DataW.trod_int Try.underlying3 g0
    obtain ⟨c1, e1, -, w1⟩ := DataW.trod_int Try.underlying3 g1
    obtain ⟨c2, e2, -, w2⟩ := DataW.trod_int Try.underlying3 g2
    obtain ⟨c3, e3, -, w3⟩ := DataW.trod_int Try.underlying3 g3
    simp at e0 e1 e2 e3
    subst e0 e1 e2 e3
    exact ⟨c0, c1, c2, c3, i64_of_wf w0, i64_of_wf w1, i64_of_wf w2, i64_of_wf w3, hcell 0 (by omega), hcell 1 (by omega), hcell 2 (by omega), hcell 3 (by omega)⟩

set_option maxRecDepth 100000 in
theorem held_lifted (os : Os) (started : os.Started) (H : Type) (enc : TypeId × Value → H) :
    ReturnsInHanded {} Try.checked os 3 .any (Rows.heldSpec.pre6 enc Try.prog Try.f3 Rows.heldRow.domain false) (Rows.heldSpec.post enc Try.prog Try.f3 false true false false) := by
  refine returnsInHanded_of_change (C := Try.checked) Try.own started (by kernel_rfl) Try.func3
    (ChangeSpec.witness6 (enc := enc) (C := Try.checked) false ⟨#[], #[.slice none 0 0], []⟩ 8 (by kernel_rfl) (by kernel_rfl) (by kernel_rfl) (by kernel_rfl)) ?_
  intro W base args ds gs before hval0 hW _ _
  have hval : ∀ (j : Nat) t v, Try.f3.params[j]? = some t → args[j]? = some v → Value.okWide Try.prog W .any base t v := hval0
  have hW' := hW
  obtain ⟨p, q, hA0, hV, rfl, _, _⟩ := hW
  have hA : DataW.TrodAll enc Try.prog W 0 (fun _ => true) true Try.f3.params.toList args.toList ds p := hA0
  rw [Try.params3] at hA hval
  obtain ⟨v0, d0, rfl, rfl, h0⟩ := trodAll_one hA
  obtain ⟨rfl, rfl⟩ := trodVars_none hV
  obtain ⟨a0, len, cap, rfl⟩ := okWide_slice Try.underlying22 (hval 0 22 v0 rfl rfl)
  have h0k := h0
  obtain ⟨fuel, hf⟩ := h0
  clear hA0 hval0
  simp only [List.append_nil] at hW'
  have hlt : ∀ x ∈ p, x.block < W.heap.size := fun x hx => by simpa using hW'.lt x hx
  have hargs : ∀ (W' : World), Below W.heap.size W W' → DataW.Trod enc Try.prog W' 0 (fun b => decide (b < W.heap.size)) true 22 (.slice a0 len cap) d0 p :=
    fun W' hn => Below.trod Try.laidOut (by kernel_rfl) (of_decide_eq_true (by kernel_rfl)) h0k hn hlt
  have hrd : RdO W a0 len := by
    rcases open_slice Try.underlying22 hf with ⟨hcs, hx⟩ | ⟨a, len', cap', m, n, D, Pl, hcs, hb, hl, hm, hmm, hx, hel⟩
    · simp [Value.cells] at hcs
      obtain ⟨rfl, rfl, rfl⟩ := hcs
      exact Or.inl rfl
    · simp [Value.cells] at hcs
      obtain ⟨rfl, rfl, rfl⟩ := hcs
      simp only [Prod.mk.injEq] at hx
      obtain ⟨rfl, rfl⟩ := hx
      simp only [if_true] at hmm
      by_cases hl0 : len = 0
      · exact Or.inl hl0
      · obtain ⟨b, off, spot⟩ := a
        have hs0 := hel 0 (by omega)
        rw [Try.cellsOp] at hel hs0
        obtain ⟨cs0, k1, k2⟩ := hs0
        obtain ⟨_, _, _, _, _, _, _, _, z0, _⟩ := open_op k1 k2
        have hspot : spot = none := by simpa [Addr.add] using World.cell?_spot z0
        subst hspot
        refine Or.inr ⟨b, off, rfl, fun i hi => ?_⟩
        obtain ⟨cs, g1, g2⟩ := hel i (by omega)
        obtain ⟨c0, c1, c2, c3, j0, j1, j2, j3, z0, z1, z2, z3⟩ := open_op g1 g2
        rw [add_plain, add_plain] at z0 z1 z2 z3
        exact ⟨c0, c1, c2, c3, j0, j1, j2, j3, by simpa using z0, z1, z2, z3⟩
  refine (held_walk hrd).mono fun e W' ⟨he, hnx⟩ => ?_
  subst he
  refine ⟨_, rfl, _, _, _, [], p, [], hW', trodAll_mk1 (shut_bool Try.underlying4 true), trodAll_mk1 (hargs _ hnx), rfl, hnx.frame _, fun h => by cases h⟩

theorem held_holds : Rows.HeldSaid :=
  OpenClaim.holds_of_wide 3 Try.f3 rfl rfl rfl rfl rfl rfl rfl ⟨rfl, rfl, rfl, rfl, rfl⟩ rfl rfl rfl rfl rfl (by kernel_rfl) Try.func3 (by kernel_rfl)
    (of_decide_eq_true (by kernel_rfl)) (by unfold Func.isWrapper; first | (rw [if_pos (by decide +kernel)]; kernel_rfl) | (rw [if_neg (by decide +kernel)]; exact ⟨rfl, rfl⟩))
    (fun os started H enc _ => held_lifted os started H enc)

end Go.Proofs.Ytfplgfodoiiobaa
