/- Trees (promises P3 and P4 by the document's answer): for every script whose reading holds at most 1048576 values and letters the call returns true, and the script reads behind the call as it read before; the listed package-level variables begin as the program's text lays them (the card ties them). -/
import Derived.Test.YtfplgfodoiiobaaGreatDoorTreesW
import Derived.Test.YtfplgfodoiiobaaGreatDoorWit
import Derived.Deep.SlicePairs
namespace Go.Proofs.YtfplgfodoiiobaaGreatDoor
open Go.ChangeShapes Go.WideShapes Go.ChangeAt Go.RowKit Go.Deep

theorem Tryz.cellsInt : Tryz.prog.cellsOf 3 = 1 := by kernel_rfl
theorem Tryz.cellsStr : Tryz.prog.cellsOf 9 = 1 := by kernel_rfl
theorem Tryz.cellsFiles : Tryz.prog.cellsOf 54 = 1 := by kernel_rfl
theorem Tryz.cellsStep : Tryz.prog.cellsOf 73 = 7 := by kernel_rfl

theorem int64_of_wf {z : Int} (h : (Lit.int .i64 z).wf = true) : int64 z := by
  have h1 : IntKind.i64.min = -9223372036854775808 := rfl
  have h2 : IntKind.i64.max = 9223372036854775807 := rfl
  simp only [Lit.wf, Bool.and_eq_true, decide_eq_true_eq] at h
  unfold int64
  omega

set_option maxRecDepth 100000 in
theorem open_step {H : Type} {enc : TypeId × Value → H} {w : World} {base : Nat} {spare : Nat → Bool} {held : Bool} {n : Nat} {cs : List Value} {y : DataW H × List MemPlace} {a : Addr}
    (h1 : w.cells? base a 7 = some cs) (h2 : DataW.trod enc Tryz.prog w base spare held n 73 cs = some y) :
    ∃ (c0 c1 c2 c3 c4 : Int) (s : ByteArray) (fo : Option Addr) (fl fc : Nat), int64 c0 ∧ int64 c1 ∧ int64 c2 ∧ int64 c3 ∧ int64 c4 ∧ w.cell? (a.add 0) = some (.int .i64 c0) ∧ w.cell? (a.add 1) = some (.int .i64 c1) ∧ w.cell? (a.add 2) = some (.int .i64 c2) ∧ w.cell? (a.add 3) = some (.int .i64 c3) ∧ w.cell? (a.add 4) = some (.int .i64 c4)
      ∧ w.cell? (a.add 5) = some (.string s) ∧ w.cell? (a.add 6) = some (.slice fo fl fc) := by
  obtain ⟨_, hlen, hcell⟩ := World.cells?_some h1
  obtain ⟨xs, k, hk, hxy, _, hxl, hf⟩ := DataW.trod_struct Tryz.underlying73 h2
  match xs, hxl, cs, hlen with
  | [y0, y1, y2, y3, y4, y5, y6], _, [v0, v1, v2, v3, v4, v5, v6], _ =>
    have g0 := hf 0 _ rfl
    have g1 := hf 1 _ rfl
    have g2 := hf 2 _ rfl
    have g3 := hf 3 _ rfl
    have g4 := hf 4 _ rfl
    have g5 := hf 5 _ rfl
    have g6 := hf 6 _ rfl
    simp [Tryz.cellsInt, Tryz.cellsStr, Tryz.cellsFiles] at g0 g1 g2 g3 g4 g5 g6
    obtain ⟨c0, e0, -, w0⟩ := DataW.trod_int Tryz.underlying3 g0
    obtain ⟨c1, e1, -, w1⟩ := DataW.trod_int Tryz.underlying3 g1
    obtain ⟨c2, e2, -, w2⟩ := DataW.trod_int Tryz.underlying3 g2
    obtain ⟨c3, e3, -, w3⟩ := DataW.trod_int Tryz.underlying3 g3
    obtain ⟨c4, e4, -, w4⟩ := DataW.trod_int Tryz.underlying3 g4
    obtain ⟨s, e5, -, -⟩ := DataW.trod_string Tryz.underlying9 g5
    obtain ⟨fo, fl, fc, e6⟩ : ∃ fo fl fc, v6 = .slice fo fl fc := by
      rcases DataW.trod_slice Tryz.underlying54 g6 with ⟨e, -⟩ | ⟨x, l, c, _, _, _, _, e, -⟩
      · simp at e; exact ⟨_, _, _, e⟩
      · simp at e; exact ⟨_, _, _, e⟩
    simp at e0 e1 e2 e3 e4 e5
    subst e0 e1 e2 e3 e4 e5 e6
    exact ⟨c0, c1, c2, c3, c4, s, fo, fl, fc, int64_of_wf w0, int64_of_wf w1, int64_of_wf w2, int64_of_wf w3, int64_of_wf w4, hcell 0 (by omega), hcell 1 (by omega), hcell 2 (by omega), hcell 3 (by omega), hcell 4 (by omega), hcell 5 (by omega), hcell 6 (by omega)⟩

/-- Of a list at least as many values are counted as it has members. -/
theorem bulk_members {H : Type} : ∀ l : List (DataW H), l.length ≤ Rows.uptoBulkAll l := by
  intro l
  induction l with
  | nil => simp
  | cons d r ih =>
    have h1 : 1 ≤ Rows.uptoBulk d := by
      cases d with
      | lit x => cases x <;> simp [Rows.uptoBulk]
      | nil => simp [Rows.uptoBulk]
      | ptr x => simp [Rows.uptoBulk]
      | slice x y => simp [Rows.uptoBulk]
      | agg x => simp [Rows.uptoBulk]
      | iface t x => simp [Rows.uptoBulk]
      | map x => simp [Rows.uptoBulk]
      | held x => simp [Rows.uptoBulk]
    simp only [Rows.uptoBulkAll, List.length_cons]
    omega

set_option maxRecDepth 100000 in
theorem trees_contract (H : Type) (enc : TypeId × Value → H) (W : World) (base : Nat) (args : Array Value) (ds gs : List (DataW H)) (before : List MemPlace)
    (hval0 : ∀ (j : Nat) t v, Tryz.f3.params[j]? = some t → args[j]? = some v → Value.okWide Tryz.prog W .any base t v)
    (hW : DataW.Whole enc Tryz.prog Tryz.f3.params.toList Rows.treesSpec.vars false W args.toList ds gs before) (hk : Rows.uptoSmall H (ds ++ gs) = true) :
    Calls Tryz.prog 3 args W fun e W' => ∃ v, e = .returned v ∧ Rows.treesSpec.post enc Tryz.prog Tryz.f3 false true false false W args v W' := by
  have hval : ∀ (j : Nat) t v, Tryz.f3.params[j]? = some t → args[j]? = some v → Value.okWide Tryz.prog W .any base t v := hval0
  have hW' := hW
  obtain ⟨p, q, hA0, hV, rfl, _, _⟩ := hW
  have hA : DataW.TrodAll enc Tryz.prog W 0 (fun _ => true) true Tryz.f3.params.toList args.toList ds p := hA0
  rw [Tryz.params3] at hA hval
  obtain ⟨v0, d0, rfl, rfl, h0⟩ := trodAll_one hA
  obtain ⟨rfl, rfl⟩ := trodVars_none hV
  obtain ⟨a0, len, cap, rfl⟩ := okWide_slice Tryz.underlying22 (hval 0 22 v0 rfl rfl)
  have h0k := h0
  obtain ⟨fuel, hf⟩ := h0
  clear hA0 hval0
  simp only [List.append_nil] at hW' hk
  have hbk := of_decide_eq_true hk
  have hlt : ∀ x ∈ p, x.block < W.heap.size := fun x hx => by simpa using hW'.lt x hx
  have hargs : ∀ (W' : World), Below W.heap.size W W' → DataW.Trod enc Tryz.prog W' 0 (fun b => decide (b < W.heap.size)) true 22 (.slice a0 len cap) d0 p :=
    fun W' hn => Below.trod Tryz.laidOut (by kernel_rfl) (of_decide_eq_true (by kernel_rfl)) h0k hn hlt
  have hrd : RdS W a0 len ∧ len ≤ 1048576 := by
    rcases open_slice Tryz.underlying22 hf with ⟨hcs, hx⟩ | ⟨a, len', cap', m, n, D, Pl, hcs, hb, hl, hm, hmm, hx, hel⟩
    · simp [Value.cells] at hcs
      obtain ⟨rfl, rfl, rfl⟩ := hcs
      exact ⟨Or.inl rfl, by omega⟩
    · simp [Value.cells] at hcs
      obtain ⟨rfl, rfl, rfl⟩ := hcs
      simp only [Prod.mk.injEq] at hx
      obtain ⟨rfl, rfl⟩ := hx
      have hlen : len ≤ 1048576 := by
        have h1 := bulk_members (List.map D (List.range len))
        simp only [Rows.uptoBulkAll, Rows.uptoBulk, List.length_map, List.length_range] at hbk h1
        omega
      refine ⟨?_, hlen⟩
      simp only [if_true] at hmm
      by_cases hl0 : len = 0
      · exact Or.inl hl0
      · obtain ⟨b, off, spot⟩ := a
        have hs0 := hel 0 (by omega)
        rw [Tryz.cellsStep] at hel hs0
        obtain ⟨cs0, k1, k2⟩ := hs0
        obtain ⟨_, _, _, _, _, _, _, _, _, _, _, _, _, _, z0, _⟩ := open_step k1 k2
        have hspot : spot = none := by simpa [Addr.add] using World.cell?_spot z0
        subst hspot
        refine Or.inr ⟨b, off, rfl, fun i hi => ?_⟩
        obtain ⟨cs, g1, g2⟩ := hel i (by omega)
        obtain ⟨c0, c1, c2, c3, c4, s, fo, fl, fc, j0, j1, j2, j3, j4, z0, z1, z2, z3, z4, z5, z6⟩ := open_step g1 g2
        rw [add_plain, add_plain] at z0 z1 z2 z3 z4 z5 z6
        exact ⟨c0, c1, c2, c3, c4, s, fo, fl, fc, j0, j1, j2, j3, j4, by simpa using z0, z1, z2, z3, z4, z5, z6⟩
  refine (trees_walk hrd.1 hrd.2).mono fun e W' ⟨he, hnx⟩ => ?_
  subst he
  exact ⟨_, rfl, _, _, _, [], p, [], hW', trodAll_mk1 (shut_bool Tryz.underlying4 true), trodAll_mk1 (hargs _ hnx), rfl, hnx.frame _, fun h => by cases h⟩

set_option maxRecDepth 100000 in
theorem trees_lifted (os : Os) (started : os.Started) (H : Type) (enc : TypeId × Value → H) (F : Stop.Interp) :
    ReturnsInHanded {} Tryz.checked os 3 .any ((Rows.OpenSpec.upto Rows.treesSpec).preRow enc Tryz.prog Tryz.f3 Rows.treesUptoRow.domain false Rows.treesUptoRow.laid) (((Rows.OpenSpec.upto Rows.treesSpec).at F).post enc Tryz.prog Tryz.f3 false true false false) := by
  obtain ⟨w0, hos, hv, hr, hl, hok, hx, hsz⟩ := laid_world os
  refine returnsInHanded_of_row (C := Tryz.checked) (s := Rows.OpenSpec.upto Rows.treesSpec) Tryz.own started (by kernel_rfl) Tryz.func3
    (witness_row_atRef (enc := enc) (C := Tryz.checked) false w0 #[.slice none 0 0] hos (hv _) (hr _) hok
      (OpenSpec.preRow_of_cond 8 (hx H enc) (by kernel_rfl) (fun k hk => by cases hk; kernel_rfl) (hsz H enc) (hl _))) ?_
  intro W base args ds gs before hval hW _ hcond _ _ _ _
  exact trees_contract H enc W base args ds gs before hval hW (hcond _ rfl)

set_option maxRecDepth 100000 in
theorem trees_closed : joinedFacts Tryz.prog 3 Tryz.f3 (Rows.OpenSpec.upto Rows.treesSpec).bare Rows.treesUptoRow = true := by kernel_rfl

theorem trees_upto : Rows.TreesUptoSaid :=
  OpenClaim.holds_of_cond 3 Tryz.f3 rfl rfl rfl rfl rfl rfl rfl ⟨rfl, rfl, rfl, rfl, rfl⟩ rfl rfl rfl rfl rfl (by kernel_rfl) Tryz.func3 trees_closed
    (of_decide_eq_true (by kernel_rfl)) (by unfold Func.isWrapper; first | (rw [if_pos (by decide +kernel)]; kernel_rfl) | (rw [if_neg (by decide +kernel)]; exact ⟨rfl, rfl⟩))
    (fun os started H enc _ F => by rw [OpenClaim.pre_eq_preRow]; exact trees_lifted os started H enc F)

theorem trees_plain (f : FuncId) (fn : Func) (hf : Tryz.pinned.checked.prog.funcNamed Rows.treesUptoRow.func = some f) (hfn : Tryz.pinned.checked.prog.funcs[f]? = some fn) :
    true = Tryz.pinned.checked.prog.looks [] ∧ ∀ (j : Nat) t, fn.params[j]? = some t → Tryz.pinned.checked.prog.wantsStandIn t = false := by
  obtain rfl : f = 3 := Option.some.inj ((show Tryz.prog.funcNamed Rows.treesUptoRow.func = some 3 by kernel_rfl).symm.trans hf) |>.symm
  obtain rfl : fn = Tryz.f3 := (Option.some.inj (Tryz.func3.symm.trans hfn)).symm
  refine ⟨by kernel_rfl, fun j t ht => ?_⟩
  rw [Tryz.params3] at ht
  obtain rfl : t = 22 := by simpa using Array.mem_of_getElem? ht
  exact (show Tryz.prog.wantsStandIn 22 = false by kernel_rfl)

theorem trees_card : Rows.TreesUptoCardSaid :=
  Claim7.holds_tied_plain_at .later [] _ _ _ _ trees_upto (fun _ h => by cases h) (by kernel_rfl) (fun _ h => by cases h) treesUpto_row_tie rfl ⟨rfl, rfl⟩ (by kernel_rfl) rfl trees_plain (by kernel_rfl)

end Go.Proofs.YtfplgfodoiiobaaGreatDoor
