/- The walk of a step on a tree: its questions. -/
import Derived.Test.YtfplgfodoiiobaaGreatDoorTreesM
namespace Go.Proofs.YtfplgfodoiiobaaGreatDoor
open Go.RowKit

/-- A step of a script. -/
def stepV (q a n m k : Int) (s : ByteArray) (fo : Option Addr) (fl fc : Nat) : Value := .agg #[.int .i64 q, .int .i64 a, .int .i64 n, .int .i64 m, .int .i64 k, .string s, .slice fo fl fc]
/-- Other blocks than those of trees, pairs, marks and lists of lists are as they were; so is the list of trees. -/
def Keep7 (w w' : World) (wb : Nat) : Prop :=
  (∀ (b : Nat) (cur : Array Value) (t : TypeId) (f : Nat × Nat), t ≠ 119 → t ≠ 160 → t ≠ 71 → t ≠ 102 → t ≠ 3 → t ≠ 114 → w.heap[b]? = some (.cells cur t f) → w'.heap[b]? = some (.cells cur t f))
  ∧ ∀ vts n vp vm, w.heap[wb]? = some (worldB vts n vp vm) → w'.cell? ⟨wb, 0, none⟩ = some vts
/-- What a step leaves. -/
def StepOk (w w' : World) (B wb : Nat) (rs : List Rec) (c : Nat) : Prop := Keep7 w w' wb ∧ Below B w w' ∧ ∃ rs' c', INV w' B wb rs' c' ∧ rs'.length ≤ rs.length + 1 ∧ c' ≤ c + 1

theorem INV.lt {w : World} {B wb c : Nat} {rs : List Rec} (h : INV w B wb rs c) : B ≤ w.heap.size ∧ wb < w.heap.size := by
  obtain ⟨vts, vp, vm, hs, h1, h2, -⟩ := h
  have := lt_of_some h1
  omega
theorem StepOk.quiet {w w' : World} {B wb c : Nat} {rs : List Rec} (h : INV w B wb rs c) (hb : Below w.heap.size w w') : StepOk w w' B wb rs c :=
  ⟨⟨fun b cur t f _ _ _ _ _ _ e => (hb.block b (lt_of_some e)).trans e, fun vts n vp vm e => (world_cells ((hb.block wb (lt_of_some e)).trans e)).1⟩, ⟨hb.os, hb.tape, hb.output, hb.size, fun b hlt => hb.block b (by have := h.lt; omega)⟩, rs, c, h.below hb, by omega, by omega⟩
theorem INV.rec {w : World} {B wb c i : Nat} {rs : List Rec} {r : Rec} (h : INV w B wb rs c) (hr : rs[i]? = some r) : RecAt w B r := by
  obtain ⟨vts, vp, vm, hs, -, -, -, h4, -⟩ := h
  exact h4 r (List.mem_of_getElem? hr)

/-- One tree was changed (or not), and one list became the caller's. -/
theorem INV.step {w w' : World} {B wb c k : Nat} {rs : List Rec} {r : Rec} {vts vp vm vp' vm' : Value} {hs g : List Lst} (h1 : w.heap[wb]? = some (worldB vts (c : Int) vp vm)) (h2 : B ≤ wb)
    (h3 : w.ownsRow B 117 1 vts rs.length (rs.map (fun r : Rec => Value.pointer (some ⟨r.sb, 0, none⟩)))) (h4 : ∀ r ∈ rs, RecAt w B r) (h5 : rs.Pairwise Apart)
    (h6 : w.ownsRow B 102 1 vp hs.length (hs.map Lst.v)) (h7 : hs.length = 4 * c) (h8 : Held w hs) (h9 : OwnI w B vm (marks c))
    (hr : rs[k]? = some r) {ao : Option Addr} {ca : Nat} {l : List (Int × Int)}
    (hF : Fr w w' (fun b => b = r.sb ∨ b = r.tb ∨ b = wb ∨ vp.ownBlock = some b ∨ vm.ownBlock = some b)) (hp : w'.heap[r.sb]? = some (pairB r.tb (.slice ao l.length ca))) (ht : TreeAt w' r.tb l) (hl : RdT w' ao l)
    (g1 : g.length = 4) (g2 : w'.heap[wb]? = some (worldB vts ((c : Int) + 1) vp' vm')) (g3 : w'.ownsRow B 102 1 vp' (hs ++ g).length ((hs ++ g).map Lst.v)) (g4 : OwnI w' B vm' (marks (c + 1)))
    (g5 : ∀ x ∈ g, RdT w' x.1 (List.replicate x.2.1 (mk c)) ∧ x.2.1 ≤ 9000) : INV w' B wb (rs.set k (r.sb, r.tb, ao, ca, l)) (c + 1) := by
  have hmem : r ∈ rs := List.mem_of_getElem? hr
  obtain ⟨p1, ⟨q1, q2, q3, -⟩, p3, p4, p5⟩ := h4 r hmem
  have hkl : k < rs.length := (List.getElem?_eq_some_iff.1 hr).1
  have hX : ∀ b (cur : Array Value) (t : TypeId) (f : Nat × Nat), t ≠ 119 → t ≠ 160 → t ≠ 71 → t ≠ 102 → t ≠ 3 → w.heap[b]? = some (.cells cur t f) → ¬ (b = r.sb ∨ b = r.tb ∨ b = wb ∨ vp.ownBlock = some b ∨ vm.ownBlock = some b) := by
    intro b cur t f e1 e2 e3 e4 e5 hb hx
    rcases hx with rfl | rfl | rfl | hx | hx
    · exact not_both hb p1 (ty_ne e1)
    · exact not_both hb q3 (ty_ne e2)
    · exact not_both hb h1 (ty_ne e3)
    · exact row_ne h6 hb (Ne.symm e4) hx
    · exact row_ne h9 hb (Ne.symm e5) hx
  refine ⟨vts, vp', vm', hs ++ g, by rw [g2]; rfl, h2, ?_, ?_, ?_, g3, by rw [List.length_append]; omega, ?_, g4⟩
  · rw [List.length_set, List.map_set]
    have e : (rs.map (fun r : Rec => Value.pointer (some ⟨r.sb, 0, none⟩))).set k (Value.pointer (some ⟨Rec.sb (r.sb, r.tb, ao, ca, l), 0, none⟩)) = rs.map (fun r : Rec => Value.pointer (some ⟨r.sb, 0, none⟩)) := by
      apply List.ext_getElem?
      intro i
      rw [List.getElem?_set]
      by_cases hi : k = i
      · subst hi
        simp [hkl, Rec.sb]
        have := (List.getElem?_eq_some_iff.1 hr).2
        rw [this]
      · simp [hi]
    rw [e]
    exact ownsRow_fr h3 hF (fun g cur _ e => hX _ _ _ _ (by decide) (by decide) (by decide) (by decide) (by decide) e)
  · intro s hs'
    obtain ⟨i, hi, rfl⟩ := List.getElem_of_mem hs'
    rw [List.getElem_set]
    by_cases hik : k = i
    · rw [if_pos hik]
      exact ⟨hp, ht, hl, p4, p5⟩
    · rw [if_neg hik]
      have hi' : i < rs.length := by simpa using hi
      have hap : Apart rs[i] r := by
        have hre : rs[k] = r := (List.getElem?_eq_some_iff.1 hr).2
        rcases Nat.lt_or_ge i k with hlt | hge
        · have := List.pairwise_iff_getElem.1 h5 i k hi' hkl hlt
          rw [hre] at this; exact this
        · have := List.pairwise_iff_getElem.1 h5 k i hkl hi' (by omega)
          rw [hre] at this; exact ⟨this.1.symm, this.2.symm⟩
      have hi4 := h4 rs[i] (List.getElem_mem hi')
      have hi5 := hi4
      obtain ⟨z1, ⟨y1, y2, y3, -⟩, -⟩ := hi4
      refine hi5.fr hF ?_ ?_ (fun b la ra p h l e => hX _ _ _ _ (by decide) (by decide) (by decide) (by decide) (by decide) e) (fun b cur e => hX _ _ _ _ (by decide) (by decide) (by decide) (by decide) (by decide) e)
      · rintro (e | e | e | e | e)
        · exact hap.1 e
        · rw [e] at z1; exact not_both z1 q3 (ty_ne (by decide))
        · rw [e] at z1; exact not_both z1 h1 (ty_ne (by decide))
        · exact row_ne h6 z1 (by decide) e
        · exact row_ne h9 z1 (by decide) e
      · rintro (e | e | e | e | e)
        · rw [e] at y3; exact not_both y3 p1 (ty_ne (by decide))
        · exact hap.2 e
        · rw [e] at y3; exact not_both y3 h1 (ty_ne (by decide))
        · exact row_ne h6 y3 (by decide) e
        · exact row_ne h9 y3 (by decide) e
  · refine List.pairwise_iff_getElem.2 fun i j hi hj hij => ?_
    have hi' : i < rs.length := by simpa using hi
    have hj' : j < rs.length := by simpa using hj
    have hre : rs[k] = r := (List.getElem?_eq_some_iff.1 hr).2
    have h0 := List.pairwise_iff_getElem.1 h5 i j hi' hj' hij
    rw [List.getElem_set, List.getElem_set]
    by_cases h1 : k = i
    · subst h1
      rw [if_pos rfl, if_neg (by omega)]
      rw [hre] at h0; exact h0
    · rw [if_neg h1]
      by_cases h2 : k = j
      · subst h2
        rw [if_pos rfl]
        rw [hre] at h0; exact h0
      · rw [if_neg h2]; exact h0
  · intro i x hx
    by_cases hi : i < hs.length
    · rw [List.getElem?_append_left hi] at hx
      obtain ⟨a1, a2⟩ := h8 i x hx
      exact ⟨a1.fr hF (fun b cur e => hX _ _ _ _ (by decide) (by decide) (by decide) (by decide) (by decide) e), a2⟩
    · rw [List.getElem?_append_right (by omega)] at hx
      have hlt := (List.getElem?_eq_some_iff.1 hx).1
      rw [show i / 4 = c from by omega]
      exact g5 x (List.mem_of_getElem? hx)

/-- The whole of a step by which a list comes out: from w to w3 the tree may have changed, and the list was made; then it became the caller's. -/
theorem INV.own {w w3 w' : World} {B wb c k : Nat} {rs : List Rec} {r : Rec} {vts vp vm : Value} {hs : List Lst} (h1 : w.heap[wb]? = some (worldB vts (c : Int) vp vm)) (h2 : B ≤ wb)
    (h3 : w.ownsRow B 117 1 vts rs.length (rs.map (fun r : Rec => Value.pointer (some ⟨r.sb, 0, none⟩)))) (h4 : ∀ r ∈ rs, RecAt w B r) (h5 : rs.Pairwise Apart)
    (h6 : w.ownsRow B 102 1 vp hs.length (hs.map Lst.v)) (h7 : hs.length = 4 * c) (h8 : Held w hs) (h9 : OwnI w B vm (marks c))
    (hr : rs[k]? = some r) {ao go : Option Addr} {ca : Nat} {l : List (Int × Int)}
    (hF : Fr w w3 (fun b => b = r.sb ∨ b = r.tb)) (hB : Below B w w3) (hp : w3.heap[r.sb]? = some (pairB r.tb (.slice ao l.length ca))) (ht : TreeAt w3 r.tb l) (hl : RdT w3 ao l)
    (hgo : ∀ a, go = some a → w.heap.size ≤ a.block) (hgt : ∀ a, go = some a → ∃ cur, w3.heap[a.block]? = some (.cells cur 114 (0, 0))) (hag : ∀ a, ao = some a → ∀ g, go = some g → a.block ≠ g.block)
    (hD : OwnDone w3 w' B wb c vts vp vm hs go) : StepOk w w' B wb rs c := by
  obtain ⟨p1, ⟨q1, q2, q3, -⟩, p3, p4, p5⟩ := h4 r (List.mem_of_getElem? hr)
  have hX3 : ∀ b (cur : Array Value) (t : TypeId) (f : Nat × Nat), t ≠ 119 → t ≠ 160 → w.heap[b]? = some (.cells cur t f) → ¬ (b = r.sb ∨ b = r.tb) := by
    intro b cur t f e1 e2 hb hx
    rcases hx with rfl | rfl
    · exact not_both hb p1 (ty_ne e1)
    · exact not_both hb q3 (ty_ne e2)
  have w1 : w3.heap[wb]? = some (worldB vts (c : Int) vp vm) := hF.at h1 (hX3 _ _ _ _ (by decide) (by decide) h1)
  have w6 := ownsRow_fr h6 hF (fun g cur _ e => hX3 _ _ _ _ (by decide) (by decide) e)
  have w9 : OwnI w3 B vm (marks c) := ownsRow_fr h9 hF (fun g cur _ e => hX3 _ _ _ _ (by decide) (by decide) e)
  obtain ⟨vp', vm', g, g1, g2, g3, g4, g5, g6, g7⟩ := hD
  have hX : ∀ b (cur : Array Value) (t : TypeId) (f : Nat × Nat), t ≠ 71 → t ≠ 102 → t ≠ 3 → (∀ a, go = some a → b ≠ a.block) → w3.heap[b]? = some (.cells cur t f) → ¬ (b = wb ∨ (∃ a, go = some a ∧ b = a.block) ∨ vp.ownBlock = some b ∨ vm.ownBlock = some b) := by
    intro b cur t f e1 e2 e3 e4 hb hx
    rcases hx with rfl | ⟨a, ha, rfl⟩ | hx | hx
    · exact not_both hb w1 (ty_ne e1)
    · exact e4 a ha rfl
    · exact row_ne w6 hb (Ne.symm e2) hx
    · exact row_ne w9 hb (Ne.symm e3) hx
  have hty : ∀ b (cur : Array Value) (t : TypeId) (f : Nat × Nat), t ≠ 114 → w3.heap[b]? = some (.cells cur t f) → ∀ a, go = some a → b ≠ a.block := by
    intro b cur t f e hb a ha hba
    obtain ⟨cur', hc⟩ := hgt a ha
    rw [hba] at hb
    exact not_both hb hc (ty_ne e)
  obtain ⟨u1, u2, u3, -⟩ := id ht
  have hK : Keep7 w w' wb := by
    refine ⟨fun b cur t f e1 e2 e3 e4 e5 e6 e => ?_, fun vts0 n0 vp0 vm0 e => ?_⟩
    · have e3' := hF.at e (hX3 _ _ _ _ e1 e2 e)
      exact g6.at e3' (hX _ _ _ _ e3 e4 e5 (hty _ _ _ _ e6 e3') e3')
    · rw [h1] at e
      have : vts = vts0 := by
        have e' := Option.some.inj e
        unfold worldB at e'
        injection e' with e1
        have := congrArg (fun x : Array Value => x[0]?) e1
        simpa using this
      subst this
      exact (world_cells g2).1
  refine ⟨hK, ⟨g7.os.trans hB.os, g7.tape.trans hB.tape, g7.output.trans hB.output, Nat.le_trans hB.size g7.size, fun b hb => (g7.block b hb).trans (hB.block b hb)⟩, _, c + 1, INV.step h1 h2 h3 h4 h5 h6 h7 h8 h9 hr ?_ (g6.at hp ?_) (ht.fr g6 ?_ ?_) ⟨hl.1.fr g6 ?_, ?_⟩ g1 g2 g3 g4 g5, by simp, by omega⟩
  · refine ⟨Nat.le_trans hF.1 g6.1, fun b hb hx => ?_⟩
    have e1 := hF.2 b hb (fun e => hx (by rcases e with e | e; exact Or.inl e; exact Or.inr (Or.inl e)))
    refine (g6.2 b (Nat.lt_of_lt_of_le hb hF.1) ?_).trans e1
    rintro (e | ⟨a, ha, rfl⟩ | e | e)
    · exact hx (Or.inr (Or.inr (Or.inl e)))
    · have := hgo a ha; omega
    · exact hx (Or.inr (Or.inr (Or.inr (Or.inl e))))
    · exact hx (Or.inr (Or.inr (Or.inr (Or.inr e))))
  · exact hX _ _ _ _ (by decide) (by decide) (by decide) (hty _ _ _ _ (by decide) hp) hp
  · exact hX _ _ _ _ (by decide) (by decide) (by decide) (hty _ _ _ _ (by decide) u3) u3
  · intro b la ra p h l e
    exact hX _ _ _ _ (by decide) (by decide) (by decide) (hty _ _ _ _ (by decide) e) e
  · intro a ha
    obtain ⟨cur, hc⟩ := hl.2 a ha
    exact hX _ _ _ _ (by decide) (by decide) (by decide) (fun g hg => hag a ha g hg) hc
  · intro a ha
    obtain ⟨cur, hc⟩ := hl.2 a ha
    exact ⟨cur, g6.at hc (hX _ _ _ _ (by decide) (by decide) (by decide) (fun g hg => hag a ha g hg) hc)⟩

set_option maxRecDepth 100000 in
set_option maxHeartbeats 1000000 in
theorem grows7 {w : World} {B wb c i : Nat} {rs : List Rec} {r : Rec} (h : INV w B wb rs c) (hr : rs[i]? = some r) {a n m k : Int} {s : ByteArray} {fo : Option Addr} {fl fc : Nat} :
    Calls Tryz.prog 67 #[.pointer (some ⟨wb, 0, none⟩), .pointer (some ⟨r.sb, 0, none⟩), stepV 7 a n m k s fo fl fc] w fun e w' => e = .returned (.bool true) ∧ StepOk w w' B wb rs c := by
  obtain ⟨hp, ht, hrd, -, -⟩ := h.rec hr
  unfold stepV
  go_enter Tryz.func67, Tryz.ntmps67
  go_wp2_with fail
  refine (low_any (l := r.l) (ca := r.2.2.2.1) (ao := r.2.2.1) ((Fr.of_below (b_alloc _ _) (fun _ => False)).at hp id) (ht.below (b_alloc _ _))).mono ?_
  rintro e w1 ⟨rfl, rfl⟩
  go_wp2_with fail
  go_ret
  exact ⟨rfl, StepOk.quiet h (b_alloc _ _)⟩

set_option maxRecDepth 100000 in
set_option maxHeartbeats 1000000 in
theorem grows6 {w : World} {B wb c i : Nat} {rs : List Rec} {r : Rec} (h : INV w B wb rs c) (hr : rs[i]? = some r) {a n m k : Int} {s : ByteArray} {fo : Option Addr} {fl fc : Nat} :
    Calls Tryz.prog 67 #[.pointer (some ⟨wb, 0, none⟩), .pointer (some ⟨r.sb, 0, none⟩), stepV 6 a n m k s fo fl fc] w fun e w' => e = .returned (.bool true) ∧ StepOk w w' B wb rs c := by
  obtain ⟨hp, ht, hrd, -, -⟩ := h.rec hr
  obtain ⟨sb, tb, ao, ca, l⟩ := r
  simp only [Rec.sb, Rec.tb, Rec.l, Rec.v] at hp ht hrd ⊢
  obtain ⟨c0, c1, -⟩ := pair_cells hp
  have hlt := lt_of_some hp
  have hne : w.heap.size ≠ sb := by omega
  obtain ⟨hok, hlen⟩ := ht.ok
  clear hp
  unfold stepV
  go_enter Tryz.func67, Tryz.ntmps67
  go_wp2_with fail
  refine (size_any (ht.below (b_alloc _ _))).mono ?_
  rintro e w1 ⟨rfl, rfl⟩
  go_wp2_with fail
  refine (rsize_any (hrd.1.below (b_alloc _ _)) rfl hok (by omega)).mono ?_
  rintro e w1 ⟨rfl, rfl⟩
  go_wp2_with fail
  go_ret
  exact ⟨by simp, StepOk.quiet h (b_alloc _ _)⟩

end Go.Proofs.YtfplgfodoiiobaaGreatDoor
