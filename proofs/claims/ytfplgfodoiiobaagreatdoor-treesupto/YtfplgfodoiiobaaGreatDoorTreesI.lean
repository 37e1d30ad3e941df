/- What the statement's world holds in memory: its trees, each beside the document's pieces, and the lists that came out; what of it lasts while other blocks are written. -/
import Derived.Test.YtfplgfodoiiobaaGreatDoorTreesH
namespace Go.Proofs.YtfplgfodoiiobaaGreatDoor
open Go.RowKit

/-- From w to w' blocks were added, and of the old ones none was written but where X says so. -/
def Fr (w w' : World) (X : Nat → Prop) : Prop := w.heap.size ≤ w'.heap.size ∧ ∀ b, b < w.heap.size → ¬ X b → w'.heap[b]? = w.heap[b]?

theorem Fr.at {w w' : World} {X : Nat → Prop} (h : Fr w w' X) {b : Nat} {o : Obj} (e : w.heap[b]? = some o) (hx : ¬ X b) : w'.heap[b]? = some o := (h.2 b (lt_of_some e) hx).trans e
theorem Fr.of_below {w w' : World} (h : Below w.heap.size w w') (X : Nat → Prop) : Fr w w' X := ⟨h.size, fun b hb _ => h.block b hb⟩
theorem Fr.of_grown {w w' : World} {r : Option Nat} (h : w.grownBy w' r) : Fr w w' (fun b => r = some b) := ⟨h.size, fun b hb hx => h.block b hb (fun e => hx e.symm)⟩
theorem Fr.mono {w w' : World} {X Y : Nat → Prop} (h : Fr w w' X) (hxy : ∀ b, X b → Y b) : Fr w w' Y := ⟨h.1, fun b hb hx => h.2 b hb (fun e => hx (hxy b e))⟩
theorem Fr.trans {w w1 w2 : World} {X : Nat → Prop} (h : Fr w w1 X) (h2 : Fr w1 w2 X) : Fr w w2 X :=
  ⟨Nat.le_trans h.1 h2.1, fun b hb hx => (h2.2 b (Nat.lt_of_lt_of_le hb h.1) hx).trans (h.2 b hb hx)⟩
theorem Fr.refl (w : World) (X : Nat → Prop) : Fr w w X := ⟨Nat.le_refl _, fun _ _ _ => rfl⟩
theorem Fr.set (w : World) (a : Addr) (v : Value) : Fr w (w.setCell a v) (fun b => b = a.block) :=
  ⟨by simp [World.setCell], fun b _ hx => Below.heap_setCell _ _ _ _ hx⟩

/-- A row of pieces, told by its type. -/
def PT (w : World) (ao : Option Addr) : Prop := ∀ a, ao = some a → ∃ cur, w.heap[a.block]? = some (.cells cur 114 (0, 0))
def RdT (w : World) (ao : Option Addr) (l : List (Int × Int)) : Prop := RdP w ao l ∧ PT w ao

theorem RdP.fr {w w' : World} {X : Nat → Prop} {ao : Option Addr} {l : List (Int × Int)} (h : RdP w ao l) (hF : Fr w w' X) (hx : ∀ a, ao = some a → ¬ X a.block) : RdP w' ao l := by
  rcases h with rfl | ⟨b, off, rfl, hc⟩
  · left; rfl
  · refine Or.inr ⟨b, off, rfl, fun i hi => ?_⟩
    have hn := hx _ rfl
    obtain ⟨h1, h2⟩ := hc i hi
    have hb : w'.heap[b]? = w.heap[b]? := hF.2 b (World.block_lt_of_cell? _ _ h1) hn
    exact ⟨(World.cell?_of_block (a := ⟨b, off + i * 2, none⟩) hb).trans h1, (World.cell?_of_block (a := ⟨b, off + i * 2 + 1, none⟩) hb).trans h2⟩

theorem RdT.fr {w w' : World} {X : Nat → Prop} {ao : Option Addr} {l : List (Int × Int)} (h : RdT w ao l) (hF : Fr w w' X) (hx : ∀ b cur, w.heap[b]? = some (.cells cur 114 (0, 0)) → ¬ X b) : RdT w' ao l := by
  obtain ⟨h1, h2⟩ := h
  refine ⟨h1.fr hF (fun a e => ?_), fun a e => ?_⟩
  · obtain ⟨cur, hc⟩ := h2 a e; exact hx _ _ hc
  · obtain ⟨cur, hc⟩ := h2 a e; exact ⟨cur, hF.at hc (hx _ _ hc)⟩

theorem RdT.of_own {w : World} {B : Nat} {v : Value} {l : List (Int × Int)} (h : OwnP w B v l) : ∃ ao cap, v = .slice ao l.length cap ∧ RdT w ao l ∧ (ao = none → l.length = 0 ∧ cap = 0) := by
  have h' := h
  obtain ⟨-, h2⟩ := h
  rcases h2 with ⟨rfl, h3⟩ | ⟨g, cap, cur, rfl, hg, hh, -⟩
  · exact ⟨none, 0, by rw [h3], ⟨Or.inl (List.eq_nil_of_length_eq_zero h3), (fun _ e => by cases e)⟩, fun _ => ⟨h3, rfl⟩⟩
  · exact ⟨some ⟨g, 0, none⟩, cap, rfl, ⟨RdP.own h', (fun a e => by cases e; exact ⟨cur, hh⟩)⟩, (fun e => by cases e)⟩

theorem RdT.nil (w : World) : RdT w none [] := ⟨Or.inl rfl, fun _ e => by cases e⟩

theorem ownsRow_fr {w w' : World} {X : Nat → Prop} {B e size n : Nat} {v : Value} {xs : List Value} (h : w.ownsRow B e size v n xs) (hF : Fr w w' X) (hx : ∀ g cur, v.ownBlock = some g → w.heap[g]? = some (.cells cur e (0, 0)) → ¬ X g) : w'.ownsRow B e size v n xs := by
  obtain ⟨h1, h2⟩ := h
  refine ⟨h1, ?_⟩
  rcases h2 with h2 | ⟨g, cap, cur, rfl, hg, hh, hr⟩
  · exact Or.inl h2
  · exact Or.inr ⟨g, cap, cur, rfl, hg, hF.at hh (hx g cur rfl hh), hr⟩

theorem TreeAt.fr {w w' : World} {X : Nat → Prop} {tb : Nat} {l : List (Int × Int)} (t : TreeAt w tb l) (hF : Fr w w' X) (h1 : ¬ X tb) (h2 : ∀ b la ra p h l, w.heap[b]? = some (nodeB la ra p h l) → ¬ X b) : TreeAt w' tb l :=
  t.keep fun b c e hc => by
    refine hF.2 b (lt_of_some e) ?_
    rcases hc with ⟨-, rfl⟩ | ⟨la, ra, p, h, l', rfl⟩
    · exact h1
    · exact h2 _ _ _ _ _ _ e

/-- A tree of the statement's world: the block of the pair, the block of the tree, the document's slice (where, how much room) and its pieces. -/
abbrev Rec := Nat × Nat × Option Addr × Nat × List (Int × Int)
def Rec.sb (r : Rec) : Nat := r.1
def Rec.tb (r : Rec) : Nat := r.2.1
def Rec.l (r : Rec) : List (Int × Int) := r.2.2.2.2
def Rec.v (r : Rec) : Value := .slice r.2.2.1 r.2.2.2.2.length r.2.2.2.1
def RecAt (w : World) (B : Nat) (r : Rec) : Prop := w.heap[r.sb]? = some (pairB r.tb r.v) ∧ TreeAt w r.tb r.l ∧ RdT w r.2.2.1 r.l ∧ B ≤ r.sb ∧ B ≤ r.tb
def Apart (r s : Rec) : Prop := r.sb ≠ s.sb ∧ r.tb ≠ s.tb

def worldB (vts : Value) (n : Int) (vp vm : Value) : Obj := .cells #[vts, .slice none 0 0, .int .i64 n, vp, .slice none 0 0, vm] 71 (0, 0)
def marks (c : Nat) : List Int := (List.range c).map (fun i : Nat => (i : Int) + 1)
/-- The lists that came out. -/
abbrev Lst := Option Addr × Nat × Nat
def Lst.v (x : Lst) : Value := .slice x.1 x.2.1 x.2.2
def mk (i : Nat) : Int × Int := (-((i : Int) + 1), (i : Int) + 1)
def Held (w : World) (hs : List Lst) : Prop := ∀ i x, hs[i]? = some x → RdT w x.1 (List.replicate x.2.1 (mk (i / 4))) ∧ x.2.1 ≤ 9000

theorem marks_succ (c : Nat) : marks (c + 1) = marks c ++ [(c : Int) + 1] := by unfold marks; rw [List.range_succ]; simp
theorem marks_length (c : Nat) : (marks c).length = c := by simp [marks]
theorem marks_get {c i : Nat} (h : i < c) : (marks c).getD i 0 = (i : Int) + 1 := by simp [marks, h]

/-- The statement's world: so many trees, so many marks. -/
def INV (w : World) (B wb : Nat) (rs : List Rec) (c : Nat) : Prop :=
  ∃ (vts vp vm : Value) (hs : List Lst), w.heap[wb]? = some (worldB vts (c : Int) vp vm) ∧ B ≤ wb
    ∧ w.ownsRow B 117 1 vts rs.length (rs.map (fun r : Rec => Value.pointer (some ⟨r.sb, 0, none⟩)))
    ∧ (∀ r ∈ rs, RecAt w B r) ∧ rs.Pairwise Apart
    ∧ w.ownsRow B 102 1 vp hs.length (hs.map Lst.v) ∧ hs.length = 4 * c ∧ Held w hs ∧ OwnI w B vm (marks c)

theorem world_cells {w : World} {wb : Nat} {vts vp vm : Value} {n : Int} (h : w.heap[wb]? = some (worldB vts n vp vm)) :
    w.cell? ⟨wb, 0, none⟩ = some vts ∧ w.cell? ⟨wb, 1, none⟩ = some (.slice none 0 0) ∧ w.cell? ⟨wb, 2, none⟩ = some (.int .i64 n) ∧ w.cell? ⟨wb, 3, none⟩ = some vp ∧ w.cell? ⟨wb, 4, none⟩ = some (.slice none 0 0) ∧ w.cell? ⟨wb, 5, none⟩ = some vm ∧ ∀ j, w.frozen? ⟨wb, j, none⟩ = false := by
  simp [World.cell?, World.frozen?, h, worldB]

theorem RecAt.fr {w w' : World} {X : Nat → Prop} {B : Nat} {r : Rec} (h : RecAt w B r) (hF : Fr w w' X) (h1 : ¬ X r.sb) (h2 : ¬ X r.tb) (h3 : ∀ b la ra p h l, w.heap[b]? = some (nodeB la ra p h l) → ¬ X b)
    (h4 : ∀ b cur, w.heap[b]? = some (.cells cur 114 (0, 0)) → ¬ X b) : RecAt w' B r := by
  obtain ⟨a1, a2, a3, a4, a5⟩ := h
  exact ⟨hF.at a1 h1, a2.fr hF h2 h3, a3.fr hF h4, a4, a5⟩

theorem Held.fr {w w' : World} {X : Nat → Prop} {hs : List Lst} (h : Held w hs) (hF : Fr w w' X) (h4 : ∀ b cur, w.heap[b]? = some (.cells cur 114 (0, 0)) → ¬ X b) : Held w' hs :=
  fun i x e => ⟨(h i x e).1.fr hF h4, (h i x e).2⟩

theorem not_both {w : World} {b : Nat} {o p : Obj} (h1 : w.heap[b]? = some o) (h2 : w.heap[b]? = some p) (hne : o ≠ p) : False := by
  rw [h1] at h2; exact hne (Option.some.inj h2)

theorem ty_ne {a b : Array Value} {s t : TypeId} {f g : Nat × Nat} (h : s ≠ t) : (Obj.cells a s f) ≠ (Obj.cells b t g) := by
  intro e; cases e; exact h rfl

/-- Blocks were added; nothing was written. -/
theorem INV.below {w w' : World} {B wb c : Nat} {rs : List Rec} (h : INV w B wb rs c) (hB : Below w.heap.size w w') : INV w' B wb rs c := by
  obtain ⟨vts, vp, vm, hs, h1, h2, h3, h4, h5, h6, h7, h8, h9⟩ := h
  have hF := Fr.of_below hB (fun _ => False)
  exact ⟨vts, vp, vm, hs, hF.at h1 id, h2, ownsRow_fr h3 hF (fun _ _ _ _ => id), fun r hr => (h4 r hr).fr hF id id (fun _ _ _ _ _ _ _ => id) (fun _ _ _ => id), h5, ownsRow_fr h6 hF (fun _ _ _ _ => id), h7, h8.fr hF (fun _ _ _ => id), ownsRow_fr h9 hF (fun _ _ _ _ => id)⟩

/-- One tree was changed, with the document's pieces beside it. -/
theorem INV.tree {w w' : World} {B wb c k : Nat} {rs : List Rec} (h : INV w B wb rs c) {r : Rec} (hr : rs[k]? = some r) {ao : Option Addr} {ca : Nat} {l : List (Int × Int)}
    (hF : Fr w w' (fun b => b = r.sb ∨ b = r.tb)) (hp : w'.heap[r.sb]? = some (pairB r.tb (.slice ao l.length ca))) (ht : TreeAt w' r.tb l) (hl : RdT w' ao l) : INV w' B wb (rs.set k (r.sb, r.tb, ao, ca, l)) c := by
  obtain ⟨vts, vp, vm, hs, h1, h2, h3, h4, h5, h6, h7, h8, h9⟩ := h
  have hmem : r ∈ rs := List.mem_of_getElem? hr
  obtain ⟨p1, ⟨q1, q2, q3, -⟩, p3, p4, p5⟩ := h4 r hmem
  have hkl : k < rs.length := (List.getElem?_eq_some_iff.1 hr).1
  have hX : ∀ b (cur : Array Value) (t : TypeId) (f : Nat × Nat), t ≠ 119 → t ≠ 160 → w.heap[b]? = some (.cells cur t f) → ¬ (b = r.sb ∨ b = r.tb) := by
    intro b cur t f e1 e2 hb hx
    rcases hx with rfl | rfl
    · exact not_both hb p1 (ty_ne e1)
    · exact not_both hb q3 (ty_ne e2)
  refine ⟨vts, vp, vm, hs, hF.at h1 (hX _ _ _ _ (by decide) (by decide) h1), h2, ?_, ?_, ?_, ownsRow_fr h6 hF (fun g cur _ e => hX _ _ _ _ (by decide) (by decide) e), h7, h8.fr hF (fun b cur e => hX _ _ _ _ (by decide) (by decide) e), ownsRow_fr h9 hF (fun g cur _ e => hX _ _ _ _ (by decide) (by decide) e)⟩
  · rw [List.length_set, List.map_set]
    have e : (rs.map (fun r : Rec => Value.pointer (some ⟨r.sb, 0, none⟩))).set k (Value.pointer (some ⟨Rec.sb (r.sb, r.tb, ao, ca, l), 0, none⟩)) = rs.map (fun r : Rec => Value.pointer (some ⟨r.sb, 0, none⟩)) := by
      apply List.ext_getElem?
      intro i
      rw [List.getElem?_set]
      by_cases hi : k = i
      · subst hi
        simp [hkl, Rec.sb]
        have := (List.getElem?_eq_some_iff.1 hr).2
        rw [this]
      · simp [hi]
    rw [e]
    exact ownsRow_fr h3 hF (fun g cur _ e => hX _ _ _ _ (by decide) (by decide) e)
  · intro s hs'
    obtain ⟨i, hi, rfl⟩ := List.getElem_of_mem hs'
    rw [List.getElem_set]
    by_cases hik : k = i
    · rw [if_pos hik]
      exact ⟨hp, ht, hl, p4, p5⟩
    · rw [if_neg hik]
      have hi' : i < rs.length := by simpa using hi
      have hap : Apart rs[i] r := by
        have hre : rs[k] = r := (List.getElem?_eq_some_iff.1 hr).2
        rcases Nat.lt_or_ge i k with hlt | hge
        · have := List.pairwise_iff_getElem.1 h5 i k hi' hkl hlt
          rw [hre] at this; exact this
        · have := List.pairwise_iff_getElem.1 h5 k i hkl hi' (by omega)
          rw [hre] at this; exact ⟨this.1.symm, this.2.symm⟩
      have hi4 := h4 rs[i] (List.getElem_mem hi')
      have hi5 := hi4
      obtain ⟨z1, ⟨y1, y2, y3, -⟩, -⟩ := hi4
      refine hi5.fr hF ?_ ?_ (fun b la ra p h l e => hX _ _ _ _ (by decide) (by decide) e) (fun b cur e => hX _ _ _ _ (by decide) (by decide) e)
      · rintro (e | e)
        · exact hap.1 e
        · rw [e] at z1; exact not_both z1 q3 (ty_ne (by decide))
      · rintro (e | e)
        · rw [e] at y3; exact not_both y3 p1 (ty_ne (by decide))
        · exact hap.2 e
  · refine List.pairwise_iff_getElem.2 fun i j hi hj hij => ?_
    have hi' : i < rs.length := by simpa using hi
    have hj' : j < rs.length := by simpa using hj
    have hre : rs[k] = r := (List.getElem?_eq_some_iff.1 hr).2
    have h0 := List.pairwise_iff_getElem.1 h5 i j hi' hj' hij
    rw [List.getElem_set, List.getElem_set]
    by_cases h1 : k = i
    · subst h1
      rw [if_pos rfl, if_neg (by omega)]
      rw [hre] at h0; exact h0
    · rw [if_neg h1]
      by_cases h2 : k = j
      · subst h2
        rw [if_pos rfl]
        rw [hre] at h0; exact h0
      · rw [if_neg h2]; exact h0

/-- One tree was made. -/
theorem INV.grown {w w' : World} {B wb c : Nat} {rs : List Rec} {vts vp vm vts' : Value} {hs : List Lst} {r : Rec} (h4 : ∀ r ∈ rs, RecAt w B r) (h5 : rs.Pairwise Apart)
    (h6 : w.ownsRow B 102 1 vp hs.length (hs.map Lst.v)) (h7 : hs.length = 4 * c) (h8 : Held w hs) (h9 : OwnI w B vm (marks c)) (hwb : w.heap[wb]? = some (worldB vts (c : Int) vp vm)) (h2 : B ≤ wb)
    (h3 : w.ownsRow B 117 1 vts rs.length (rs.map (fun r : Rec => Value.pointer (some ⟨r.sb, 0, none⟩))))
    (hF : Fr w w' (fun b => b = wb ∨ vts.ownBlock = some b)) (h1' : w'.heap[wb]? = some (worldB vts' (c : Int) vp vm))
    (h3' : w'.ownsRow B 117 1 vts' (rs.length + 1) (rs.map (fun r : Rec => Value.pointer (some ⟨r.sb, 0, none⟩)) ++ [Value.pointer (some ⟨r.sb, 0, none⟩)]))
    (hr : RecAt w' B r) (hn1 : w.heap.size ≤ r.sb) (hn2 : w.heap.size ≤ r.tb) : INV w' B wb (rs ++ [r]) c := by
  have hX : ∀ b (cur : Array Value) (t : TypeId) (f : Nat × Nat), t ≠ 71 → t ≠ 117 → w.heap[b]? = some (.cells cur t f) → ¬ (b = wb ∨ vts.ownBlock = some b) := by
    intro b cur t f e1 e2 hb hx
    rcases hx with rfl | hx
    · exact not_both hb hwb (ty_ne e1)
    · rcases h3.2 with ⟨rfl, -⟩ | ⟨g, cap, cur', rfl, -, hh, -⟩
      · cases hx
      · cases hx; exact not_both hb hh (ty_ne e2)
  refine ⟨vts', vp, vm, hs, h1', h2, by simpa using h3', ?_, ?_, ownsRow_fr h6 hF (fun g cur _ e => hX _ _ _ _ (by decide) (by decide) e), h7, h8.fr hF (fun b cur e => hX _ _ _ _ (by decide) (by decide) e), ownsRow_fr h9 hF (fun g cur _ e => hX _ _ _ _ (by decide) (by decide) e)⟩
  · intro s hs'
    rcases List.mem_append.1 hs' with hs' | hs'
    · have hi4 := h4 s hs'
      have hi5 := hi4
      obtain ⟨z1, ⟨y1, y2, y3, -⟩, -⟩ := hi4
      exact hi5.fr hF (hX _ _ _ _ (by decide) (by decide) z1) (hX _ _ _ _ (by decide) (by decide) y3) (fun b la ra p h l e => hX _ _ _ _ (by decide) (by decide) e) (fun b cur e => hX _ _ _ _ (by decide) (by decide) e)
    · simp at hs'; subst hs'; exact hr
  · rw [List.pairwise_append]
    refine ⟨h5, by simp, fun s hs' t ht => ?_⟩
    simp at ht
    subst ht
    obtain ⟨z1, ⟨y1, y2, y3, -⟩, -⟩ := h4 s hs'
    have e1 := lt_of_some z1
    have e2 := lt_of_some y3
    exact ⟨by omega, by omega⟩

end Go.Proofs.YtfplgfodoiiobaaGreatDoor
