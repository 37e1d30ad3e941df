/- The walk of a step on a tree: Insert. -/
import Derived.Test.YtfplgfodoiiobaaGreatDoorTreesO
namespace Go.Proofs.YtfplgfodoiiobaaGreatDoor
open Go.RowKit

/-- The world has grown since, and of what was there the block tb alone may have been written. -/
def Gt (tb : Nat) (w0 w : World) : Prop := w0.grownBy w (some tb)
theorem Gt.refl (tb : Nat) (w : World) : Gt tb w w := World.grownBy.refl _ _
theorem Gt.drew {tb : Nat} {w0 w : World} (h : Gt tb w0 w) : Gt tb w0 w.drew := ⟨h.os, h.tape, h.output, h.size, h.block⟩
theorem Gt.more {tb : Nat} {w0 w w' : World} (h : Gt tb w0 w) (h2 : w.grownBy w' (some tb)) : Gt tb w0 w' := grown_trans h h2
theorem Gt.cell {tb : Nat} {w0 w : World} (h : Gt tb w0 w) {a : Addr} {v : Value} (hc : w0.cell? a = some v) (hne : a.block ≠ tb) : w.cell? a = some v := World.grownBy.cell h hc (by simpa using hne)

theorem keepT4 {w0 w : World} {tb : Nat} {a b c d : Addr} {p q r s : Value} (h1 : w0.cell? a = some p) (h2 : w0.cell? b = some q) (h3 : w0.cell? c = some r) (h4 : w0.cell? d = some s) (n1 : a.block ≠ tb) (n2 : b.block ≠ tb) (n3 : c.block ≠ tb) (n4 : d.block ≠ tb)
    (h : Gt tb w0 w) : w.cell? a = some p ∧ w.cell? b = some q ∧ w.cell? c = some r ∧ w.cell? d = some s ∧ Gt tb w0 w := ⟨h.cell h1 n1, h.cell h2 n2, h.cell h3 n3, h.cell h4 n4, h⟩
theorem keepG4 {w0 w : World} {a b c d : Addr} {p q r s : Value} (h1 : w0.cell? a = some p) (h2 : w0.cell? b = some q) (h3 : w0.cell? c = some r) (h4 : w0.cell? d = some s)
    (h : Grew w0 w) : w.cell? a = some p ∧ w.cell? b = some q ∧ w.cell? c = some r ∧ w.cell? d = some s ∧ Grew w0 w := ⟨h.cell h1, h.cell h2, h.cell h3, h.cell h4, h⟩

theorem TreeAt.drew {w : World} {tb : Nat} {l : List (Int × Int)} (t : TreeAt w tb l) : TreeAt w.drew tb l := t.below ⟨rfl, rfl, rfl, Nat.le_refl _, fun _ _ => rfl⟩

theorem pair_set {w : World} {sb tb : Nat} {v v' : Value} (h : w.heap[sb]? = some (pairB tb v)) : (w.setCell ⟨sb, 1, none⟩ v').heap[sb]? = some (pairB tb v') := by
  rw [heap_setCell_same w sb 1 _ _ v' h]; rfl

/-- The end of a step that changes a tree. -/
theorem INV.changed {w wa wc wd : World} {B wb c i : Nat} {rs : List Rec} {sb tb ca ca' : Nat} {ao ao' : Option Addr} {l l' : List (Int × Int)} (h : INV w B wb rs c) (hr : rs[i]? = some (sb, tb, ao, ca, l))
    (ba : Below w.heap.size w wa) (g1 : Gt tb wa wc) (t1 : TreeAt wc tb l') (g2 : Grew wc wd) (r2 : RdT wd ao' l') : StepOk w (wd.setCell ⟨sb, 1, none⟩ (.slice ao' l'.length ca')) B wb rs c := by
  obtain ⟨p1, p2, p3, p4, p5⟩ := h.rec hr
  have p6 := p2
  obtain ⟨q1, q2, q3, -⟩ := p6
  have hlt := h.lt
  simp only [Rec.sb, Rec.tb, Rec.l, Rec.v] at p1 p2 p3 p4 p5 q3
  have hne : sb ≠ tb := fun e => by rw [e] at p1; exact not_both p1 q3 (ty_ne (by decide))
  have s0 := lt_of_some p1
  have t0 := lt_of_some q3
  have pa : wa.heap[sb]? = some (pairB tb (.slice ao l.length ca)) := (ba.block sb s0).trans p1
  have pc : wc.heap[sb]? = some (pairB tb (.slice ao l.length ca)) := grown_at g1 pa (by simpa using fun e => hne e.symm)
  have pd : wd.heap[sb]? = some (pairB tb (.slice ao l.length ca)) := (g2.block sb (lt_of_some pc)).trans pc
  have td := t1.below g2
  have hset := Fr.set wd ⟨sb, 1, none⟩ (.slice ao' l'.length ca')
  have hX : ∀ b (cur : Array Value) (t : TypeId) (f : Nat × Nat), t ≠ 119 → wd.heap[b]? = some (.cells cur t f) → ¬ (b = sb) := fun b cur t f e hb hx => by subst hx; exact not_both hb pd (ty_ne e)
  have tz := td
  obtain ⟨y1, y2, y3, -⟩ := tz
  have hF : Fr w (wd.setCell ⟨sb, 1, none⟩ (.slice ao' l'.length ca')) (fun b => b = sb ∨ b = tb) :=
    (Fr.of_below ba _).trans (((Fr.of_grown g1).mono (fun b e => Or.inr (by cases e; rfl))).trans ((Fr.of_below g2 _).trans (hset.mono (fun b e => Or.inl e))))
  have hK : Keep7 w (wd.setCell ⟨sb, 1, none⟩ (.slice ao' l'.length ca')) wb := by
    have hX0 : ∀ b (cur : Array Value) (t : TypeId) (f : Nat × Nat), t ≠ 119 → t ≠ 160 → w.heap[b]? = some (.cells cur t f) → ¬ (b = sb ∨ b = tb) := by
      intro b cur t f e1 e2 hb hx
      rcases hx with rfl | rfl
      · exact not_both hb p1 (ty_ne e1)
      · exact not_both hb q3 (ty_ne e2)
    exact ⟨fun b cur t f e1 e2 _ _ _ _ e => hF.at e (hX0 _ _ _ _ e1 e2 e), fun vts n vp vm e => (world_cells (hF.at e (hX0 _ _ _ _ (by decide) (by decide) e))).1⟩
  refine ⟨hK, ?_, _, c, INV.tree h hr (ca := ca') hF (pair_set pd) (td.fr hset (hX _ _ _ _ (by decide) y3) (fun b la ra p h l e => hX _ _ _ _ (by decide) e)) (r2.fr hset (fun b cur e => hX _ _ _ _ (by decide) e)), by simp, by omega⟩
  have b1 : Below B w wa := ⟨ba.os, ba.tape, ba.output, ba.size, fun b hb => ba.block b (by omega)⟩
  have b2 : Below B w wc := b1.grown g1 (by have := ba.size; omega) (fun k e => by cases e; exact p5)
  exact (below_grew b2 g2 (by have := lt_of_some pc; omega)).setCell (p := ⟨sb, 1, none⟩) p4 _

set_option maxRecDepth 100000 in
set_option maxHeartbeats 1000000 in
theorem grows2 {w : World} {B wb c i : Nat} {rs : List Rec} {r : Rec} (h : INV w B wb rs c) (hr : rs[i]? = some r) {a n m k : Int} {s : ByteArray} {fo : Option Addr} {fl fc : Nat} :
    Calls Tryz.prog 67 #[.pointer (some ⟨wb, 0, none⟩), .pointer (some ⟨r.sb, 0, none⟩), stepV 2 a n m k s fo fl fc] w fun e w' => e = .returned (.bool true) ∧ StepOk w w' B wb rs c := by
  obtain ⟨hp, ht, hrd, -, -⟩ := h.rec hr
  have htt := ht
  obtain ⟨q1, q2, q3, -⟩ := htt
  obtain ⟨sb, tb, ao, ca, l⟩ := r
  simp only [Rec.sb, Rec.tb, Rec.l, Rec.v] at hp ht hrd q3 ⊢
  obtain ⟨c0, c1, -⟩ := pair_cells hp
  have hlt := lt_of_some hp
  have hlt2 := lt_of_some q3
  have hne : w.heap.size ≠ sb := by omega
  have n1 : sb ≠ tb := fun e => by rw [e] at hp; exact not_both hp q3 (ty_ne (by decide))
  have n2 : w.heap.size ≠ tb := by omega
  have n3 : w.heap.size + 1 ≠ tb := by omega
  obtain ⟨hok, hlen⟩ := ht.ok
  have HPair : Hid (w.heap[sb]? = some (pairB tb (.slice ao l.length ca))) := hp
  clear hp q3
  unfold stepV
  go_enter Tryz.func67, Tryz.ntmps67
  go_upto_region 4 with fail
  have ba : Below w.heap.size w ((w.alloc (.cells #[.int .i64 2, .int .i64 a, .int .i64 n, .int .i64 m, .int .i64 k, .string s, .slice fo fl fc] 73)).alloc (.cells #[.int .i64 m, .int .i64 k] 114)) := b_trans (b_alloc _ _) (b_alloc _ _)
  have x2 : ((w.alloc (.cells #[.int .i64 2, .int .i64 a, .int .i64 n, .int .i64 m, .int .i64 k, .string s, .slice fo fl fc] 73)).alloc (.cells #[.int .i64 m, .int .i64 k] 114)).cell? ⟨w.heap.size, 2, none⟩ = some (.int .i64 n) := cell_later (b_alloc _ _) (by simp)
  have x3 : ((w.alloc (.cells #[.int .i64 2, .int .i64 a, .int .i64 n, .int .i64 m, .int .i64 k, .string s, .slice fo fl fc] 73)).alloc (.cells #[.int .i64 m, .int .i64 k] 114)).cell? ⟨w.heap.size + 1, 0, none⟩ = some (.int .i64 m) := by
    have := World.size_alloc w (.cells #[.int .i64 2, .int .i64 a, .int .i64 n, .int .i64 m, .int .i64 k, .string s, .slice fo fl fc] 73)
    rw [← this]; simp
  have x4 : ((w.alloc (.cells #[.int .i64 2, .int .i64 a, .int .i64 n, .int .i64 m, .int .i64 k, .string s, .slice fo fl fc] 73)).alloc (.cells #[.int .i64 m, .int .i64 k] 114)).cell? ⟨w.heap.size + 1, 1, none⟩ = some (.int .i64 k) := by
    have := World.size_alloc w (.cells #[.int .i64 2, .int .i64 a, .int .i64 n, .int .i64 m, .int .i64 k, .string s, .slice fo fl fc] 73)
    rw [← this]; simp
  have x0 := cell_later ba c0
  have x1 := cell_later ba c1
  have hta := ht.below ba
  have hra := hrd.fr (Fr.of_below ba (fun _ => False)) (fun _ _ _ => id)
  clear c0 c1
  generalize (w.alloc (.cells #[.int .i64 2, .int .i64 a, .int .i64 n, .int .i64 m, .int .i64 k, .string s, .slice fo fl fc] 73)).alloc (.cells #[.int .i64 m, .int .i64 k] 114) = wa at *
  go_cut [8] (fun e wc => e = .int .i64 (insR l n m k).2 ∧ TreeAt wc tb (insR l n m k).1 ∧ Gt tb wa wc)
  case first =>
    have ga := Gt.refl tb wa
    have htd := hta.drew
    clear ht hta x1 hrd hra ba
    go_region_held3 (fun w' => w'.cell? ⟨sb, 0, none⟩ = some (.pointer (some ⟨tb, 0, none⟩)) ∧ w'.cell? ⟨w.heap.size, 2, none⟩ = some (.int .i64 n) ∧ w'.cell? ⟨w.heap.size + 1, 0, none⟩ = some (.int .i64 m) ∧ w'.cell? ⟨w.heap.size + 1, 1, none⟩ = some (.int .i64 k) ∧ Gt tb wa w')
      (first | (refine keepT4 x0 x2 x3 x4 n1 n2 n3 n3 ?_; go_split_ands; first | assumption | (exact Gt.drew (by assumption)) | (exact Gt.more (by assumption) (by assumption))))
      (first | (go_at_call 63; refine (insert_all htd).mono ?_; rintro e w5 ⟨rfl, ht5, hg5⟩))
    all_goals go_wp2_with fail
    all_goals go_meet
    all_goals exact ⟨rfl, ht5, by go_split_ands; assumption⟩
  case rest =>
    obtain ⟨rfl, t1, g1⟩ := hcut
    rename World => wz
    have z1 := g1.cell x1 n1
    have z2 := g1.cell x2 n2
    have z3 := g1.cell x3 n3
    have z4 := g1.cell x4 n3
    have hrz : RdT wz ao l := hra.fr (Fr.of_grown g1) (fun b cur e hx => by
      cases hx
      obtain ⟨_, _, q5, -⟩ := hta
      exact not_both e q5 (ty_ne (by decide)))
    go_upto_region 5 with fail
    go_cut [9, 10] (fun v f wc => ∃ ao' ca', v = .slice ao' (insR l n m k).1.length ca' ∧ f = .int .i64 (insR l n m k).2 ∧ RdT wc ao' (insR l n m k).1 ∧ Grew wz wc)
    case first =>
      have ga := Grew.refl wz
      clear x0 x1 x2 x3 x4 ht hta t1 g1 hra hrd ba
      go_region_held3 (fun w' => w'.cell? ⟨sb, 1, none⟩ = some (.slice ao l.length ca) ∧ w'.cell? ⟨w.heap.size, 2, none⟩ = some (.int .i64 n) ∧ w'.cell? ⟨w.heap.size + 1, 0, none⟩ = some (.int .i64 m) ∧ w'.cell? ⟨w.heap.size + 1, 1, none⟩ = some (.int .i64 k) ∧ Grew wz w')
        (first | (refine keepG4 z1 z2 z3 z4 ?_; go_split_ands; first | assumption | (exact Grew.drew (by assumption)) | (exact Grew.more (by assumption) (by assumption))))
        (first | (go_at_call 100; refine (rinsert_all (l := l) (by go_split_ands; exact hrz.fr (Fr.of_below (by assumption) (fun _ => False)) (fun _ _ _ => id)) rfl hok hlen).mono ?_; rintro e w5 ⟨ao', ca', rfl, hr5, hb5⟩))
      all_goals go_wp2_with fail
      all_goals go_meet
      all_goals exact ⟨_, _, rfl, rfl, hr5, by go_split_ands; assumption⟩
    case rest =>
      obtain ⟨ao', ca', rfl, rfl, r2, g2⟩ := hcut
      have pa : wa.heap[sb]? = some (pairB tb (.slice ao l.length ca)) := (ba.block sb hlt).trans HPair.out
      have pc : wz.heap[sb]? = some (pairB tb (.slice ao l.length ca)) := grown_at g1 pa (by simpa using fun e => n1 e.symm)
      have pd := (g2.block sb (lt_of_some pc)).trans pc
      obtain ⟨v0, v1, vf⟩ := pair_cells pd
      have HEnd := h.changed (ca' := ca') hr ba g1 t1 g2 r2
      clear pa pc pd x0 x1 x2 x3 x4 z1 z2 z3 z4 HPair
      go_wp2_with fail
      refine num_any.mono ?_
      rintro e w9 ⟨rfl, rfl⟩
      go_wp2_with fail
      go_ret
      exact ⟨by simp, HEnd⟩

end Go.Proofs.YtfplgfodoiiobaaGreatDoor
