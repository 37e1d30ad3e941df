/- The walk of a step on a tree: Pieces and Find. -/
import Derived.Test.YtfplgfodoiiobaaGreatDoorTreesN
namespace Go.Proofs.YtfplgfodoiiobaaGreatDoor
open Go.RowKit

set_option maxRecDepth 100000 in
set_option maxHeartbeats 1000000 in
theorem grows5 {w : World} {B wb c i : Nat} {rs : List Rec} {r : Rec} (h : INV w B wb rs c) (hc : c ≤ 2000000) (hr : rs[i]? = some r) {a n m k : Int} {s : ByteArray} {fo : Option Addr} {fl fc : Nat} :
    Calls Tryz.prog 67 #[.pointer (some ⟨wb, 0, none⟩), .pointer (some ⟨r.sb, 0, none⟩), stepV 5 a n m k s fo fl fc] w fun e w' => e = .returned (.bool true) ∧ StepOk w w' B wb rs c := by
  have hrec := h.rec hr
  have hlt := h.lt
  obtain ⟨vts, vp, vm, hs, h1, h2, h3, h4, h5, h6, h7, h8, h9⟩ := h
  obtain ⟨hp, ht, hrd, -, -⟩ := hrec
  obtain ⟨sb, tb, ao, ca, l⟩ := r
  simp only [Rec.sb, Rec.tb, Rec.l, Rec.v] at hp ht hrd ⊢
  obtain ⟨c0, c1, -⟩ := pair_cells hp
  have hlt' := lt_of_some hp
  have hne : w.heap.size ≠ sb := by omega
  obtain ⟨hok, hlen⟩ := ht.ok
  have HPair : Hid (w.heap[sb]? = some (pairB tb (.slice ao l.length ca))) := hp
  have HH : Hid (w.heap[wb]? = some (worldB vts (c : Int) vp vm)) := h1
  clear hp h1
  unfold stepV
  go_enter Tryz.func67, Tryz.ntmps67
  go_wp2_with fail
  refine (piecesM_any (ht.below (b_alloc _ _))).mono ?_
  rintro e w1 ⟨g, rfl, hown, hg, hb1⟩
  have B1 : Below w.heap.size w w1 := b_trans (b_alloc _ _) hb1
  have c1' := cell_later B1 c1
  have hrd1 := hrd.1.below B1
  simp only [World.size_alloc] at hg
  go_wp2_with fail
  refine (same_any (RdP.own hown) hrd1 rfl rfl (by omega)).mono ?_
  rintro e w2 ⟨rfl, nd, rfl⟩
  have B2 : Below w.heap.size w (w1.drewN nd) := b_drewN B1 nd
  have hF2 := Fr.of_below B2 (fun _ => False)
  go_wp2_with fail
  refine (own_any (hs := hs) (l := l) (hF2.at HH.out id) h2 (ownsRow_fr h6 hF2 (fun _ _ _ _ => id)) h7 (ownsRow_fr h9 hF2 (fun _ _ _ _ => id)) (OwnP.weak (B' := g) hown (by omega)) hc (by omega)).mono ?_
  rintro e w3 ⟨rfl, hD⟩
  go_wp2_with fail
  go_ret
  refine ⟨rfl, ?_⟩
  have hgt : ∀ a, (some (⟨g, 0, none⟩ : Addr)) = some a → ∃ cur, (w1.drewN nd).heap[a.block]? = some (.cells cur 114 (0, 0)) := fun a e => by
    obtain ⟨cur, hc', -⟩ := OwnP.typed (l := l) hown a e
    exact ⟨cur, hc'⟩
  exact INV.own (r := (sb, tb, ao, ca, l)) (l := l) HH.out h2 h3 h4 h5 h6 h7 h8 h9 hr (Fr.of_below B2 _) ⟨B2.os, B2.tape, B2.output, B2.size, fun b hb => B2.block b (by omega)⟩ (hF2.at HPair.out id) (ht.below B2) (hrd.fr hF2 (fun _ _ _ => id))
    (fun a e => by cases e; simpa using by omega) hgt (fun a ha g' hg' => by
      cases hg'
      obtain ⟨cur, hc'⟩ := hrd.2 a ha
      have := lt_of_some hc'
      simp only
      omega) hD

theorem new_cells {w w5 : World} {x y : Value} {t : TypeId} (hb : Below (w.alloc (.cells #[x, y] t)).heap.size (w.alloc (.cells #[x, y] t)) w5) :
    w5.cell? ⟨w.heap.size, 0, none⟩ = some x ∧ w5.cell? ⟨w.heap.size, 1, none⟩ = some y ∧ w5.frozen? ⟨w.heap.size, 0, none⟩ = false ∧ w5.frozen? ⟨w.heap.size, 1, none⟩ = false :=
  ⟨(hb.cell (by simp)).trans (by simp), (hb.cell (by simp)).trans (by simp), (hb.frozen (by simp)).trans (by simp), (hb.frozen (by simp)).trans (by simp)⟩

theorem new_cells_elim {w w5 : World} {x y : Value} {t : TypeId} {P : Prop} (hb : Below (w.alloc (.cells #[x, y] t)).heap.size (w.alloc (.cells #[x, y] t)) w5)
    (h : w5.cell? ⟨w.heap.size, 0, none⟩ = some x → w5.cell? ⟨w.heap.size, 1, none⟩ = some y → w5.frozen? ⟨w.heap.size, 0, none⟩ = false → w5.frozen? ⟨w.heap.size, 1, none⟩ = false → P) : P := by
  obtain ⟨h1, h2, h3, h4⟩ := new_cells hb
  exact h h1 h2 h3 h4

theorem new_cells_drew {w w5 : World} {x y : Value} {t : TypeId} {P : Prop} (hb : Below (w.alloc (.cells #[x, y] t)).drew.heap.size (w.alloc (.cells #[x, y] t)).drew w5)
    (h : w5.cell? ⟨w.heap.size, 0, none⟩ = some x → w5.cell? ⟨w.heap.size, 1, none⟩ = some y → w5.frozen? ⟨w.heap.size, 0, none⟩ = false → w5.frozen? ⟨w.heap.size, 1, none⟩ = false → P) : P :=
  new_cells_elim (w := w) (t := t) ⟨hb.os, hb.tape, hb.output, hb.size, hb.block⟩ h

theorem set2_cells {w : World} {g : Nat} {u v x y : Value} (h1 : w.cell? ⟨g, 0, none⟩ = some u) (h2 : w.cell? ⟨g, 1, none⟩ = some v) :
    ((w.setCell ⟨g, 0, none⟩ x).setCell ⟨g, 1, none⟩ y).cell? ⟨g, 0, none⟩ = some x ∧ ((w.setCell ⟨g, 0, none⟩ x).setCell ⟨g, 1, none⟩ y).cell? ⟨g, 1, none⟩ = some y := by
  have e1 : (⟨g, 1, none⟩ : Addr) ≠ ⟨g, 0, none⟩ := by simp
  have e2 : (⟨g, 0, none⟩ : Addr) ≠ ⟨g, 1, none⟩ := by simp
  refine ⟨?_, ?_⟩
  · rw [World.cell?_setCell_other _ _ _ _ e1]
    exact World.cell?_setCell_same _ _ _ h1
  · refine World.cell?_setCell_same _ _ _ (u := v) ?_
    rw [World.cell?_setCell_other _ _ _ _ e2]
    exact h2

theorem keepG {w0 w : World} {a b : Addr} {u v : Value} (h1 : w0.cell? a = some u) (h2 : w0.cell? b = some v) (h : Grew w0 w) : w.cell? a = some u ∧ w.cell? b = some v ∧ Grew w0 w := ⟨h.cell h1, h.cell h2, h⟩

theorem Grew.set {w0 w : World} (h : Grew w0 w) {a : Addr} (ha : w0.heap.size ≤ a.block) (v : Value) : Grew w0 (w.setCell a v) := Below.setCell h ha v

set_option maxRecDepth 100000 in
set_option maxHeartbeats 1000000 in
theorem grows4 {w : World} {B wb c i : Nat} {rs : List Rec} {r : Rec} (h : INV w B wb rs c) (hr : rs[i]? = some r) {a n m k : Int} {s : ByteArray} {fo : Option Addr} {fl fc : Nat} :
    Calls Tryz.prog 67 #[.pointer (some ⟨wb, 0, none⟩), .pointer (some ⟨r.sb, 0, none⟩), stepV 4 a n m k s fo fl fc] w fun e w' => e = .returned (.bool true) ∧ StepOk w w' B wb rs c := by
  obtain ⟨hp, ht, hrd, -, -⟩ := h.rec hr
  obtain ⟨sb, tb, ao, ca, l⟩ := r
  simp only [Rec.sb, Rec.tb, Rec.l, Rec.v] at hp ht hrd ⊢
  obtain ⟨c0, c1, -⟩ := pair_cells hp
  have hlt := lt_of_some hp
  have hne : w.heap.size ≠ sb := by omega
  obtain ⟨hok, hlen⟩ := ht.ok
  clear hp
  unfold stepV
  go_enter Tryz.func67, Tryz.ntmps67
  go_upto_region 16 with fail
  have ba : Below w.heap.size w (w.alloc (.cells #[.int .i64 4, .int .i64 a, .int .i64 n, .int .i64 m, .int .i64 k, .string s, .slice fo fl fc] 73)) := b_alloc _ _
  have x2 : (w.alloc (.cells #[.int .i64 4, .int .i64 a, .int .i64 n, .int .i64 m, .int .i64 k, .string s, .slice fo fl fc] 73)).cell? ⟨w.heap.size, 2, none⟩ = some (.int .i64 n) := by simp
  have x0 := cell_later ba c0
  have x1 := cell_later ba c1
  have hta := ht.below ba
  have hra := hrd.1.below ba
  have hsz : w.heap.size < (w.alloc (.cells #[.int .i64 4, .int .i64 a, .int .i64 n, .int .i64 m, .int .i64 k, .string s, .slice fo fl fc] 73)).heap.size := by simp
  clear c0 c1
  generalize w.alloc (.cells #[.int .i64 4, .int .i64 a, .int .i64 n, .int .i64 m, .int .i64 k, .string s, .slice fo fl fc] 73) = wa at *
  go_cut [17, 18] (fun p e wc => ∃ pb, p = .pointer (some ⟨pb, 0, none⟩) ∧ e = .int .i64 (findR l n).2 ∧ wc.cell? ⟨pb, 0, none⟩ = some (.int .i64 (findR l n).1.1) ∧ wc.cell? ⟨pb, 1, none⟩ = some (.int .i64 (findR l n).1.2) ∧ Grew wa wc)
  case first =>
    have ga := Grew.refl wa
    go_region_held3 (fun w' => w'.cell? ⟨sb, 0, none⟩ = some (.pointer (some ⟨tb, 0, none⟩)) ∧ w'.cell? ⟨w.heap.size, 2, none⟩ = some (.int .i64 n) ∧ Grew wa w')
      (first | (refine keepG x0 x2 ?_; go_split_ands; first | assumption | (exact Grew.drew (by assumption)) | (exact Grew.more (by assumption) (by assumption)) | (exact Grew.alloc (by assumption) _) | (exact Grew.alloc hG5 _) | (exact Grew.set (Grew.set hG5 (Nat.le_refl _) _) (Nat.le_refl _) _)))
      (first | (go_at_call 104; refine (find_all (by go_split_ands; exact hta.below (by assumption))).mono ?_; rintro e w5 ⟨rfl, hb5⟩; have hG5 : Grew wa w5 := Grew.more (by go_split_ands; assumption) hb5; first | (refine new_cells_elim hb5 ?_; intro y0 y1 y2 y3) | (refine new_cells_drew hb5 ?_; intro y0 y1 y2 y3) | skip))
    all_goals go_wp2_with fail
    all_goals go_meet
    all_goals refine ⟨_, rfl, rfl, ?_, ?_, by go_split_ands; assumption⟩ <;> first | (simp; done) | (exact (set2_cells y0 y1).1) | (exact (set2_cells y0 y1).2)
  case rest =>
    obtain ⟨pb, rfl, rfl, p0, p1, G1⟩ := hcut
    rename World => wz
    have z1 := G1.cell x1
    have z2 := G1.cell x2
    have hrz := hra.below G1
    go_upto_region 17 with fail
    go_cut [19, 20] (fun p e wc => ∃ qb, p = .pointer (some ⟨qb, 0, none⟩) ∧ e = .int .i64 (findR l n).2 ∧ wc.cell? ⟨qb, 0, none⟩ = some (.int .i64 (findR l n).1.1) ∧ wc.cell? ⟨qb, 1, none⟩ = some (.int .i64 (findR l n).1.2) ∧ Grew wz wc)
    case first =>
      have ga := Grew.refl wz
      clear x0 x1 x2 p0 p1
      go_region_held3 (fun w' => w'.cell? ⟨sb, 1, none⟩ = some (.slice ao l.length ca) ∧ w'.cell? ⟨w.heap.size, 2, none⟩ = some (.int .i64 n) ∧ Grew wz w')
        (first | (refine keepG z1 z2 ?_; go_split_ands; first | assumption | (exact Grew.drew (by assumption)) | (exact Grew.more (by assumption) (by assumption)) | (exact Grew.alloc (by assumption) _) | (exact Grew.alloc hG5 _) | (exact Grew.set (Grew.set hG5 (Nat.le_refl _) _) (Nat.le_refl _) _)))
        (first | (go_at_call 105; refine (rfind_all (l := l) (by go_split_ands; exact hrz.below (by assumption)) rfl hok hlen).mono ?_; rintro e w5 ⟨rfl, hb5⟩; have hG5 : Grew wz w5 := Grew.more (by go_split_ands; assumption) hb5; first | (refine new_cells_elim hb5 ?_; intro y0 y1 y2 y3) | (refine new_cells_drew hb5 ?_; intro y0 y1 y2 y3) | skip))
      all_goals go_wp2_with fail
      all_goals go_meet
      all_goals refine ⟨_, rfl, rfl, ?_, ?_, by go_split_ands; assumption⟩ <;> first | (simp; done) | (exact (set2_cells y0 y1).1) | (exact (set2_cells y0 y1).2)
    case rest =>
      obtain ⟨qb, rfl, rfl, q0, q1, G2⟩ := hcut
      have p0' := G2.cell p0
      have p1' := G2.cell p1
      clear p0 p1
      go_wp2_with fail
      refine num_any.mono ?_
      rintro e w9 ⟨rfl, rfl⟩
      go_wp2_with fail
      go_ret
      refine ⟨by simp, StepOk.quiet h (b_trans ba (b_trans G1 G2))⟩

end Go.Proofs.YtfplgfodoiiobaaGreatDoor
