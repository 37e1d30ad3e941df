/- The walks of 'appendPieces' and 'list'. -/
import Derived.Test.YtfplgfodoiiobaaGreatDoorWalk8
import Derived.WalkSmall
namespace Go.Proofs.YtfplgfodoiiobaaGreatDoor
open Go.RowKit

theorem Tryz.infoPiece : (Tryz.prog.info? 114).map (fun i => (i.zero, i.size, i.bytes)) = some (some (.agg #[.int .i64 0, .int .i64 0]), 2, 16) := by kernel_rfl

/-- The cells of pieces in a slice. -/
def pcs (l : List (Int × Int)) : List Value := l.flatMap fun p => [.int .i64 p.1, .int .i64 p.2]
theorem pcs_append (a b : List (Int × Int)) : pcs (a ++ b) = pcs a ++ pcs b := by simp [pcs]
theorem pcs_cons (p : Int × Int) (b : List (Int × Int)) : pcs (p :: b) = .int .i64 p.1 :: .int .i64 p.2 :: pcs b := rfl
theorem pcs_length (a : List (Int × Int)) : (pcs a).length = a.length * 2 := by
  induction a with
  | nil => rfl
  | cons p a ih => rw [pcs_cons]; simp [ih]; omega

/-- A row of pieces is none of the nodes. -/
theorem T.grown {w w' : World} {g k cap : Nat} {xs : List Value} (hown : w.ownsRow g 114 2 (.slice (some ⟨g, 0, none⟩) k cap) k xs) (hg : w.grownBy w' (some g))
    {a : Option Addr} {h : Nat} {l : List (Int × Int)} (t : T w a h l) : T w' a h l := by
  refine T.keep (fun b la ra p h' l' e => ?_) t
  obtain ⟨-, hx⟩ := hown
  rcases hx with ⟨hv, -⟩ | ⟨g', cap', cur, hv, -, hh, -⟩
  · cases hv
  · cases hv
    have hlt : b < w.heap.size := by
      by_cases hlt : b < w.heap.size
      · exact hlt
      · rw [Array.getElem?_eq_none (by omega)] at e; cases e
    refine hg.block b hlt (fun he => ?_)
    cases he
    rw [hh] at e
    simp [nodeB] at e

theorem grown_trans {w w1 w2 : World} {g : Option Nat} (h1 : w.grownBy w1 g) (h2 : w1.grownBy w2 g) : w.grownBy w2 g :=
  ⟨h2.os.trans h1.os, h2.tape.trans h1.tape, h2.output.trans h1.output, Nat.le_trans h1.size h2.size, fun k hk hne => (h2.block k (Nat.lt_of_lt_of_le hk h1.size) hne).trans (h1.block k hk hne)⟩
theorem grown_alloc (w : World) (o : Obj) (g : Option Nat) : w.grownBy (w.alloc o) g :=
  ⟨rfl, rfl, rfl, by simp, fun k hk _ => Below.heap_alloc _ _ _ hk⟩
theorem grown_below {w w1 : World} {g : Nat} (h : w.grownBy w1 (some g)) (hg : w.heap.size ≤ g) : Below w.heap.size w w1 :=
  ⟨h.os, h.tape, h.output, h.size, fun k hk => h.block k hk (fun e => by cases e; omega)⟩

theorem grown_cell {w w1 : World} {g b o : Nat} {v : Value} (h : w.grownBy w1 (some g)) (hbg : b ≠ g) (hc : w.cell? ⟨b, o, none⟩ = some v) : w1.cell? ⟨b, o, none⟩ = some v :=
  (World.cell?_of_block (w := w) (h.block b (World.block_lt_of_cell? _ _ hc) (by simp; exact hbg))).trans hc

def AppSaid (n : Nat) : Prop := ∀ (w : World) (a : Option Addr) (h : Nat) (l : List (Int × Int)) (g k cap : Nat) (xs : List Value), h ≤ n → T w a h l →
    w.ownsRow g 114 2 (.slice (some ⟨g, 0, none⟩) k cap) k xs → k + l.length ≤ cap →
    Calls Tryz.prog 154 #[.slice (some ⟨g, 0, none⟩) k cap, .pointer a] w fun e w' =>
      e = .returned (.slice (some ⟨g, 0, none⟩) (k + l.length) cap) ∧ w'.ownsRow g 114 2 (.slice (some ⟨g, 0, none⟩) (k + l.length) cap) (k + l.length) (xs ++ pcs l) ∧ w.grownBy w' (some g)

theorem app_nil {w : World} {g k cap : Nat} {xs : List Value} (hown : w.ownsRow g 114 2 (.slice (some ⟨g, 0, none⟩) k cap) k xs) :
    Calls Tryz.prog 154 #[.slice (some ⟨g, 0, none⟩) k cap, .pointer none] w fun e w' =>
      e = .returned (.slice (some ⟨g, 0, none⟩) (k + 0) cap) ∧ w'.ownsRow g 114 2 (.slice (some ⟨g, 0, none⟩) (k + 0) cap) (k + 0) (xs ++ pcs []) ∧ w.grownBy w' (some g) := by
  go_enter Tryz.func154, Tryz.ntmps154
  go_wp2_with fail
  go_ret
  exact ⟨rfl, by simpa [pcs] using hown, World.grownBy.refl _ _⟩

set_option maxRecDepth 100000 in
set_option maxHeartbeats 1000000 in
theorem app_node {n : Nat} (ih : Hid (AppSaid n)) {w : World} {b : Nat} {la ra : Option Addr} {p : Int × Int} {h hl hr : Nat} {l ll lr : List (Int × Int)} {g k cap : Nat} {xs : List Value}
    (hb : w.heap[b]? = some (nodeB la ra p h l)) (tl : T w la hl ll) (tr : T w ra hr lr) (hn1 : hl ≤ n) (hn2 : hr ≤ n)
    (hown : w.ownsRow g 114 2 (.slice (some ⟨g, 0, none⟩) k cap) k xs) (hcap : k + ll.length + 1 + lr.length ≤ cap) :
    Calls Tryz.prog 154 #[.slice (some ⟨g, 0, none⟩) k cap, .pointer (some ⟨b, 0, none⟩)] w fun e w' =>
      e = .returned (.slice (some ⟨g, 0, none⟩) (k + ll.length + 1 + lr.length) cap) ∧ w'.ownsRow g 114 2 (.slice (some ⟨g, 0, none⟩) (k + ll.length + 1 + lr.length) cap) (k + ll.length + 1 + lr.length) (xs ++ pcs ll ++ [.int .i64 p.1, .int .i64 p.2] ++ pcs lr) ∧ w.grownBy w' (some g) := by
  obtain ⟨i0, hi, hz0, hz1, hz2⟩ := info_parts Tryz.infoPiece
  obtain ⟨c0, c1, c2, c3, -, -, -⟩ := node_cells hb
  have hlt := World.block_lt_of_cell? _ _ c0
  have hbg : b ≠ g := by
    intro e; subst e
    obtain ⟨-, hx⟩ := hown
    rcases hx with ⟨hv, -⟩ | ⟨g', cap', cur, hv, -, hh, -⟩
    · cases hv
    · cases hv; rw [hh] at hb; simp [nodeB] at hb
  clear hb
  obtain ⟨px, py⟩ := p
  go_enter Tryz.func154, Tryz.ntmps154
  go_wp2_with fail
  refine (ih.out _ la hl ll g k cap xs hn1 tl hown (by omega)).mono ?_
  rintro e w1 ⟨rfl, hown1, hg1⟩
  have far1 : ∀ o, w1.cell? ⟨b, o, none⟩ = w.cell? ⟨b, o, none⟩ := fun o => World.cell?_of_block (w := w) (hg1.block b hlt (by simp; exact hbg))
  have c1' := (far1 1).trans c1
  have c2' := (far1 2).trans c2
  have c3' := (far1 3).trans c3
  have hs1 := hg1.size
  have hlt1 : b < w1.heap.size := by omega
  clear c0 c1 c2 c3 far1
  go_wp2_with (at_builtin; go_must (refine wpList_append_fits _ rfl (.tmp 14) (.tmp 19) 102 rfl g 114 i0 2 Tryz.underlying102 hi hz1 g (k + ll.length) cap _ rfl (hown1.alloc _) ⟨w1.heap.size, 0, none⟩ 1 1 [.int .i64 px, .int .i64 py] rfl rfl (cell_two_new _ _ _ _) (by simp [Value.oneCell']) (by omega) ?_); intro w2 hown2 hg2; have d1 := grown_cell (grown_trans (grown_alloc w1 _ _) hg2) hbg c1')
  refine (ih.out _ ra hr lr g (k + ll.length + 1) cap _ hn2 (tr.grown hown (grown_trans hg1 (grown_trans (grown_alloc _ _ _) hg2))) hown2 (by omega)).mono ?_
  rintro e w3 ⟨rfl, hown3, hg3⟩
  go_wp2_with fail
  go_ret
  exact ⟨rfl, hown3, grown_trans hg1 (grown_trans (grown_alloc _ _ _) (grown_trans hg2 hg3))⟩

theorem app_said : ∀ n, AppSaid n := by
  intro n
  induction n with
  | zero =>
    intro w a h l g k cap xs hn t hown hcap
    have hl := t.zero.1.1 (by omega)
    have ha := t.zero.2.2 hl
    subst hl; subst ha
    exact app_nil hown
  | succ n ih =>
    intro w a h l g k cap xs hn t hown hcap
    rcases t.inv with ⟨rfl, rfl, rfl⟩ | ⟨b, la, ra, p, hl, hr, ll, lr, rfl, hb, tl, tr, E, rfl, e1, e2⟩
    · exact app_nil hown
    · have hlen : l.length = ll.length + (lr.length + 1) := by rw [E]; simp
      refine (app_node ih hb tl tr (by omega) (by omega) hown (by omega)).mono ?_
      rintro e w' ⟨rfl, hown', hg⟩
      have e1 : k + l.length = k + ll.length + 1 + lr.length := by omega
      have e2 : xs ++ pcs l = xs ++ pcs ll ++ [.int .i64 p.1, .int .i64 p.2] ++ pcs lr := by rw [E, pcs_append, pcs_cons]; simp
      rw [e1, e2]
      exact ⟨rfl, hown', hg⟩

set_option maxRecDepth 100000 in
set_option maxHeartbeats 1000000 in
theorem list_any {w : World} {a : Option Addr} {h : Nat} {l : List (Int × Int)} (t : T w a h l) (hlen : l.length ≤ 9000) :
    Calls Tryz.prog 97 #[.pointer a] w fun e w' =>
      ∃ g, e = .returned (.slice (some ⟨g, 0, none⟩) l.length l.length) ∧ w'.ownsRow g 114 2 (.slice (some ⟨g, 0, none⟩) l.length l.length) l.length (pcs l) ∧ w.heap.size ≤ g ∧ Below w.heap.size w w' := by
  obtain ⟨i0, hi, hz0, hz1, hz2⟩ := info_parts Tryz.infoPiece
  go_enter Tryz.func97, Tryz.ntmps97
  go_wp2_with fail
  refine (pieces_any t).mono ?_
  rintro e w ⟨rfl, rfl⟩
  go_wp2_with (at_make; go_must (refine wpList_make_own _ rfl _ _ 102 rfl w.heap.size 114 i0 _ 2 Tryz.underlying102 hi hz0 hz1 .i64 .i64 _ l.length rfl rfl rfl (by rw [hz2]; omega) (by unfold maxLen; omega) (Nat.le_refl _) ?_); intro w1 hown1 hg1)
  refine (app_said h _ a h l w.heap.size 0 l.length [] (Nat.le_refl _) (t.below ⟨hg1.os, hg1.tape, hg1.output, hg1.size, fun k hk => hg1.block k hk (by simp)⟩) hown1 (by omega)).mono ?_
  rintro e w2 ⟨rfl, hown2, hg2⟩
  go_wp2_with fail
  go_ret
  simp only [Nat.zero_add, List.nil_append] at hown2 ⊢
  refine ⟨w.heap.size, rfl, hown2, Nat.le_refl _, ?_⟩
  exact ⟨hg2.os.trans hg1.os, hg2.tape.trans hg1.tape, hg2.output.trans hg1.output, Nat.le_trans hg1.size hg2.size, fun k hk => (hg2.block k (Nat.lt_of_lt_of_le hk hg1.size) (by simp; omega)).trans (hg1.block k hk (by simp))⟩

end Go.Proofs.YtfplgfodoiiobaaGreatDoor
