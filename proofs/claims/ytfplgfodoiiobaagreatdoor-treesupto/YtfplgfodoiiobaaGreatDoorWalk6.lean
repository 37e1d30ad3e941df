/- The walks of 'cut', 'takeFirst', 'concat'. -/
import Derived.Test.YtfplgfodoiiobaaGreatDoorWalk5
namespace Go.Proofs.YtfplgfodoiiobaaGreatDoor
open Go.RowKit

set_option maxHeartbeats 1000000 in
theorem cut_any {w : World} (x y n : Int) (hx : okP (x, y)) (h1 : 0 ≤ n) (h2 : n ≤ y) :
    Calls Tryz.prog 149 #[.agg #[.int .i64 x, .int .i64 y], .int .i64 n] w fun e w' =>
      e = .returned (.tuple #[.agg #[.int .i64 x, .int .i64 n], .agg #[.int .i64 (x + n), .int .i64 (y - n)]]) ∧ Below w.heap.size w w' := by
  unfold okP at hx
  simp only at hx
  go_enter Tryz.func149, Tryz.ntmps149
  go_wp2_with fail
  go_region_held3 (fun w' => w'.cell? ⟨w.heap.size, 0, none⟩ = some (.int .i64 x) ∧ w'.cell? ⟨w.heap.size, 1, none⟩ = some (.int .i64 y)) (go_keep) (fail)
  all_goals go_wp2_with fail
  all_goals
    refine bodyPost_ret (v := .tuple #[.agg #[.int .i64 x, .int .i64 n], .agg #[.int .i64 (IntKind.i64.wrap (x + n)), .int .i64 (IntKind.i64.wrap (y - n))]]) (by simp [results, Tryz.results149, go_sem]) rfl ⟨?_, ?_⟩
    · rw [wI (by omega) (by omega), wI (by omega) (by omega)]
    · exact ((((Below.refl _ w).alloc (Nat.le_refl _) _).alloc (by simp) _).alloc (by simp; omega) _).drew

theorem later_frozen {w w2 : World} {a : Addr} (hb : Below w.heap.size w w2) (hlt : a.block < w.heap.size) (h : w.frozen? a = false) : w2.frozen? a = false := (hb.frozen hlt).trans h

theorem keep_store {w : World} {b c o i : Nat} {v u : Value} (hne : b ≠ c) (h : w.cell? ⟨b, o, none⟩ = some v) : (w.setCell ⟨c, i, none⟩ u).cell? ⟨b, o, none⟩ = some v := by
  rw [World.cell?_setCell_other _ _ _ _ (fun e => hne (congrArg Addr.block e).symm)]; exact h

theorem T.setOff {w : World} {c i : Nat} {u : Value} (hc : w.cell? ⟨c, 6, none⟩ = none) {a : Option Addr} {h : Nat} {l : List (Int × Int)} (t : T w a h l) : T (w.setCell ⟨c, i, none⟩ u) a h l := by
  refine T.keep (fun b la ra p h' l' e => ?_) t
  refine Below.heap_setCell _ _ _ _ (fun hbc => ?_)
  subst hbc
  obtain ⟨-, -, -, -, -, -, c6⟩ := node_cells e
  rw [hc] at c6; cases c6

def TakeSaid (n : Nat) : Prop := ∀ (w : World) (a : Option Addr) (h : Nat) (l : List (Int × Int)), h ≤ n → l ≠ [] → T w a h l → l.length ≤ 9000 → okL l →
    Calls Tryz.prog 220 #[.pointer a] w fun e w' =>
      ∃ px py l' r h', l = (px, py) :: l' ∧ e = .returned (.tuple #[.agg #[.int .i64 px, .int .i64 py], .pointer r]) ∧ T w' r h' l' ∧ Below w.heap.size w w'

set_option maxHeartbeats 1000000 in
theorem take_none {w : World} {b : Nat} {ra : Option Addr} {p : Int × Int} {h hr : Nat} {l lr : List (Int × Int)} (hb : w.heap[b]? = some (nodeB none ra p h l)) (tr : T w ra hr lr) :
    Calls Tryz.prog 220 #[.pointer (some ⟨b, 0, none⟩)] w fun e w' =>
      ∃ h', e = .returned (.tuple #[.agg #[.int .i64 p.1, .int .i64 p.2], .pointer ra]) ∧ T w' ra h' lr ∧ Below w.heap.size w w' := by
  obtain ⟨c0, c1, c2, c3, -, -, -⟩ := node_cells hb
  have hlt := World.block_lt_of_cell? _ _ c0
  clear hb
  obtain ⟨px, py⟩ := p
  go_enter Tryz.func220, Tryz.ntmps220
  go_wp2_with fail
  go_region_held3 (fun w' => w'.cell? ⟨b, 1, none⟩ = some (.pointer ra) ∧ w'.cell? ⟨b, 2, none⟩ = some (.int .i64 px) ∧ w'.cell? ⟨b, 3, none⟩ = some (.int .i64 py)) (go_keep) (fail)
  all_goals go_wp2_with fail
  all_goals exact bodyPost_ret (v := .tuple #[.agg #[.int .i64 px, .int .i64 py], .pointer ra]) (by simp [results, Tryz.results220, go_sem]) rfl ⟨hr, rfl, tr.below (b_alloc_drew _ _), b_alloc_drew _ _⟩

set_option maxHeartbeats 1000000 in
theorem take_some {n : Nat} (ih : Hid (TakeSaid n)) {w : World} {b : Nat} {la ra : Option Addr} {p : Int × Int} {h hl hr : Nat} {l ll lr : List (Int × Int)} (hb : w.heap[b]? = some (nodeB la ra p h l))
    (tl : T w la hl ll) (tr : T w ra hr lr) (hne : ll ≠ []) (hn : hl ≤ n) (hlen : ll.length + lr.length + 1 ≤ 9000) (okl : okL ll) (okr : okL lr) (okp : okP p) :
    Calls Tryz.prog 220 #[.pointer (some ⟨b, 0, none⟩)] w fun e w' =>
      ∃ px py l' r h', ll = (px, py) :: l' ∧ e = .returned (.tuple #[.agg #[.int .i64 px, .int .i64 py], .pointer r]) ∧ T w' r h' (l' ++ p :: lr) ∧ Below w.heap.size w w' := by
  obtain ⟨c0, c1, c2, c3, -, -, -⟩ := node_cells hb
  have hlt := World.block_lt_of_cell? _ _ c0
  clear hb
  obtain ⟨px, py⟩ := p
  rcases tl.inv with ⟨rfl, rfl, rfl⟩ | ⟨b2, -, -, -, -, -, -, -, rfl, -⟩
  · exact absurd rfl hne
  go_enter Tryz.func220, Tryz.ntmps220
  go_wp2_with fail
  refine (ih.out _ _ hl ll hn hne (tl.below (b_alloc _ _)) (by omega) okl).mono ?_
  rintro e w1 ⟨qx, qy, l', r, h', E, rfl, t1, hb1⟩
  have HE : Hid (ll = (qx, qy) :: l') := E
  have hl' : l'.length + 1 = ll.length := by rw [E]; rfl
  have ok' : okL l' := by rw [E] at okl; exact okL_tail okl
  clear E
  have hs1 := hb1.size
  simp only [World.size_alloc] at hs1
  have k0 : w1.cell? ⟨w.heap.size, 0, none⟩ = some (.int .i64 0) := (hb1.cell (by simp)).trans (by simp)
  have k1 : w1.cell? ⟨w.heap.size, 1, none⟩ = some (.int .i64 0) := (hb1.cell (by simp)).trans (by simp)
  have f0 : w1.frozen? ⟨w.heap.size, 0, none⟩ = false := (hb1.frozen (by simp)).trans (by simp)
  have f1 : w1.frozen? ⟨w.heap.size, 1, none⟩ = false := (hb1.frozen (by simp)).trans (by simp)
  have z6 : (w1.alloc (.cells #[.int .i64 qx, .int .i64 qy] 114)).drew.cell? ⟨w.heap.size, 6, none⟩ = none := ((b_alloc_drew w1 _).cell (by simp; omega)).trans ((hb1.cell (by simp)).trans (by simp))
  have HB : Below w.heap.size w w1 := b_trans (b_alloc _ _) hb1
  have c1' := below_cells HB c1
  have c2' := below_cells HB c2
  have c3' := below_cells HB c3
  clear c0 c1 c2 c3 hb1
  have hlt1 : w.heap.size < w1.heap.size := by omega
  have hlt2 : b < w1.heap.size := by omega
  have hne1 : b ≠ w.heap.size := by omega
  have hne2 : w1.heap.size ≠ w.heap.size := by omega
  go_wp2_with fail
  go_region_held3 (fun w' => w'.cell? ⟨w1.heap.size, 0, none⟩ = some (.int .i64 qx) ∧ w'.cell? ⟨w1.heap.size, 1, none⟩ = some (.int .i64 qy)
        ∧ w'.cell? ⟨b, 1, none⟩ = some (.pointer ra) ∧ w'.cell? ⟨b, 2, none⟩ = some (.int .i64 px) ∧ w'.cell? ⟨b, 3, none⟩ = some (.int .i64 py))
      (first | (go_split_ands; refine ⟨?_, ?_, ?_, ?_, ?_⟩ <;> (repeat refine keep_store (by omega) ?_) <;> assumption) | go_keep | (go_split_ands; refine ⟨?_, ?_, ?_, ?_, ?_⟩ <;> (refine below_cells (by assumption) ?_; assumption)))
      (first
        | (go_at_call_of 96 (Value.pointer r); refine (join_any px py (t1.below (b_alloc_drew _ _)) (tr.below (b_trans HB (b_alloc_drew _ _))) (by omega) ok' okr okp).mono ?_; rintro e w2 ⟨q, hq, rfl, tq, hb2⟩; have m0 := cell_later (b_trans (b_alloc_drew w1 _) hb2) k0; have m1 := cell_later (b_trans (b_alloc_drew w1 _) hb2) k1; have g0 := later_frozen (b_trans (b_alloc_drew w1 _) hb2) hlt1 f0; have g1 := later_frozen (b_trans (b_alloc_drew w1 _) hb2) hlt1 f1))
  all_goals go_wp2_with fail
  all_goals
    refine bodyPost_ret (v := .tuple #[.agg #[.int .i64 qx, .int .i64 qy], .pointer q]) (by simp [results, Tryz.results220, go_sem, m0, m1]) rfl ⟨qx, qy, l', q, hq, HE.out, rfl, ?_, ?_⟩
    · have z0 : w2.cell? ⟨w.heap.size, 6, none⟩ = none := (hb2.cell (by simp; omega)).trans z6
      refine T.setOff ?_ (T.setOff z0 tq)
      rw [World.cell?_setCell_other _ _ _ _ (by simp)]; exact z0
    · exact ((b_trans HB (b_trans (b_alloc_drew _ _) hb2)).setCell (Nat.le_refl _) _).setCell (Nat.le_refl _) _

theorem take_said : ∀ n, TakeSaid n := by
  intro n
  induction n with
  | zero =>
    intro w a h l hn hne t hlen ok
    exact absurd (t.zero.1.1 (by omega)) hne
  | succ n ih =>
    intro w a h l hn hne t hlen ok
    rcases t.inv with ⟨rfl, rfl, rfl⟩ | ⟨b, la, ra, p, hl, hr, ll, lr, rfl, hb, tl, tr, rfl, rfl, e1, e2⟩
    · exact absurd rfl hne
    · by_cases hll : ll = []
      · subst hll
        have : la = none := tl.zero.2.2 rfl
        subst this
        refine (take_none hb tr).mono ?_
        rintro e w' ⟨h', rfl, t', hB⟩
        exact ⟨p.1, p.2, lr, ra, h', rfl, rfl, t', hB⟩
      · simp only [List.length_append, List.length_cons] at hlen
        refine (take_some ih hb tl tr hll (by omega) (by omega) (okL_left ok) (okL_tail (okL_right ok)) (okL_head (okL_right ok))).mono ?_
        rintro e w' ⟨px, py, l', r, h', rfl, rfl, t', hB⟩
        exact ⟨px, py, _, r, h', rfl, rfl, t', hB⟩

set_option maxHeartbeats 1000000 in
theorem concat_any {w : World} {la ra : Option Addr} {hl hr : Nat} {ll lr : List (Int × Int)}
    (tl : T w la hl ll) (tr : T w ra hr lr) (hlen : ll.length + lr.length ≤ 9000) (okl : okL ll) (okr : okL lr) :
    Calls Tryz.prog 156 #[.pointer la, .pointer ra] w fun e w' =>
      ∃ a h, e = .returned (.pointer a) ∧ T w' a h (ll ++ lr) ∧ Below w.heap.size w w' := by
  rcases tr.inv with ⟨rfl, rfl, rfl⟩ | ⟨b, -, -, -, -, -, -, -, rfl, -⟩
  · go_enter Tryz.func156, Tryz.ntmps156
    go_wp2_with fail
    go_ret
    exact ⟨la, hl, rfl, by simpa using tl, Below.refl _ _⟩
  · have hne : lr ≠ [] := fun e => by have := tr.zero.2.2 e; cases this
    go_enter Tryz.func156, Tryz.ntmps156
    go_wp2_with fail
    refine (take_said hr _ _ hr lr (Nat.le_refl _) hne tr (by omega) okr).mono ?_
    rintro e w1 ⟨px, py, l', r, h', E, rfl, t1, hb1⟩
    have HE : Hid (lr = (px, py) :: l') := E
    have hl' : l'.length + 1 = lr.length := by rw [E]; rfl
    have ok' : okL l' := by rw [E] at okr; exact okL_tail okr
    have okp : okP (px, py) := by rw [E] at okr; exact okL_head okr
    clear E
    go_wp2_with fail
    refine (join_any px py (tl.below (b_trans hb1 (b_alloc _ _))) (t1.below (b_alloc _ _)) (by omega) okl ok' okp).mono ?_
    rintro e w2 ⟨q, hq, rfl, tq, hb2⟩
    go_wp2_with fail
    go_ret
    exact ⟨q, hq, rfl, by rw [HE.out]; exact tq, b_trans hb1 (b_trans (b_alloc _ _) hb2)⟩

end Go.Proofs.YtfplgfodoiiobaaGreatDoor
