/- The walks of 'turnRight', 'turnLeft', each in its two ways. -/
import Derived.Test.YtfplgfodoiiobaaGreatDoorWalk2
namespace Go.Proofs.YtfplgfodoiiobaaGreatDoor
open Go.RowKit

theorem b_alloc (w : World) (o : Obj) : Below w.heap.size w (w.alloc o) := (Below.refl _ w).alloc (Nat.le_refl _) _
theorem b_alloc_drew (w : World) (o : Obj) : Below w.heap.size w (w.alloc o).drew := ((Below.refl _ w).alloc (Nat.le_refl _) _).drew
theorem b_trans {w w1 w2 : World} (h1 : Below w.heap.size w w1) (h2 : Below w1.heap.size w1 w2) : Below w.heap.size w w2 := h1.trans (h2.mono h1.size)

set_option maxHeartbeats 1000000 in
theorem turnRight1 {w : World} {a1 a2 ra : Option Addr} {b h1 h2 h hr : Nat} {L1 L2 lr ll : List (Int × Int)} (p : Int × Int) (x y : Int)
    (hb : w.heap[b]? = some (nodeB a1 a2 p h ll)) (t1 : T w a1 h1 L1) (t2 : T w a2 h2 L2) (tr : T w ra hr lr)
    (e1 : h2 ≤ h1) (e2 : h1 ≤ h2 + 1) (e3 : h1 = hr + 1) (hlen : L1.length + L2.length + lr.length ≤ 90000) (hh : h1 ≤ 90000) (ok1 : okL L1) (ok2 : okL L2) (okr : okL lr) (okp : okP p) (okx : okP (x, y)) :
    Calls Tryz.prog 218 #[.pointer (some ⟨b, 0, none⟩), .agg #[.int .i64 x, .int .i64 y], .pointer ra] w fun e w' =>
      ∃ a, e = .returned (.pointer a) ∧ T w' a (1 + max h1 (1 + max h2 hr)) (L1 ++ p :: (L2 ++ (x, y) :: lr)) ∧ Below w.heap.size w w' := by
  obtain ⟨c0, c1, c2, c3, -, -, -⟩ := node_cells hb
  have hlt := World.block_lt_of_cell? _ _ c0
  clear hb
  obtain ⟨px, py⟩ := p
  have hc : ((h2 : Int) ≤ (h1 : Int)) = True := by simp; exact e1
  go_enter Tryz.func218, Tryz.ntmps218
  go_wp2_with fail
  refine (levels_any (t1.below (b_alloc _ _))).mono ?_
  rintro e w1 ⟨rfl, rfl⟩
  go_wp2_with fail
  refine (levels_any (t2.below (b_alloc _ _))).mono ?_
  rintro e w1 ⟨rfl, rfl⟩
  go_wp2_with fail
  go_region_held3 (fun w' => w'.cell? ⟨w.heap.size, 0, none⟩ = some (.int .i64 x) ∧ w'.cell? ⟨w.heap.size, 1, none⟩ = some (.int .i64 y)
      ∧ w'.cell? ⟨b, 0, none⟩ = some (.pointer a1) ∧ w'.cell? ⟨b, 2, none⟩ = some (.int .i64 px) ∧ w'.cell? ⟨b, 3, none⟩ = some (.int .i64 py))
    (first | go_keep | (go_split_ands; refine ⟨?_, ?_, ?_, ?_, ?_⟩ <;> (refine below_cells (by assumption) ?_; assumption)))
    (first
      | (go_at_call_of 153 (Value.pointer a2); refine (above_any x y (t2.below (b_alloc_drew _ _)) (tr.below (b_alloc_drew _ _)) (by omega) (by omega) (by omega) (by omega) ok2 okr okx).mono ?_; rintro e w1 ⟨q, rfl, tq, hb1⟩)
      | (go_at_call_of 153 (Value.pointer a1); refine (above_any px py (t1.below (b_trans (b_alloc_drew _ _) hb1)) tq (by omega) (by omega) (by simp; omega) (by omega) ok1 (okL_append ok2 (okL_cons okx okr)) okp).mono ?_; rintro e w2 ⟨q2, rfl, tq2, hb2⟩))
  all_goals go_wp2_with fail
  all_goals go_ret
  all_goals exact ⟨_, rfl, tq2, b_trans (b_trans (b_alloc_drew _ _) hb1) hb2⟩

set_option maxHeartbeats 1000000 in
theorem turnRight2 {w : World} {a1 a3 a4 ra : Option Addr} {b b2 h1 h2 h3 h4 h hr : Nat} {L1 L2 L3 L4 lr ll : List (Int × Int)} (p p2 : Int × Int) (x y : Int)
    (hb : w.heap[b]? = some (nodeB a1 (some ⟨b2, 0, none⟩) p h ll)) (hb2 : w.heap[b2]? = some (nodeB a3 a4 p2 h2 L2)) (t1 : T w a1 h1 L1) (t2 : T w (some ⟨b2, 0, none⟩) h2 L2)
    (t3 : T w a3 h3 L3) (t4 : T w a4 h4 L4) (tr : T w ra hr lr)
    (e1 : h1 < h2) (e2 : h1 ≤ h3 + 1) (e3 : h3 ≤ h1 + 1) (e4 : h4 ≤ hr + 1) (e5 : hr ≤ h4 + 1) (e6 : max h1 h3 ≤ 1 + max h4 hr) (e7 : max h4 hr ≤ 1 + max h1 h3)
    (hlen : L1.length + L3.length + L4.length + lr.length ≤ 90000) (hh : h1 + h2 + h3 + h4 + hr ≤ 90000)
    (ok1 : okL L1) (ok3 : okL L3) (ok4 : okL L4) (okr : okL lr) (okp : okP p) (okp2 : okP p2) (okx : okP (x, y)) :
    Calls Tryz.prog 218 #[.pointer (some ⟨b, 0, none⟩), .agg #[.int .i64 x, .int .i64 y], .pointer ra] w fun e w' =>
      ∃ a, e = .returned (.pointer a) ∧ T w' a (1 + max (1 + max h1 h3) (1 + max h4 hr)) ((L1 ++ p :: L3) ++ p2 :: (L4 ++ (x, y) :: lr)) ∧ Below w.heap.size w w' := by
  obtain ⟨c0, c1, c2, c3, -, -, -⟩ := node_cells hb
  obtain ⟨d0, d1, d2, d3, -, -, -⟩ := node_cells hb2
  have hlt := World.block_lt_of_cell? _ _ c0
  have hlt2 := World.block_lt_of_cell? _ _ d0
  clear hb hb2
  obtain ⟨px, py⟩ := p
  obtain ⟨qx, qy⟩ := p2
  have hc : ((h2 : Int) ≤ (h1 : Int)) = False := by simp; exact e1
  go_enter Tryz.func218, Tryz.ntmps218
  go_wp2_with fail
  refine (levels_any (t1.below (b_alloc _ _))).mono ?_
  rintro e w1 ⟨rfl, rfl⟩
  go_wp2_with fail
  refine (levels_any (t2.below (b_alloc _ _))).mono ?_
  rintro e w1 ⟨rfl, rfl⟩
  go_wp2_with fail
  go_region_held3 (fun w' => w'.cell? ⟨w.heap.size, 0, none⟩ = some (.int .i64 x) ∧ w'.cell? ⟨w.heap.size, 1, none⟩ = some (.int .i64 y)
      ∧ w'.cell? ⟨b, 0, none⟩ = some (.pointer a1) ∧ w'.cell? ⟨b, 2, none⟩ = some (.int .i64 px) ∧ w'.cell? ⟨b, 3, none⟩ = some (.int .i64 py)
      ∧ w'.cell? ⟨b2, 0, none⟩ = some (.pointer a3) ∧ w'.cell? ⟨b2, 1, none⟩ = some (.pointer a4) ∧ w'.cell? ⟨b2, 2, none⟩ = some (.int .i64 qx) ∧ w'.cell? ⟨b2, 3, none⟩ = some (.int .i64 qy))
    (first | go_keep | (go_split_ands; refine ⟨?_, ?_, ?_, ?_, ?_, ?_, ?_, ?_, ?_⟩ <;> (refine below_cells (by assumption) ?_; assumption)))
    (first
      | (go_at_call_of 153 (Value.pointer a3); refine (above_any px py (t1.below (b_alloc_drew _ _)) (t3.below (b_alloc_drew _ _)) (by omega) (by omega) (by omega) (by omega) ok1 ok3 okp).mono ?_; rintro e w1 ⟨q1, rfl, tq1, hb1⟩)
      | (go_at_call_of 153 (Value.pointer a4); refine (above_any x y (t4.below (b_trans (b_alloc_drew _ _) hb1)) (tr.below (b_trans (b_alloc_drew _ _) hb1)) (by omega) (by omega) (by omega) (by omega) ok4 okr okx).mono ?_; rintro e w2 ⟨q2, rfl, tq2, hb2⟩)
      | (go_at_call_of 153 (Value.pointer q1); refine (above_any qx qy (tq1.below hb2) tq2 (by omega) (by omega) (by simp; omega) (by omega) (okL_append ok1 (okL_cons okp ok3)) (okL_append ok4 (okL_cons okx okr)) okp2).mono ?_; rintro e w3 ⟨q3, rfl, tq3, hb3⟩))
  all_goals go_wp2_with fail
  all_goals go_ret
  all_goals exact ⟨_, rfl, tq3, b_trans (b_trans (b_trans (b_alloc_drew _ _) hb1) hb2) hb3⟩

set_option maxHeartbeats 1000000 in
theorem turnLeft1 {w : World} {a1 a2 la : Option Addr} {b h1 h2 h hl : Nat} {L1 L2 ll lr : List (Int × Int)} (p : Int × Int) (x y : Int)
    (hb : w.heap[b]? = some (nodeB a1 a2 p h lr)) (t1 : T w a1 h1 L1) (t2 : T w a2 h2 L2) (tl : T w la hl ll)
    (e1 : h1 ≤ h2) (e2 : h2 ≤ h1 + 1) (e3 : h2 = hl + 1) (hlen : L1.length + L2.length + ll.length ≤ 90000) (hh : h2 ≤ 90000) (ok1 : okL L1) (ok2 : okL L2) (okl : okL ll) (okp : okP p) (okx : okP (x, y)) :
    Calls Tryz.prog 219 #[.pointer la, .agg #[.int .i64 x, .int .i64 y], .pointer (some ⟨b, 0, none⟩)] w fun e w' =>
      ∃ a, e = .returned (.pointer a) ∧ T w' a (1 + max (1 + max hl h1) h2) ((ll ++ (x, y) :: L1) ++ p :: L2) ∧ Below w.heap.size w w' := by
  obtain ⟨c0, c1, c2, c3, -, -, -⟩ := node_cells hb
  have hlt := World.block_lt_of_cell? _ _ c0
  clear hb
  obtain ⟨px, py⟩ := p
  have hc : ((h1 : Int) ≤ (h2 : Int)) = True := by simp; exact e1
  go_enter Tryz.func219, Tryz.ntmps219
  go_wp2_with fail
  refine (levels_any (t2.below (b_alloc _ _))).mono ?_
  rintro e w1 ⟨rfl, rfl⟩
  go_wp2_with fail
  refine (levels_any (t1.below (b_alloc _ _))).mono ?_
  rintro e w1 ⟨rfl, rfl⟩
  go_wp2_with fail
  go_region_held3 (fun w' => w'.cell? ⟨w.heap.size, 0, none⟩ = some (.int .i64 x) ∧ w'.cell? ⟨w.heap.size, 1, none⟩ = some (.int .i64 y)
      ∧ w'.cell? ⟨b, 1, none⟩ = some (.pointer a2) ∧ w'.cell? ⟨b, 2, none⟩ = some (.int .i64 px) ∧ w'.cell? ⟨b, 3, none⟩ = some (.int .i64 py))
    (first | go_keep | (go_split_ands; refine ⟨?_, ?_, ?_, ?_, ?_⟩ <;> (refine below_cells (by assumption) ?_; assumption)))
    (first
      | (go_at_call_of 153 (Value.pointer a1); refine (above_any x y (tl.below (b_alloc_drew _ _)) (t1.below (b_alloc_drew _ _)) (by omega) (by omega) (by omega) (by omega) okl ok1 okx).mono ?_; rintro e w1 ⟨q, rfl, tq, hb1⟩)
      | (go_at_call_of 153 (Value.pointer a2); refine (above_any px py tq (t2.below (b_trans (b_alloc_drew _ _) hb1)) (by omega) (by omega) (by simp; omega) (by omega) (okL_append okl (okL_cons okx ok1)) ok2 okp).mono ?_; rintro e w2 ⟨q2, rfl, tq2, hb2⟩))
  all_goals go_wp2_with fail
  all_goals go_ret
  all_goals exact ⟨_, rfl, tq2, b_trans (b_trans (b_alloc_drew _ _) hb1) hb2⟩

set_option maxHeartbeats 1000000 in
theorem turnLeft2 {w : World} {a2 a3 a4 la : Option Addr} {b b2 h1 h2 h3 h4 h hl : Nat} {L1 L2 L3 L4 ll lr : List (Int × Int)} (p p2 : Int × Int) (x y : Int)
    (hb : w.heap[b]? = some (nodeB (some ⟨b2, 0, none⟩) a2 p h lr)) (hb2 : w.heap[b2]? = some (nodeB a3 a4 p2 h1 L1)) (t1 : T w (some ⟨b2, 0, none⟩) h1 L1) (t2 : T w a2 h2 L2)
    (t3 : T w a3 h3 L3) (t4 : T w a4 h4 L4) (tl : T w la hl ll)
    (e1 : h2 < h1) (e2 : hl ≤ h3 + 1) (e3 : h3 ≤ hl + 1) (e4 : h4 ≤ h2 + 1) (e5 : h2 ≤ h4 + 1) (e6 : max hl h3 ≤ 1 + max h4 h2) (e7 : max h4 h2 ≤ 1 + max hl h3)
    (hlen : L2.length + L3.length + L4.length + ll.length ≤ 90000) (hh : h1 + h2 + h3 + h4 + hl ≤ 90000)
    (ok2 : okL L2) (ok3 : okL L3) (ok4 : okL L4) (okl : okL ll) (okp : okP p) (okp2 : okP p2) (okx : okP (x, y)) :
    Calls Tryz.prog 219 #[.pointer la, .agg #[.int .i64 x, .int .i64 y], .pointer (some ⟨b, 0, none⟩)] w fun e w' =>
      ∃ a, e = .returned (.pointer a) ∧ T w' a (1 + max (1 + max hl h3) (1 + max h4 h2)) ((ll ++ (x, y) :: L3) ++ p2 :: (L4 ++ p :: L2)) ∧ Below w.heap.size w w' := by
  obtain ⟨c0, c1, c2, c3, -, -, -⟩ := node_cells hb
  obtain ⟨d0, d1, d2, d3, -, -, -⟩ := node_cells hb2
  have hlt := World.block_lt_of_cell? _ _ c0
  have hlt2 := World.block_lt_of_cell? _ _ d0
  clear hb hb2
  obtain ⟨px, py⟩ := p
  obtain ⟨qx, qy⟩ := p2
  have hc : ((h1 : Int) ≤ (h2 : Int)) = False := by simp; exact e1
  go_enter Tryz.func219, Tryz.ntmps219
  go_wp2_with fail
  refine (levels_any (t2.below (b_alloc _ _))).mono ?_
  rintro e w1 ⟨rfl, rfl⟩
  go_wp2_with fail
  refine (levels_any (t1.below (b_alloc _ _))).mono ?_
  rintro e w1 ⟨rfl, rfl⟩
  go_wp2_with fail
  go_region_held3 (fun w' => w'.cell? ⟨w.heap.size, 0, none⟩ = some (.int .i64 x) ∧ w'.cell? ⟨w.heap.size, 1, none⟩ = some (.int .i64 y)
      ∧ w'.cell? ⟨b, 1, none⟩ = some (.pointer a2) ∧ w'.cell? ⟨b, 2, none⟩ = some (.int .i64 px) ∧ w'.cell? ⟨b, 3, none⟩ = some (.int .i64 py)
      ∧ w'.cell? ⟨b2, 0, none⟩ = some (.pointer a3) ∧ w'.cell? ⟨b2, 1, none⟩ = some (.pointer a4) ∧ w'.cell? ⟨b2, 2, none⟩ = some (.int .i64 qx) ∧ w'.cell? ⟨b2, 3, none⟩ = some (.int .i64 qy))
    (first | go_keep | (go_split_ands; refine ⟨?_, ?_, ?_, ?_, ?_, ?_, ?_, ?_, ?_⟩ <;> (refine below_cells (by assumption) ?_; assumption)))
    (first
      | (go_at_call_of 153 (Value.pointer a3); refine (above_any x y (tl.below (b_alloc_drew _ _)) (t3.below (b_alloc_drew _ _)) (by omega) (by omega) (by omega) (by omega) okl ok3 okx).mono ?_; rintro e w1 ⟨q1, rfl, tq1, hb1⟩)
      | (go_at_call_of 153 (Value.pointer a4); refine (above_any px py (t4.below (b_trans (b_alloc_drew _ _) hb1)) (t2.below (b_trans (b_alloc_drew _ _) hb1)) (by omega) (by omega) (by omega) (by omega) ok4 ok2 okp).mono ?_; rintro e w2 ⟨q2, rfl, tq2, hb2⟩)
      | (go_at_call_of 153 (Value.pointer q1); refine (above_any qx qy (tq1.below hb2) tq2 (by omega) (by omega) (by simp; omega) (by omega) (okL_append okl (okL_cons okx ok3)) (okL_append ok4 (okL_cons okp ok2)) okp2).mono ?_; rintro e w3 ⟨q3, rfl, tq3, hb3⟩))
  all_goals go_wp2_with fail
  all_goals go_ret
  all_goals exact ⟨_, rfl, tq3, b_trans (b_trans (b_trans (b_alloc_drew _ _) hb1) hb2) hb3⟩

end Go.Proofs.YtfplgfodoiiobaaGreatDoor
