/- The walk of 'above'. -/
import Derived.Test.YtfplgfodoiiobaaGreatDoorWalk1
import Derived.Deep.RegionHeld3
import Derived.Deep.RegionWith
namespace Go.Proofs.YtfplgfodoiiobaaGreatDoor
open Go.RowKit

theorem wI {n : Int} (h0 : 0 ≤ n) (h1 : n ≤ 1000000000000) : IntKind.i64.wrap n = n := by rw [IntKind.wrap_i64]; omega

/-- The new node, laid behind the box of the piece. -/
theorem above_done {w : World} {o : Obj} {la ra : Option Addr} {hl hr : Nat} {ll lr : List (Int × Int)} {x y : Int}
    (tl : T (w.alloc o).drew la hl ll) (tr : T (w.alloc o).drew ra hr lr) (h1 : hl ≤ hr + 1) (h2 : hr ≤ hl + 1) {H C S : Int}
    (eH : H = ((1 + max hl hr : Nat) : Int)) (eC : C = 1 + (ll.length : Int) + (lr.length : Int)) (eS : S = y + sz ll + sz lr) :
    T ((w.alloc o).alloc (.cells #[.pointer la, .pointer ra, .int .i64 x, .int .i64 y, .int .i64 H, .int .i64 C, .int .i64 S] 234)).drew
        (some ⟨w.heap.size + 1, 0, none⟩) (1 + max hl hr) (ll ++ (x, y) :: lr)
      ∧ Below w.heap.size w ((w.alloc o).alloc (.cells #[.pointer la, .pointer ra, .int .i64 x, .int .i64 y, .int .i64 H, .int .i64 C, .int .i64 S] 234)).drew := by
  have hb : Below (w.alloc o).drew.heap.size (w.alloc o).drew ((w.alloc o).alloc (.cells #[.pointer la, .pointer ra, .int .i64 x, .int .i64 y, .int .i64 H, .int .i64 C, .int .i64 S] 234)).drew :=
    ((Below.refl _ (w.alloc o).drew).alloc (Nat.le_refl _) _)
  refine ⟨T.node ?_ (tl.below hb) (tr.below hb) h1 h2, (((Below.refl _ w).alloc (Nat.le_refl _) _).alloc (by simp) _).drew⟩
  show ((w.heap.push o).push _)[w.heap.size + 1]? = _
  rw [Array.getElem?_push, if_pos (by simp)]
  subst eH; subst eC; subst eS
  simp only [nodeB, List.length_append, List.length_cons, sz_append, sz_cons]
  rw [show (1 : Int) + (ll.length : Int) + (lr.length : Int) = ((ll.length + (lr.length + 1) : Nat) : Int) from by omega, show y + sz ll + sz lr = sz ll + (y + sz lr) from by omega]

set_option maxHeartbeats 1000000 in
theorem above_any {w : World} {la ra : Option Addr} {hl hr : Nat} {ll lr : List (Int × Int)} (x y : Int)
    (tl : T w la hl ll) (tr : T w ra hr lr) (h1 : hl ≤ hr + 1) (h2 : hr ≤ hl + 1) (hlen : ll.length + lr.length ≤ 100000) (hh : hl ≤ 100000) (okl : okL ll) (okr : okL lr) (okp : okP (x, y)) :
    Calls Tryz.prog 153 #[.pointer la, .agg #[.int .i64 x, .int .i64 y], .pointer ra] w fun e w' =>
      ∃ a, e = .returned (.pointer a) ∧ T w' a (1 + max hl hr) (ll ++ (x, y) :: lr) ∧ Below w.heap.size w w' := by
  have b1 := sz_bd okl
  have b2 := sz_bd okr
  unfold okP at okp
  simp only at okp
  have tl' : ∀ o, T (w.alloc o).drew la hl ll := fun o => tl.below (((Below.refl _ _).alloc (Nat.le_refl _) _).drew)
  have tr' : ∀ o, T (w.alloc o).drew ra hr lr := fun o => tr.below (((Below.refl _ _).alloc (Nat.le_refl _) _).drew)
  clear tl tr
  by_cases hm : (hl : Int) < (hr : Int)
  all_goals
    go_enter Tryz.func153, Tryz.ntmps153
    go_wp2_with fail
    go_region_held3 (fun w' => w'.cell? ⟨w.heap.size, 0, none⟩ = some (.int .i64 x) ∧ w'.cell? ⟨w.heap.size, 1, none⟩ = some (.int .i64 y)) (go_keep)
      (first
        | (go_at_call_of 151 (Value.pointer la); refine (levels_any (tl' _)).mono ?_; rintro e w' ⟨rfl, rfl⟩)
        | (go_at_call_of 151 (Value.pointer ra); refine (levels_any (tr' _)).mono ?_; rintro e w' ⟨rfl, rfl⟩)
        | (go_at_call_of 150 (Value.pointer la); refine (pieces_any (tl' _)).mono ?_; rintro e w' ⟨rfl, rfl⟩)
        | (go_at_call_of 150 (Value.pointer ra); refine (pieces_any (tr' _)).mono ?_; rintro e w' ⟨rfl, rfl⟩)
        | (go_at_call_of 148 (Value.pointer la); refine (bytes_any (tl' _)).mono ?_; rintro e w' ⟨rfl, rfl⟩)
        | (go_at_call_of 148 (Value.pointer ra); refine (bytes_any (tr' _)).mono ?_; rintro e w' ⟨rfl, rfl⟩))
    all_goals go_wp2_with fail
    all_goals go_ret
    all_goals exact ⟨_, rfl, above_done (tl' _) (tr' _) h1 h2 (by rw [wI (by omega) (by omega)]; omega) (by rw [wI (n := 1 + (ll.length : Int)) (by omega) (by omega), wI (by omega) (by omega)]) (by rw [wI (n := y + sz ll) (by omega) (by omega), wI (by omega) (by omega)])⟩

end Go.Proofs.YtfplgfodoiiobaaGreatDoor
