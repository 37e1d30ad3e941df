/- The walk of a step of the script, on trees. -/
import Derived.Test.YtfplgfodoiiobaaGreatDoorTreesR
namespace Go.Proofs.YtfplgfodoiiobaaGreatDoor
open Go.RowKit

/-- Which tree a number speaks of hangs on the number and on how many there are alone. -/
theorem lpick_det {c n : Int} (hc1 : -9223372036854775808 ≤ c) (hc2 : c ≤ 9223372036854775807) (hn : 1 ≤ n) (hn2 : n ≤ 9223372036854775807) :
    ∃ p : Nat, (p : Int) < n ∧ ∀ w : World, Calls Tryz.prog 68 #[.int .i64 c, .int .i64 n] w fun e w' => e = .returned (.int .i64 (p : Int)) ∧ w' = w := by
  by_cases h0 : c < 0
  · have hn0 : (n == 0) = false := by simp; omega
    have h1 := tmod_in (c := -(c + 1)) (n := n) (by omega) hn
    refine ⟨((-(c + 1)).tmod n).toNat, by omega, fun w => ?_⟩
    have h2 : ((((-(c + 1)).tmod n).toNat : Nat) : Int) = (-(c + 1)).tmod n := Int.toNat_of_nonneg h1.1
    rw [h2]
    have HX : Hid (0 ≤ (-(c + 1)).tmod n ∧ (-(c + 1)).tmod n < n) := h1
    clear h1 h2
    go_enter Tryz.func68, Tryz.ntmps68
    go_wp2
    go_ret
    refine ⟨?_, rfl⟩
    first
      | rfl
      | (rw [← Int.neg_tmod]; rfl)
  · have hn0 : (n == 0) = false := by simp; omega
    have h1 : 0 ≤ c % n ∧ c % n < n := ⟨Int.emod_nonneg _ (by omega), Int.emod_lt_of_pos _ (by omega)⟩
    refine ⟨(c % n).toNat, by omega, fun w => ?_⟩
    have h2 : (((c % n).toNat : Nat) : Int) = c % n := Int.toNat_of_nonneg h1.1
    rw [h2]
    clear h1 h2
    go_enter Tryz.func68, Tryz.ntmps68
    go_wp2
    go_ret
    exact ⟨rfl, rfl⟩

theorem Tryz.infoPtr : (Tryz.prog.info? 117).map (fun i => (i.zero, i.size, i.bytes)) = some (some (.pointer none), 1, 8) := by kernel_rfl

/-- 'append(trees, t)'. -/
theorem wp_append_tree {w : World} {ops : Array Oper} {rest : List Oper} {o : Oper} {a : Act} {Q : Exit → Act → World → Prop} (hgd : o.guard = none) (s x : Operand)
    (ho : o.op = .call { callee := .builtin .append, args := #[s, x], argTypes := #[64, 64] })
    (B : Nat) (v : Value) (xs : List Value) (n : Nat) (u : Value) (he : a.eval s = v) (hown : w.ownsRow B 117 1 v n xs) (ad : Addr) (m c : Nat) (hx : a.eval x = .slice (some ad) m c) (hm : m = 1)
    (hr : w.cell? (ad.add 0) = some u) (hu : u.oneCell' = true) (hlen : n ≤ 1000000000) (hbase : B ≤ w.heap.size)
    (h : ∀ v' w', w'.ownsRow B 117 1 v' (n + 1) (xs ++ [u]) → w.grownBy w' v.ownBlock → wpList Tryz.prog ops Q rest (a.put o.dst v') w') : wpList Tryz.prog ops Q (o :: rest) a w := by
  obtain ⟨i0, hi, hz0, hz1, hz2⟩ := info_parts Tryz.infoPtr
  subst hm
  refine wpList_append_own w hgd s x 64 ho B 117 i0 (.pointer none) 1 8 Tryz.underlying64 hi hz0 hz1 hz2 rfl (by decide) v n xs he hown ad 1 c [u] hx rfl ?_ ?_ (by unfold maxLen; omega) (by omega) hbase ?_
  · intro j y hj
    cases j with
    | zero => simp at hj; subst hj; exact hr
    | succ j => simp at hj
  · intro y hy; simp at hy; subst hy; exact hu
  · intro v' w' h1 h2 _
    exact h v' w' h1 h2

end Go.Proofs.YtfplgfodoiiobaaGreatDoor
