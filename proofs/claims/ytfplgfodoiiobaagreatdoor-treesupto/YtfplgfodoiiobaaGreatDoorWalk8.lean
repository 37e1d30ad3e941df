/- The walk of 'restFrom'. -/
import Derived.Test.YtfplgfodoiiobaaGreatDoorWalk7
import Derived.Deep.LoopGhost
namespace Go.Proofs.YtfplgfodoiiobaaGreatDoor
open Go.RowKit

theorem head_left {a b : List (Int × Int)} {p : Int × Int} {n : Int} (h : okL a) (h0 : 0 ≤ n) (hn : n < sz a) : (tailB (a ++ p :: b) n).head? = (tailB a n).head? := by
  rw [(split_left h (by omega)).2]
  have e := sz_tailB h h0 (by omega)
  cases ht : tailB a n with
  | nil => rw [ht] at e; simp [sz] at e; omega
  | cons q l => rfl
theorem head_mid {a b : List (Int × Int)} {p : Int × Int} {n : Int} (h : okL a) (h1 : sz a ≤ n) (h2 : n < sz a + p.2) : (tailB (a ++ p :: b) n).head? = some (p.1 + (n - sz a), p.2 - (n - sz a)) := by
  by_cases e : n = sz a
  · subst e
    rw [(split_left h (Int.le_refl _)).2, tailB_all h (Int.le_refl _)]
    simp
  · rw [(split_mid h (by omega) h2).2]; rfl

set_option maxHeartbeats 1000000 in
theorem rest_any {w : World} {a : Option Addr} {h : Nat} {l : List (Int × Int)} {pos : Int} (t : T w a h l) (hlen : l.length ≤ 8000) (ok : okL l) (h0 : 0 ≤ pos) (h1 : pos < sz l) :
    Calls Tryz.prog 158 #[.pointer a, .int .i64 pos] w fun e w' =>
      ∃ q : Int × Int, (tailB l pos).head? = some q ∧ e = .returned (.agg #[.int .i64 q.1, .int .i64 q.2]) ∧ Below w.heap.size w w' := by
  have T0 : Hid (T w a h l ∧ okL l ∧ l.length ≤ 8000 ∧ pos < sz l) := ⟨t, ok, hlen, h1⟩
  clear t hlen ok h1
  go_enter Tryz.func158, Tryz.ntmps158
  go_wp2_with fail
  go_loopg [0, 1] h (fun k p q wr => wr = w.alloc (.cells #[.int .i64 0, .int .i64 0] 114) ∧ ∃ (a' : Option Addr) (l' : List (Int × Int)) (pos' : Int), p = .pointer a' ∧ q = .int .i64 pos' ∧ T w a' k l' ∧ okL l' ∧ l'.length ≤ 8000 ∧ 0 ≤ pos' ∧ pos' < sz l' ∧ (tailB l pos).head? = (tailB l' pos').head?)
  case atStart =>
    obtain ⟨t, ok, hlen, h1⟩ := T0.out
    exact ⟨rfl, a, l, pos, rfl, rfl, t, ok, hlen, h0, h1, rfl⟩
  case round =>
    obtain ⟨rfl, a', l', pos', rfl, rfl, t', ok', hlen', g0, g1, E0⟩ := hrel
    clear T0
    rcases t'.inv with ⟨rfl, rfl, rfl⟩ | ⟨b, la, ra, p, hl, hr, ll, lr, rfl, hb, tl, tr, E, EH, -, -⟩
    · simp [sz] at g1; omega
    · obtain ⟨c0, c1, c2, c3, -, -, -⟩ := node_cells hb
      have hlt := World.block_lt_of_cell? _ _ c0
      clear hb
      have okl : okL ll := by rw [E] at ok'; exact okL_left ok'
      have okr : okL lr := by rw [E] at ok'; exact okL_tail (okL_right ok')
      have okp : okP p := by rw [E] at ok'; exact okL_head (okL_right ok')
      have hlen2 : ll.length + lr.length + 1 ≤ 8000 := by rw [E] at hlen'; simp only [List.length_append, List.length_cons] at hlen'; omega
      have hsz : sz l' = sz ll + (p.2 + sz lr) := by rw [E, sz_append, sz_cons]
      have bl := sz_bd okl
      have br := sz_bd okr
      obtain ⟨px, py⟩ := p
      simp only at hsz
      have hp := okp
      unfold okP at hp
      simp only at hp
      have g2 : pos' < sz ll + (py + sz lr) := by omega
      have HE : Hid ((tailB l pos).head? = (tailB l' pos').head? ∧ l' = ll ++ (px, py) :: lr ∧ gk = 1 + max hl hr) := ⟨E0, E, EH⟩
      clear E0 E EH hsz
      by_cases k1 : pos' < sz ll
      · go_wp2_with fail
        refine (bytes_any (tl.below (b_alloc _ _))).mono ?_
        rintro e w1 ⟨rfl, rfl⟩
        go_wp2_with fail
        obtain ⟨E0, E, EH⟩ := HE.out
        go_roundg hl
        case measure => omega
        case rel => exact ⟨rfl, la, ll, pos', rfl, rfl, tl, okl, by omega, g0, k1, by rw [E0, E]; exact head_left okl g0 k1⟩
      · by_cases k2 : sz ll + py ≤ pos'
        · go_wp2_with fail
          refine (bytes_any (tl.below (b_alloc _ _))).mono ?_
          rintro e w1 ⟨rfl, rfl⟩
          go_wp2_with fail
          obtain ⟨E0, E, EH⟩ := HE.out
          go_roundg hr
          case measure => omega
          case rel => exact ⟨rfl, ra, lr, _, rfl, rfl, tr, okr, by omega, by omega, by omega, by rw [E0, E, (split_right okl okp k2).2]⟩
        · go_wp2_with fail
          refine (bytes_any (tl.below (b_alloc _ _))).mono ?_
          rintro e w1 ⟨rfl, rfl⟩
          go_wp2_with fail
          refine (cut_any px py (pos' - sz ll) okp (by omega) (by omega)).mono ?_
          rintro e w1 ⟨rfl, hb1⟩
          have hs1 := hb1.size
          simp only [World.size_alloc] at hs1
          have k0 : w1.cell? ⟨w.heap.size, 0, none⟩ = some (.int .i64 0) := (hb1.cell (by simp)).trans (by simp)
          have k1 : w1.cell? ⟨w.heap.size, 1, none⟩ = some (.int .i64 0) := (hb1.cell (by simp)).trans (by simp)
          have f0 : w1.frozen? ⟨w.heap.size, 0, none⟩ = false := (hb1.frozen (by simp)).trans (by simp)
          have f1 : w1.frozen? ⟨w.heap.size, 1, none⟩ = false := (hb1.frozen (by simp)).trans (by simp)
          have hlt1 : w.heap.size < w1.heap.size := by omega
          go_wp2_with fail
          obtain ⟨E0, E, -⟩ := HE.out
          refine bodyPost_ret (v := .agg #[.int .i64 (px + (pos' - sz ll)), .int .i64 (py - (pos' - sz ll))]) (by simp [results, Tryz.results158, go_sem, k0, k1, hlt1]) rfl ⟨(px + (pos' - sz ll), py - (pos' - sz ll)), ?_, rfl, ?_⟩
          · rw [E0, E]; exact head_mid okl (by omega) (by omega)
          · have B1 := ((b_trans (b_alloc w _) hb1).setCell (p := ⟨w.heap.size, 0, none⟩) (Nat.le_refl _) (.int .i64 (px + (pos' - sz ll)))).setCell (p := ⟨w.heap.size, 1, none⟩) (Nat.le_refl _) (.int .i64 (py - (pos' - sz ll)))
            exact b_trans B1 (b_trans (b_alloc _ _) (b_alloc _ _))

end Go.Proofs.YtfplgfodoiiobaaGreatDoor
