/- The walk of 'split', by induction on the height. -/
import Derived.Test.YtfplgfodoiiobaaGreatDoorWalk6
namespace Go.Proofs.YtfplgfodoiiobaaGreatDoor
open Go.RowKit

def SplitPost (w : World) (l : List (Int × Int)) (pos : Int) : Ending → World → Prop := fun e w' =>
  ∃ r1 h1 r2 h2, e = .returned (.tuple #[.pointer r1, .pointer r2]) ∧ T w' r1 h1 (headB l pos) ∧ T w' r2 h2 (tailB l pos) ∧ Below w.heap.size w w'

def SplitSaid (n : Nat) : Prop := ∀ (w : World) (a : Option Addr) (h : Nat) (l : List (Int × Int)) (pos : Int), h ≤ n → T w a h l → l.length ≤ 8000 → okL l → pos ≤ 1000000000 →
    Calls Tryz.prog 94 #[.pointer a, .int .i64 pos] w (SplitPost w l pos)

set_option maxHeartbeats 400000 in
theorem split_neg {w : World} {a : Option Addr} {h : Nat} {l : List (Int × Int)} {pos : Int} (t : T w a h l) (hp : pos ≤ 0) :
    Calls Tryz.prog 94 #[.pointer a, .int .i64 pos] w (SplitPost w l pos) := by
  go_enter Tryz.func94, Tryz.ntmps94
  go_wp2_with fail
  go_ret2
  exact ⟨none, 0, a, h, rfl, by rw [headB_neg l hp]; exact T.nil _, by rw [tailB_neg l hp]; exact t, Below.refl _ _⟩

set_option maxHeartbeats 400000 in
theorem split_beyond {w : World} {a : Option Addr} {h : Nat} {l : List (Int × Int)} {pos : Int} (t : T w a h l) (ok : okL l) (h0 : 0 < pos) (hp : sz l ≤ pos) :
    Calls Tryz.prog 94 #[.pointer a, .int .i64 pos] w (SplitPost w l pos) := by
  go_enter Tryz.func94, Tryz.ntmps94
  go_wp2_with fail
  refine (bytes_any t).mono ?_
  rintro e w1 ⟨rfl, rfl⟩
  go_wp2_with fail
  go_ret2
  exact ⟨a, h, none, 0, rfl, by rw [headB_all ok hp]; exact t, by rw [tailB_all ok hp]; exact T.nil _, Below.refl _ _⟩

set_option maxHeartbeats 1000000 in
theorem split_l {n : Nat} (ih : Hid (SplitSaid n)) {w : World} {b : Nat} {la ra : Option Addr} {p : Int × Int} {h hl hr : Nat} {l ll lr : List (Int × Int)} {pos : Int}
    (t : T w (some ⟨b, 0, none⟩) h l) (hb : w.heap[b]? = some (nodeB la ra p h l)) (tl : T w la hl ll) (tr : T w ra hr lr) (E : Hid (l = ll ++ p :: lr)) (hn : hl ≤ n)
    (hlen : ll.length + lr.length + 1 ≤ 8000) (okl : okL ll) (okr : okL lr) (okp : okP p) (h0 : 0 < pos) (h1 : pos < sz l) (h2 : pos ≤ sz ll) :
    Calls Tryz.prog 94 #[.pointer (some ⟨b, 0, none⟩), .int .i64 pos] w (SplitPost w l pos) := by
  obtain ⟨c0, c1, c2, c3, -, -, -⟩ := node_cells hb
  have hlt := World.block_lt_of_cell? _ _ c0
  have bl := sz_bd okl
  clear hb
  obtain ⟨px, py⟩ := p
  have hp := okp
  unfold okP at hp
  simp only at hp
  go_enter Tryz.func94, Tryz.ntmps94
  go_wp2_with fail
  refine (bytes_any t).mono ?_
  rintro e w ⟨rfl, rfl⟩
  go_wp2_with fail
  refine (bytes_any tl).mono ?_
  rintro e w ⟨rfl, rfl⟩
  go_wp2_with fail
  refine (ih.out _ la hl ll pos hn tl (by omega) okl (by omega)).mono ?_
  rintro e w1 ⟨r1, g1, r2, g2, rfl, t1, t2, hb1⟩
  have c1' := below_cells hb1 c1
  have c2' := below_cells hb1 c2
  have c3' := below_cells hb1 c3
  have hln := len_split ll pos
  have okt := okL_tailB okl pos
  have hs1 := hb1.size
  clear c0 c1 c2 c3
  go_wp2_with fail
  go_region_held3 (fun w' => w'.cell? ⟨b, 1, none⟩ = some (.pointer ra) ∧ w'.cell? ⟨b, 2, none⟩ = some (.int .i64 px) ∧ w'.cell? ⟨b, 3, none⟩ = some (.int .i64 py))
      (first | go_keep | (go_split_ands; refine ⟨?_, ?_, ?_⟩ <;> (refine below_cells hb2 ?_; assumption)))
      (first
        | (go_at_call_of 96 (Value.pointer r2); refine (join_any px py (t2.below ((Below.refl _ _).drew)) (tr.below hb1.drew) (by omega) okt okr okp).mono ?_; rintro e w2 ⟨q, hq, rfl, tq, hb2⟩))
  all_goals go_wp2_with fail
  all_goals go_ret2
  all_goals
    obtain ⟨e1, e2⟩ := split_left (b := lr) (p := (px, py)) okl h2
    exact ⟨_, g1, _, hq, rfl, by rw [E.out, e1]; exact t1.below ((Below.refl _ _).drew.trans hb2), by rw [E.out, e2]; exact tq, b_trans hb1.drew hb2⟩

set_option maxHeartbeats 1000000 in
theorem split_r {n : Nat} (ih : Hid (SplitSaid n)) {w : World} {b : Nat} {la ra : Option Addr} {p : Int × Int} {h hl hr : Nat} {l ll lr : List (Int × Int)} {pos : Int}
    (t : T w (some ⟨b, 0, none⟩) h l) (hb : w.heap[b]? = some (nodeB la ra p h l)) (tl : T w la hl ll) (tr : T w ra hr lr) (E : Hid (l = ll ++ p :: lr)) (hn : hr ≤ n)
    (hlen : ll.length + lr.length + 1 ≤ 8000) (okl : okL ll) (okr : okL lr) (okp : okP p) (h0 : 0 < pos) (hmax : pos ≤ 1000000000) (h1 : pos < sz l) (h2 : sz ll + p.2 ≤ pos) :
    Calls Tryz.prog 94 #[.pointer (some ⟨b, 0, none⟩), .int .i64 pos] w (SplitPost w l pos) := by
  obtain ⟨c0, c1, c2, c3, -, -, -⟩ := node_cells hb
  have hlt := World.block_lt_of_cell? _ _ c0
  have bl := sz_bd okl
  clear hb
  obtain ⟨px, py⟩ := p
  have hp := okp
  unfold okP at hp
  simp only at hp h2
  have h3 : sz ll < pos := by omega
  go_enter Tryz.func94, Tryz.ntmps94
  go_wp2_with fail
  refine (bytes_any t).mono ?_
  rintro e w ⟨rfl, rfl⟩
  go_wp2_with fail
  refine (bytes_any tl).mono ?_
  rintro e w ⟨rfl, rfl⟩
  go_wp2_with fail
  refine (ih.out _ ra hr lr (pos - (sz ll + py)) hn tr (by omega) okr (by omega)).mono ?_
  rintro e w1 ⟨r1, g1, r2, g2, rfl, t1, t2, hb1⟩
  have c0' := below_cells hb1 c0
  have c2' := below_cells hb1 c2
  have c3' := below_cells hb1 c3
  have hln := len_split lr (pos - (sz ll + py))
  have okt := okL_headB okr (pos - (sz ll + py))
  have hs1 := hb1.size
  clear c0 c1 c2 c3
  go_wp2_with fail
  go_region_held3 (fun w' => w'.cell? ⟨b, 0, none⟩ = some (.pointer la) ∧ w'.cell? ⟨b, 2, none⟩ = some (.int .i64 px) ∧ w'.cell? ⟨b, 3, none⟩ = some (.int .i64 py))
      (first | go_keep | (go_split_ands; refine ⟨?_, ?_, ?_⟩ <;> (refine below_cells hb2 ?_; assumption)))
      (first
        | (go_at_call_of 96 (Value.pointer r1); refine (join_any px py (tl.below hb1.drew) (t1.below ((Below.refl _ _).drew)) (by omega) okl okt okp).mono ?_; rintro e w2 ⟨q, hq, rfl, tq, hb2⟩))
  all_goals go_wp2_with fail
  all_goals go_ret2
  all_goals
    obtain ⟨e1, e2⟩ := split_right (b := lr) (p := (px, py)) okl okp h2
    exact ⟨_, hq, _, g2, rfl, by rw [E.out, e1]; exact tq, by rw [E.out, e2]; exact t2.below ((Below.refl _ _).drew.trans hb2), b_trans hb1.drew hb2⟩

set_option maxHeartbeats 1000000 in
theorem split_m {w : World} {b : Nat} {la ra : Option Addr} {p : Int × Int} {h hl hr : Nat} {l ll lr : List (Int × Int)} {pos : Int}
    (t : T w (some ⟨b, 0, none⟩) h l) (hb : w.heap[b]? = some (nodeB la ra p h l)) (tl : T w la hl ll) (tr : T w ra hr lr) (E : Hid (l = ll ++ p :: lr))
    (hlen : ll.length + lr.length + 1 ≤ 8000) (okl : okL ll) (okr : okL lr) (okp : okP p) (h1 : pos < sz l) (h2 : sz ll < pos) (h3 : pos < sz ll + p.2) :
    Calls Tryz.prog 94 #[.pointer (some ⟨b, 0, none⟩), .int .i64 pos] w (SplitPost w l pos) := by
  obtain ⟨c0, c1, c2, c3, -, -, -⟩ := node_cells hb
  have hlt := World.block_lt_of_cell? _ _ c0
  have bl := sz_bd okl
  clear hb
  obtain ⟨px, py⟩ := p
  have hp := okp
  unfold okP at hp
  simp only at hp h3
  have h0 : 0 < pos := by omega
  have ok1 : okP (px, pos - sz ll) := by unfold okP; simp only; omega
  have ok2 : okP (px + (pos - sz ll), py - (pos - sz ll)) := by unfold okP; simp only; omega
  go_enter Tryz.func94, Tryz.ntmps94
  go_wp2_with fail
  refine (bytes_any t).mono ?_
  rintro e w ⟨rfl, rfl⟩
  go_wp2_with fail
  refine (bytes_any tl).mono ?_
  rintro e w ⟨rfl, rfl⟩
  go_wp2_with fail
  refine (cut_any px py (pos - sz ll) okp (by omega) (by omega)).mono ?_
  rintro e w1 ⟨rfl, hb1⟩
  have c0' := below_cells hb1 c0
  have c1' := below_cells hb1 c1
  have hs1 := hb1.size
  have hlt1 : b < w1.heap.size := by omega
  have hne1 : w1.heap.size ≠ b := by omega
  have hne2 : w1.heap.size + 1 ≠ b := by omega
  clear c0 c1 c2 c3
  go_wp2_with fail
  have BW : ∀ o1 o2, Below w.heap.size w ((w1.alloc o1).alloc o2).drew := fun o1 o2 => b_trans hb1 (b_trans (b_alloc _ _) (b_alloc_drew _ _))
  go_region_held3 (fun w' => w'.cell? ⟨w1.heap.size, 0, none⟩ = some (.int .i64 px) ∧ w'.cell? ⟨w1.heap.size, 1, none⟩ = some (.int .i64 (pos - sz ll))
        ∧ w'.cell? ⟨w1.heap.size + 1, 0, none⟩ = some (.int .i64 (px + (pos - sz ll))) ∧ w'.cell? ⟨w1.heap.size + 1, 1, none⟩ = some (.int .i64 (py - (pos - sz ll)))
        ∧ w'.cell? ⟨b, 0, none⟩ = some (.pointer la) ∧ w'.cell? ⟨b, 1, none⟩ = some (.pointer ra))
      (first | go_keep | (go_split_ands; refine ⟨?_, ?_, ?_, ?_, ?_, ?_⟩ <;> first | (refine below_cells hb3 ?_; assumption) | (refine below_cells hb2 ?_; assumption)))
      (first
        | (go_at_call_of 96 (Value.pointer la); refine (join_any px (pos - sz ll) (tl.below (BW _ _)) (T.nil _) (by simp; omega) okl okL_nil ok1).mono ?_; rintro e w2 ⟨q, hq, rfl, tq, hb2⟩)
        | (go_at_call_of 96 (Value.pointer ra); refine (join_any (px + (pos - sz ll)) (py - (pos - sz ll)) (T.nil _) (tr.below (b_trans (BW _ _) hb2)) (by simp; omega) okL_nil okr ok2).mono ?_; rintro e w3 ⟨q3, hq3, rfl, tq3, hb3⟩))
  all_goals go_wp2_with fail
  all_goals go_ret2
  all_goals
    obtain ⟨e1, e2⟩ := split_mid (b := lr) (p := (px, py)) okl h2 h3
    exact ⟨_, hq, _, hq3, rfl, by rw [E.out, e1]; exact tq.below hb3, by rw [E.out, e2]; exact tq3, b_trans (b_trans (BW _ _) hb2) hb3⟩

theorem split_said : ∀ n, SplitSaid n := by
  intro n
  induction n with
  | zero =>
    intro w a h l pos hn t hlen ok hmax
    have hl := t.zero.1.1 (by omega)
    by_cases hp : pos ≤ 0
    · exact split_neg t hp
    · exact split_beyond t ok (by omega) (by rw [hl]; simp [sz]; omega)
  | succ n ih =>
    intro w a h l pos hn t hlen ok hmax
    by_cases hp : pos ≤ 0
    · exact split_neg t hp
    · by_cases hs : sz l ≤ pos
      · exact split_beyond t ok (by omega) hs
      · rcases t.inv with ⟨rfl, rfl, rfl⟩ | ⟨b, la, ra, p, hl, hr, ll, lr, rfl, hb, tl, tr, E, rfl, e1, e2⟩
        · simp [sz] at hs; omega
        · have hlen2 : ll.length + lr.length + 1 ≤ 8000 := by rw [E] at hlen; simp only [List.length_append, List.length_cons] at hlen; omega
          have okl : okL ll := by rw [E] at ok; exact okL_left ok
          have okr : okL lr := by rw [E] at ok; exact okL_tail (okL_right ok)
          have okp : okP p := by rw [E] at ok; exact okL_head (okL_right ok)
          by_cases h1 : pos ≤ sz ll
          · exact split_l ih t hb tl tr E (by omega) hlen2 okl okr okp (by omega) (by omega) h1
          · by_cases h2 : sz ll + p.2 ≤ pos
            · exact split_r ih t hb tl tr E (by omega) hlen2 okl okr okp (by omega) hmax (by omega) h2
            · exact split_m t hb tl tr E hlen2 okl okr okp (by omega) (by omega) (by omega)

theorem split_any {w : World} {a : Option Addr} {h : Nat} {l : List (Int × Int)} {pos : Int} (t : T w a h l) (hlen : l.length ≤ 8000) (ok : okL l) (hp : pos ≤ 1000000000) :
    Calls Tryz.prog 94 #[.pointer a, .int .i64 pos] w fun e w' =>
      ∃ r1 h1 r2 h2, e = .returned (.tuple #[.pointer r1, .pointer r2]) ∧ T w' r1 h1 (headB l pos) ∧ T w' r2 h2 (tailB l pos) ∧ Below w.heap.size w w' :=
  split_said h w a h l pos (Nat.le_refl _) t hlen ok hp

end Go.Proofs.YtfplgfodoiiobaaGreatDoor
