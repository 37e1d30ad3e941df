/- The walk of the statement's helper own, to its end. -/
import Derived.Test.YtfplgfodoiiobaaGreatDoorTreesJ
namespace Go.Proofs.YtfplgfodoiiobaaGreatDoor
open Go.RowKit

/-- A list became the caller's. -/
def OwnDone (w w' : World) (B wb c : Nat) (vts vp vm : Value) (hs : List Lst) (ao : Option Addr) : Prop :=
  ∃ (vp' vm' : Value) (h4 : List Lst), h4.length = 4 ∧ w'.heap[wb]? = some (worldB vts ((c : Int) + 1) vp' vm') ∧ w'.ownsRow B 102 1 vp' (hs ++ h4).length ((hs ++ h4).map Lst.v) ∧ OwnI w' B vm' (marks (c + 1))
    ∧ (∀ x ∈ h4, RdT w' x.1 (List.replicate x.2.1 (mk c)) ∧ x.2.1 ≤ 9000) ∧ Fr w w' (fun b => b = wb ∨ (∃ a, ao = some a ∧ b = a.block) ∨ vp.ownBlock = some b ∨ vm.ownBlock = some b) ∧ Below B w w'

theorem own_done {w wc w7 w8 : World} {B wb c n p0 p5 p6 p7 n9 c9 : Nat} {vts vp vm v8 : Value} {hs : List Lst} {ao a5 a6 a7 x9 : Option Addr} {o : Obj}
    (hFd : Fr w wc (fun b => b = wb ∨ ∃ a, ao = some a ∧ b = a.block)) (_BD : Below B w wc) (F7 : Fr wc w7 (fun b => b = wb ∨ vp.ownBlock = some b)) (B7 : Below B w w7) (hwd : wc.heap[wb]? = some (worldB vts ((c : Int) + 1) vp vm))
    (hpd : wc.ownsRow B 102 1 vp hs.length (hs.map Lst.v)) (hm7 : OwnI w7 B vm (marks c)) (hw7 : w7.heap[wb]? = some (worldB vts ((c : Int) + 1) v8 vm))
    (hown9 : w7.ownsRow B 102 1 v8 (hs ++ [(ao, n, p0), (a5, n + 1, p5), (a6, n + 2, p6), (a7, n + 3, p7)]).length ((hs ++ [(ao, n, p0), (a5, n + 1, p5), (a6, n + 2, p6), (a7, n + 3, p7)]).map Lst.v))
    (hw8 : w8.heap[wb]? = some (worldB vts ((c : Int) + 1) v8 vm)) (hg10 : (w7.alloc o).grownBy w8 vm.ownBlock) (hown10 : OwnI w8 B (.slice x9 n9 c9) (marks c ++ [(c : Int) + 1]))
    (rd0 : RdT wc ao (List.replicate n (mk c))) (rd5 : RdT wc a5 (List.replicate n (mk c) ++ [mk c])) (rd6 : RdT wc a6 (List.replicate n (mk c) ++ [mk c, mk c])) (rd7 : RdT wc a7 (List.replicate n (mk c) ++ [mk c, mk c, mk c])) (hlen : n ≤ 8000) (hBw : B ≤ wb) :
    OwnDone w (w8.setCell ⟨wb, 5, none⟩ (.slice x9 n9 c9)) B wb c vts vp vm hs ao := by
  have hlt7 := lt_of_some hw7
  have F8 : Fr w7 (w8.setCell ⟨wb, 5, none⟩ (.slice x9 n9 c9)) (fun b => b = wb ∨ vm.ownBlock = some b) :=
    ((Fr.of_below (b_alloc _ _) _).trans ((Fr.of_grown hg10).mono (fun b h => Or.inr h))).trans ((Fr.set _ _ _).mono (fun b h => Or.inl h))
  have hB : B ≤ w7.heap.size := by
    rcases hown9.2 with ⟨-, h⟩ | ⟨g, cap, cur, -, hg, hh, -⟩
    · simp at h
    · have := lt_of_some hh; omega
  have hX7 : ∀ b (cur : Array Value) (t : TypeId) (f : Nat × Nat), t ≠ 71 → t ≠ 102 → wc.heap[b]? = some (.cells cur t f) → ¬ (b = wb ∨ vp.ownBlock = some b) := by
    intro b cur t f e1 e2 hb hx
    rcases hx with rfl | hx
    · exact not_both hb hwd (ty_ne e1)
    · exact row_ne hpd hb (Ne.symm e2) hx
  have hX8 : ∀ b (cur : Array Value) (t : TypeId) (f : Nat × Nat), t ≠ 71 → t ≠ 3 → w7.heap[b]? = some (.cells cur t f) → ¬ (b = wb ∨ vm.ownBlock = some b) := by
    intro b cur t f e1 e2 hb hx
    rcases hx with rfl | hx
    · exact not_both hb hw7 (ty_ne e1)
    · exact row_ne hm7 hb (Ne.symm e2) hx
  have rdf : ∀ {x : Option Addr} {l : List (Int × Int)}, RdT wc x l → RdT (w8.setCell ⟨wb, 5, none⟩ (.slice x9 n9 c9)) x l := fun h =>
    (h.fr F7 (fun b cur e => hX7 _ _ _ _ (by decide) (by decide) e)).fr F8 (fun b cur e => hX8 _ _ _ _ (by decide) (by decide) e)
  have e1 : List.replicate n (mk c) ++ [mk c] = List.replicate (n + 1) (mk c) := by rw [List.replicate_succ']
  have e2 : List.replicate n (mk c) ++ [mk c, mk c] = List.replicate (n + 2) (mk c) := by rw [List.replicate_succ', List.replicate_succ', List.append_assoc]; rfl
  have e3 : List.replicate n (mk c) ++ [mk c, mk c, mk c] = List.replicate (n + 3) (mk c) := by rw [List.replicate_succ', List.replicate_succ', List.replicate_succ', List.append_assoc, List.append_assoc]; rfl
  refine ⟨v8, .slice x9 n9 c9, _, rfl, world_set5 hw8, ownsRow_fr hown9 F8 (fun g cur _ e => hX8 _ _ _ _ (by decide) (by decide) e), ?_, ?_, ?_, ?_⟩
  · rw [marks_succ]
    exact ownsRow_fr hown10 (Fr.set w8 ⟨wb, 5, none⟩ (.slice x9 n9 c9)) (fun g cur _ e hx => by simp only at hx; subst hx; exact not_both e hw8 (ty_ne (by decide)))
  · intro x hx
    simp only [List.mem_cons, List.not_mem_nil, or_false] at hx
    rcases hx with rfl | rfl | rfl | rfl
    · exact ⟨rdf rd0, by simp only; omega⟩
    · exact ⟨rdf (e1 ▸ rd5), by simp only; omega⟩
    · exact ⟨rdf (e2 ▸ rd6), by simp only; omega⟩
    · exact ⟨rdf (e3 ▸ rd7), by simp only; omega⟩
  · refine (hFd.mono ?_).trans ((F7.mono ?_).trans (F8.mono ?_))
    · rintro b (h | h)
      · exact Or.inl h
      · exact Or.inr (Or.inl h)
    · rintro b (h | h)
      · exact Or.inl h
      · exact Or.inr (Or.inr (Or.inl h))
    · rintro b (h | h)
      · exact Or.inl h
      · exact Or.inr (Or.inr (Or.inr h))
  · have h1 := (below_grew B7 (b_alloc _ _) hB).grown hg10 (by simp; omega) (fun k e => (World.ownsRow.lt hm7 k e).1)
    exact h1.setCell (p := ⟨wb, 5, none⟩) hBw _

set_option maxRecDepth 100000 in
set_option maxHeartbeats 1000000 in
theorem own_any {w : World} {B wb c : Nat} {vts vp vm : Value} {hs : List Lst} {ao : Option Addr} {l : List (Int × Int)}
    (hw : w.heap[wb]? = some (worldB vts (c : Int) vp vm)) (hB : B ≤ wb) (hp : w.ownsRow B 102 1 vp hs.length (hs.map Lst.v)) (hsl : hs.length = 4 * c) (hm : OwnI w B vm (marks c))
    (hl : OwnP w B (.slice ao l.length l.length) l) (hc : c ≤ 2000000) (hlen : l.length ≤ 8000) :
    Calls Tryz.prog 103 #[.pointer (some ⟨wb, 2, none⟩), .slice ao l.length l.length] w fun e w' => e = .returned (.tuple #[]) ∧ OwnDone w w' B wb c vts vp vm hs ao := by
  obtain ⟨k0, k1, k2, k3, k4, k5, kf⟩ := world_cells hw
  have f2 := kf 2
  have HW : Hid (w.heap[wb]? = some (worldB vts (c : Int) vp vm)) := hw
  clear hw kf
  go_enter Tryz.func103, Tryz.ntmps103
  go_wp2_with fail
  go_loopw [4] (fun i wr => ∃ k : Nat, k ≤ l.length ∧ i = .int .i64 (k : Int) ∧ OwnR w wr B wb c vts vp vm ao l k) (fun i _ => l.length - (intOf i).toNat)
  case atStart => exact ⟨0, Nat.zero_le _, rfl, OwnR.start HW.out hB hl⟩
  case round =>
    obtain ⟨k, hk, rfl, hR⟩ := hrel
    obtain ⟨-, -, j2, -, -, -, -⟩ := world_cells hR.1
    by_cases hlt : k < l.length
    · obtain ⟨g, cur, rfl, hg1, hg2, -⟩ := hR.2.1.block (k := k) (by simp; omega)
      have i1 : (0 : Int) ≤ (k : Int) := by omega
      have i2 : (k : Int) < (l.length : Int) := by omega
      clear k0 k1 k2 k3 k4 k5 f2 hp hm hl
      go_wp2_with fail
      refine (piece_any (by omega) (by omega)).mono ?_
      rintro e w2 ⟨rfl, hb2⟩
      obtain ⟨g', cur', e1, -, -, m1, m2, m3, m4⟩ := (hR.2.1.below hb2).block (k := k) (by simp; omega)
      cases e1
      go_wp2_with fail
      go_roundw
      case rel => exact ⟨k + 1, by omega, by go_num, hR.next hlt hb2 hg1 ⟨cur, hg2⟩⟩
      case measure => simp [intOf]; omega
    · have hkl : k = l.length := by omega
      subst hkl
      obtain ⟨hR1, hR2, hR3, hR4⟩ := hR
      obtain ⟨j0, j1, j2, j3, j4, j5, jf⟩ := world_cells hR1
      have f3 := jf 3
      have f5 := jf 5
      have HR1 : Hid (wr.heap[wb]? = some (worldB vts ((c : Int) + 1) vp vm)) := hR1
      have own0 : OwnP wr B (.slice ao l.length l.length) (List.replicate l.length (mk c)) := by simpa using hR2
      have HL : Hid (OwnP w B (.slice ao l.length l.length) l) := hl
      clear k0 k1 k2 k3 k4 k5 f2 hR1 hR2 jf hl j0 j1 j4
      go_wp2_with fail
      refine (piece_any (by omega) (by omega)).mono ?_
      rintro e w2 ⟨rfl, hb2⟩
      have hBw : B ≤ w2.heap.size := by have := hb2.size; have := lt_of_some HR1.out; omega
      go_upto_region 6 with (at_builtin; go_must (refine wp_grow_pieces (by rfl) (.tmp 29) (.tmp 35) (by rfl) B _ l.length (List.replicate l.length (mk c)) [mk c] (by simp) (by rfl) (by exact (own0.below hb2).below (b_alloc _ _)) _ _ _ (by rfl) (by rfl) (by exact rdp_lit w2 #[.int .i64 (-((c : Int) + 1)), .int .i64 ((c : Int) + 1)] [mk c] rfl (by simp [maxLen])) (by simp) (by simp; omega) (by simp; omega) ?_); intro v5 w3 hown5 hb5)
      have G3 : Grew wr w3 := b_trans (b_trans hb2 (b_alloc _ _)) hb5
      have own3 : OwnP w3 B (.slice ao l.length l.length) (List.replicate l.length (mk c)) := own0.below G3
      have l2 : w3.cell? ⟨wb, 2, none⟩ = some (.int .i64 ((c : Int) + 1)) := G3.cell j2
      have hB3 : B ≤ w3.heap.size := Nat.le_trans hBw (by have := hb5.size; simp at this; omega)
      go_cut [6] (fun v wc => OwnP wc B v (List.replicate l.length (mk c) ++ [mk c, mk c]) ∧ Grew w3 wc)
      case first =>
        have g3 := Grew.refl w3
        clear hp hm own0 hown5
        go_region_held3 (fun w' => w'.cell? ⟨wb, 2, none⟩ = some (.int .i64 ((c : Int) + 1)) ∧ Grew w3 w')
          (first | (go_split_ands; refine ⟨?_, ?_⟩ <;> first | assumption | go_keep | (exact cell_later (by assumption) (by assumption)) | (exact Grew.drew (by assumption)) | (exact Grew.alloc (by assumption) _) | (exact Grew.more (by assumption) (by assumption))))
          (first | (go_at_call 74; refine (piece_any (by omega) (by omega)).mono ?_; rintro e w4 ⟨rfl, hb4⟩)
                 | (refine step_grow_pieces (by rfl) (.tmp 37) (.tmp 48) (by rfl) B _ l.length (List.replicate l.length (mk c)) [mk c, mk c] (by simp) (by rfl) (by go_split_ands; exact own3.grew (by assumption)) _ _ _ (by rfl) (by rfl) (by exact rdp_lit _ #[.int .i64 (-((c : Int) + 1)), .int .i64 ((c : Int) + 1), .int .i64 (-((c : Int) + 1)), .int .i64 ((c : Int) + 1)] [mk c, mk c] rfl (by simp [maxLen])) (by simp) (by simp; omega) (by go_split_ands; exact Nat.le_trans hB3 (Grew.le (by assumption))) ?_; intro v6 w5 hown6 hb6))
        all_goals go_wp2_with fail
        all_goals go_meet
        all_goals exact ⟨hown6, by go_split_ands; assumption⟩
      case rest =>
        rename World => w4
        obtain ⟨hown6, G4⟩ := hcut
        have own4 := own3.grew G4
        have m2 := G4.cell l2
        have hB4 : B ≤ w4.heap.size := Nat.le_trans hB3 G4.le
        go_upto_region 7 with fail
        go_cut [7] (fun v wd => OwnP wd B v (List.replicate l.length (mk c) ++ [mk c, mk c, mk c]) ∧ Grew w4 wd)
        case first =>
          have g4 := Grew.refl w4
          clear hp hm own0 own3 hown5 hown6 G4 G3 l2
          go_region_held3 (fun w' => w'.cell? ⟨wb, 2, none⟩ = some (.int .i64 ((c : Int) + 1)) ∧ Grew w4 w')
            (first | (go_split_ands; refine ⟨?_, ?_⟩ <;> first | assumption | go_keep | (exact cell_later (by assumption) (by assumption)) | (exact Grew.drew (by assumption)) | (exact Grew.alloc (by assumption) _) | (exact Grew.more (by assumption) (by assumption))))
            (first | (go_at_call 74; refine (piece_any (by omega) (by omega)).mono ?_; rintro e w5 ⟨rfl, hb4⟩)
                   | (refine step_grow_pieces (by rfl) (.tmp 50) (.tmp 66) (by rfl) B _ l.length (List.replicate l.length (mk c)) [mk c, mk c, mk c] (by simp) (by rfl) (by go_split_ands; exact own4.grew (by assumption)) _ _ _ (by rfl) (by rfl) (by exact rdp_lit _ #[.int .i64 (-((c : Int) + 1)), .int .i64 ((c : Int) + 1), .int .i64 (-((c : Int) + 1)), .int .i64 ((c : Int) + 1), .int .i64 (-((c : Int) + 1)), .int .i64 ((c : Int) + 1)] [mk c, mk c, mk c] rfl (by simp [maxLen])) (by simp) (by simp; omega) (by go_split_ands; exact Nat.le_trans hB4 (Grew.le (by assumption))) ?_; intro v6 w6 hown6 hb6))
          all_goals go_wp2_with fail
          all_goals go_meet
          all_goals exact ⟨hown6, by go_split_ands; assumption⟩
        case rest =>
          obtain ⟨hown7, G5⟩ := hcut
          have GR : Grew wr wc := b_trans (b_trans G3 G4) G5
          have hX : ∀ b (cur : Array Value) (t : TypeId) (f : Nat × Nat), t ≠ 71 → t ≠ 114 → w.heap[b]? = some (.cells cur t f) → ¬ (b = wb ∨ ∃ a, ao = some a ∧ b = a.block) := by
            intro b cur t f e1 e2 hb hx
            rcases hx with rfl | ⟨a, rfl, rfl⟩
            · exact not_both hb HW.out (ty_ne e1)
            · obtain ⟨cur', hc', -⟩ := HL.out.typed _ rfl
              exact not_both hb hc' (ty_ne e2)
          have hFd : Fr w wc (fun b => b = wb ∨ ∃ a, ao = some a ∧ b = a.block) := hR3.trans (Fr.of_below GR _)
          have hwd : wc.heap[wb]? = some (worldB vts ((c : Int) + 1) vp vm) := (Fr.of_below GR (fun _ => False)).at HR1.out id
          have hpd := ownsRow_fr hp hFd (fun g cur _ e => hX _ _ _ _ (by decide) (by decide) e)
          have hmd : OwnI wc B vm (marks c) := ownsRow_fr hm hFd (fun g cur _ e => hX _ _ _ _ (by decide) (by decide) e)
          have BD : Below B w wc := below_grew hR4 GR (Nat.le_trans hB (Nat.le_of_lt (lt_of_some HR1.out)))
          obtain ⟨a0, p0, e0, rd0, -⟩ := RdT.of_own (own0.grew GR)
          obtain rfl : ao = a0 := by injection e0
          obtain ⟨a5, p5, rfl, rd5, -⟩ := RdT.of_own (hown5.grew (b_trans G4 G5))
          obtain ⟨a6, p6, rfl, rd6, -⟩ := RdT.of_own (hown6.grew G5)
          obtain ⟨a7, p7, rfl, rd7, -⟩ := RdT.of_own hown7
          have hnvp : ¬ vp.ownBlock = some wb := row_ne hpd hwd (by decide)
          have hnvm : ¬ vm.ownBlock = some wb := row_ne hmd hwd (by decide)
          have hwa : ∀ o, (wc.alloc o).heap[wb]? = some (worldB vts ((c : Int) + 1) vp vm) := fun o => (Below.heap_alloc _ _ _ (lt_of_some hwd)).trans hwd
          have hBd : B ≤ wc.heap.size := by have := lt_of_some hwd; omega
          obtain ⟨-, -, d2, d3, -, d5, -⟩ := world_cells hwd
          clear G3 G4 G5 own0 own3 own4 hown5 hown6 hown7 hb2 hb5 j2 j3 j5 f3 f5 l2 m2 hp hm hR3 hR4
          go_upto_region 9 with (at_builtin; go_must (refine wp_append_lists (by rfl) (.tmp 72) (.tmp 77) (by rfl) B _ hs [(ao, _, _), (a5, _, p5), (a6, _, p6), (a7, _, p7)] (by rfl) (by exact World.ownsRow.alloc hpd _) _ _ _ (by rfl) (by rfl) (by exact World.news_of_block (heap_alloc_new wc _)) (by simp; omega) (by simp; omega) ?_); intro vp' w6 hown8 hg8; obtain ⟨x8, n8, c8, rfl⟩ := row_slice hown8; have hw6 := grown_at hg8 (hwa _) hnvp; obtain ⟨-, -, -, z3, -, -, zf⟩ := world_cells hw6; have zf3 := zf 3; clear zf)
          have hw7 := world_set3 (v := .slice x8 n8 c8) hw6
          have F7 : Fr wc (w6.setCell ⟨wb, 3, none⟩ (.slice x8 n8 c8)) (fun b => b = wb ∨ vp.ownBlock = some b) :=
            ((Fr.of_below (b_alloc _ _) _).trans ((Fr.of_grown hg8).mono (fun b h => Or.inr h))).trans ((Fr.set _ _ _).mono (fun b h => Or.inl h))
          have B7 : Below B w (w6.setCell ⟨wb, 3, none⟩ (.slice x8 n8 c8)) :=
            ((below_grew BD (b_alloc _ _) hBd).grown hg8 (by simp; omega) (fun k e => (World.ownsRow.lt hpd k e).1)).setCell (p := ⟨wb, 3, none⟩) hB _
          have hown9 := ownsRow_fr hown8 (Fr.set w6 ⟨wb, 3, none⟩ (.slice x8 n8 c8)) (fun g cur _ e hx => by simp only at hx; subst hx; exact not_both e hw6 (ty_ne (by decide)))
          clear hw6 z3 zf3 hown8 hg8
          generalize w6.setCell ⟨wb, 3, none⟩ (.slice x8 n8 c8) = w7 at *
          obtain ⟨-, -, y2, -, -, y5, yf⟩ := world_cells hw7
          have yf5 := yf 5
          have hm7 : OwnI w7 B vm (marks c) := ownsRow_fr hmd F7 (fun g cur e1 e hx => by
            rcases hx with rfl | hx
            · exact not_both e hwd (ty_ne (by decide))
            · exact row_ne hpd e (by decide) hx)
          have hpd' := hpd
          clear yf d2 d3 d5 hpd hmd
          have hwa7 : ∀ o, (w7.alloc o).heap[wb]? = some (worldB vts ((c : Int) + 1) (.slice x8 n8 c8) vm) := fun o => (Below.heap_alloc _ _ _ (lt_of_some hw7)).trans hw7
          have hlt7 := lt_of_some hw7
          go_region_law ((refine step_append_mark (by rfl) (.tmp 85) (.tmp 90) (by rfl) B vm (marks c) ((c : Int) + 1) (by rfl) (by exact World.ownsRow.alloc hm7 _) _ _ _ (by rfl) (by rfl) (by simp [Addr.add]) (by rw [marks_length]; omega) (by simp; omega) ?_; intro vm' w8 hown10 hg10; obtain ⟨x9, n9, c9, rfl⟩ := row_slice hown10; have hw8 := grown_at hg10 (hwa7 _) hnvm; obtain ⟨-, -, x2, -, -, x5, xf⟩ := world_cells hw8; have xf5 := xf 5; clear xf))
          all_goals go_wp2_with fail
          all_goals go_end0
          all_goals exact ⟨rfl, own_done hFd BD F7 B7 hwd hpd' hm7 hw7 hown9 hw8 ⟨hg10.os, hg10.tape, hg10.output, hg10.size, hg10.block⟩ hown10 rd0 rd5 rd6 rd7 hlen hB⟩

end Go.Proofs.YtfplgfodoiiobaaGreatDoor
