/- The walk of the statement's helper still: every list that came out reads as its owner wrote it. -/
import Derived.Test.YtfplgfodoiiobaaGreatDoorTreesK
namespace Go.Proofs.YtfplgfodoiiobaaGreatDoor
open Go.RowKit

theorem lists_form {w : World} {B : Nat} {vp : Value} {hs : List Lst} (hp : w.ownsRow B 102 1 vp hs.length (hs.map Lst.v)) :
    ∃ ao cap, vp = .slice ao hs.length cap ∧ ∀ i x, hs[i]? = some x → ∃ g, ao = some ⟨g, 0, none⟩ ∧ w.cell? ⟨g, i, none⟩ = some (.slice x.1 x.2.1 x.2.2) := by
  have hp' := hp
  rcases hp.2 with ⟨rfl, h0⟩ | ⟨g, cap, cur, rfl, hg, hh, -⟩
  · refine ⟨none, 0, by rw [h0], fun i x e => ?_⟩
    have := (List.getElem?_eq_some_iff.1 e).1
    omega
  · refine ⟨_, cap, rfl, fun i x e => ⟨g, rfl, ?_⟩⟩
    have := (List.getElem?_eq_some_iff.1 e).1
    rw [World.ownsRow.cellAt hp' i (by omega), List.getElem?_map, e]
    rfl

set_option maxRecDepth 100000 in
set_option maxHeartbeats 1000000 in
theorem still_any {w : World} {B wb c : Nat} {vts vp vm : Value} {n : Int} {hs : List Lst}
    (hw : w.heap[wb]? = some (worldB vts n vp vm)) (hp : w.ownsRow B 102 1 vp hs.length (hs.map Lst.v)) (hsl : hs.length = 4 * c) (hh : Held w hs) (hm : OwnI w B vm (marks c)) (hc : c ≤ 2000000) :
    Calls Tryz.prog 38 #[.pointer (some ⟨wb, 2, none⟩)] w fun e w' => e = .returned (.bool true) ∧ Grew w w' := by
  obtain ⟨-, -, -, k3, -, k5, -⟩ := world_cells hw
  obtain ⟨am, cm, rfl, rdm, -, -, -⟩ := hm.form
  obtain ⟨ap, cp, rfl, rdp⟩ := lists_form hp
  rw [marks_length] at k5
  have HP : Hid (∀ i x, hs[i]? = some x → ∃ g, ap = some ⟨g, 0, none⟩ ∧ w.cell? ⟨g, i, none⟩ = some (.slice x.1 x.2.1 x.2.2)) := rdp
  have HM : Hid (RdI w am (marks c)) := rdm
  have HH : Hid (Held w hs) := hh
  have HL : Hid (hs.length = 4 * c) := hsl
  clear hw hp hm rdm rdp hh hsl
  go_enter Tryz.func38, Tryz.ntmps38
  go_wp2_with fail
  go_loopw [3, 5] (fun p i wr => ∃ k : Nat, k ≤ c ∧ p = .int .i64 ((4 * k : Nat) : Int) ∧ i = .int .i64 (k : Int) ∧ Grew w wr) (fun _ i _ => c - (intOf i).toNat)
  case atStart => exact ⟨0, Nat.zero_le _, rfl, rfl, Grew.refl _⟩
  case round =>
    obtain ⟨k, hk, rfl, rfl, hG⟩ := hrel
    have d3 := hG.cell k3
    have d5 := hG.cell k5
    by_cases hlt : k < c
    · have cc : ∃ b off, am = some ⟨b, off, none⟩ ∧ wr.cell? ⟨b, off + k, none⟩ = some (.int .i64 ((k : Int) + 1)) := by
        rcases HM.out with h | ⟨b, off, h1, h2⟩
        · have := marks_length c; rw [h] at this; simp at this; omega
        · refine ⟨b, off, h1, hG.cell ?_⟩
          have := h2 k (by rw [marks_length]; exact hlt)
          rwa [marks_get hlt] at this
      obtain ⟨b, off, rfl, e1⟩ := cc
      have i1 : (0 : Int) ≤ (k : Int) := by omega
      have i2 : (k : Int) < (c : Int) := by omega
      have i3 : (0 : Int) < (k : Int) + 1 := by omega
      go_wp2_with fail
      go_loopw [3, 7] (fun p q wq => ∃ t : Nat, t ≤ 4 ∧ p = .int .i64 ((4 * k + t : Nat) : Int) ∧ q = .int .i64 (t : Int) ∧ Grew w wq) (fun _ q _ => 4 - (intOf q).toNat)
      case atStart => exact ⟨0, by omega, rfl, rfl, hG⟩
      case round =>
        clear hG d3 d5 e1
        obtain ⟨t, ht, rfl, rfl, hG⟩ := hrel
        by_cases htl : t < 4
        · have hil : 4 * k + t < hs.length := by rw [HL.out]; omega
          obtain ⟨x, hx⟩ : ∃ x, hs[4 * k + t]? = some x := ⟨_, List.getElem?_eq_getElem hil⟩
          obtain ⟨g, rfl, eg⟩ := HP.out _ _ hx
          obtain ⟨rx, hxl⟩ := HH.out _ _ hx
          rw [show (4 * k + t) / 4 = k from by omega] at rx
          obtain ⟨xo, xn, xc⟩ := x
          simp only at eg rx hxl
          have HR : Hid (RdP w xo (List.replicate xn (mk k))) := rx.1
          clear rx hx
          have j1 : (0 : Int) ≤ ((4 * k + t : Nat) : Int) := by omega
          have j2 : ((4 * k + t : Nat) : Int) < (hs.length : Int) := by omega
          have j3 : hs.length ≤ 8000000 := by rw [HL.out]; omega
          have ht4 : (t : Int) < 4 := by omega
          generalize hy : 4 * k + t = y at eg j1 j2 hil ⊢
          have HY : Hid (4 * k + t = y) := hy
          clear hy hil
          go_wp2_with fail
          go_loopw [8] (fun j wj => ∃ s : Nat, s ≤ xn ∧ j = .int .i64 (s : Int) ∧ Grew w wj) (fun j _ => xn - (intOf j).toNat)
          case atStart => exact ⟨0, by omega, rfl, hG⟩
          case round =>
            clear hG
            obtain ⟨s, hs', rfl, hG⟩ := hrel
            have d3 := hG.cell k3
            have dg := hG.cell eg
            by_cases hsl : s < xn
            · obtain ⟨pb, po, rfl, q1, q2⟩ := HR.out.at (k := s) (by simpa using hsl)
              have e0 : (List.replicate xn (mk k)).getD s (0, 0) = mk k := by simp [hsl]
              rw [e0] at q1 q2
              unfold mk at q1 q2
              simp only at q1 q2
              have r1 := hG.cell q1
              have r2 := hG.cell q2
              have s1 : (0 : Int) ≤ (s : Int) := by omega
              have s2 : (s : Int) < (xn : Int) := by omega
              clear k3 k5 q1 q2 eg
              go_wp2_with fail
              go_region_held3 (fun w' => w'.cell? ⟨wb, 3, none⟩ = some (.slice (some ⟨g, 0, none⟩) hs.length cp) ∧ w'.cell? ⟨g, y, none⟩ = some (.slice (some ⟨pb, po, none⟩) xn xc) ∧ w'.cell? ⟨pb, po + s * 2, none⟩ = some (.int .i64 (-((k : Int) + 1))) ∧ w'.cell? ⟨pb, po + s * 2 + 1, none⟩ = some (.int .i64 ((k : Int) + 1)) ∧ Grew w w')
                (first | (go_split_ands; refine ⟨?_, ?_, ?_, ?_, ?_⟩ <;> first | assumption | go_keep | (exact cell_later (by assumption) (by assumption)) | (exact Grew.drew (by assumption)) | (exact Grew.more (by assumption) (by assumption))))
                (first | (go_at_call 74; refine (piece_any (by omega) (by omega)).mono ?_; rintro e w5 ⟨rfl, hb5⟩))
              all_goals go_wp2_with fail
              all_goals go_roundw
              case rel => exact ⟨s + 1, by omega, by go_num, by go_split_ands; assumption⟩
              case measure => simp [intOf]; omega
            · go_wp2_with fail
              go_roundw
              case rel => exact ⟨t + 1, by omega, by rw [← HY.out]; go_num, by go_num, hG⟩
              case measure => simp [intOf]; omega
        · have ht4 : t = 4 := by omega
          subst ht4
          go_wp2_with fail
          go_roundw
          case rel => exact ⟨k + 1, by omega, by go_num, by go_num, hG⟩
          case measure => simp [intOf]; omega
    · go_wp2_with fail
      go_ret
      exact ⟨rfl, hG⟩

end Go.Proofs.YtfplgfodoiiobaaGreatDoor
