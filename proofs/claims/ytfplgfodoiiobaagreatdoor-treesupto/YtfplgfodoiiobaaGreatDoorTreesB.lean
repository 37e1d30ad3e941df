/- The walks of the document's flat list: Size, part; and of the statement's helper same. -/
import Derived.Test.YtfplgfodoiiobaaGreatDoorHeldC
import Derived.Test.YtfplgfodoiiobaaGreatDoorTreesA
namespace Go.Proofs.YtfplgfodoiiobaaGreatDoor
open Go.RowKit

/-- A row of pieces of the call's own. -/
def OwnP (w : World) (B : Nat) (v : Value) (l : List (Int × Int)) : Prop := w.ownsRow B 114 2 v l.length (pcs l)

theorem sz_take {l : List (Int × Int)} {k : Nat} (h : k < l.length) : sz (l.take (k + 1)) = sz (l.take k) + (l.getD k (0, 0)).2 := by
  rw [List.take_succ_eq_append_getElem h, sz_append]
  simp [sz, h]

theorem sz_take_bd {l : List (Int × Int)} (ok : okL l) (hlen : l.length ≤ 9000) (k : Nat) : 0 ≤ sz (l.take k) ∧ sz (l.take k) ≤ 45000000 := by
  have := sz_bd (okL_take ok k)
  have h2 : (l.take k).length ≤ 9000 := by rw [List.length_take]; omega
  omega

theorem RdP.at {w : World} {ao : Option Addr} {l : List (Int × Int)} (h : RdP w ao l) {k : Nat} (hk : k < l.length) :
    ∃ b off, ao = some ⟨b, off, none⟩ ∧ w.cell? ⟨b, off + k * 2, none⟩ = some (.int .i64 (l.getD k (0, 0)).1) ∧ w.cell? ⟨b, off + k * 2 + 1, none⟩ = some (.int .i64 (l.getD k (0, 0)).2) := by
  rcases h with rfl | ⟨b, off, h1, h2⟩
  · simp at hk
  · exact ⟨b, off, h1, h2 k hk⟩

theorem okP_at {l : List (Int × Int)} (ok : okL l) {k : Nat} (hk : k < l.length) : okP (l.getD k (0, 0)) := ok _ (by simp [hk])

set_option maxHeartbeats 1000000 in
theorem rsize_any {w : World} {ao : Option Addr} {la ca : Nat} {l : List (Int × Int)} (hr : RdP w ao l) (e1 : la = l.length) (ok : okL l) (hlen : l.length ≤ 9000) :
    Calls Tryz.prog 106 #[.slice ao la ca] w fun e w' => e = .returned (.int .i64 (sz l)) ∧ w' = w := by
  subst e1
  go_enter Tryz.func106, Tryz.ntmps106
  go_wp2_with fail
  go_loop [3, 4] (fun n i => ∃ k : Nat, k ≤ l.length ∧ i = .int .i64 (k : Int) ∧ n = .int .i64 (sz (l.take k))) (fun _ i => l.length - (intOf i).toNat)
  case atStart => exact ⟨0, Nat.zero_le _, rfl, rfl⟩
  case round =>
    obtain ⟨k, hk, rfl, rfl⟩ := hrel
    have hb := sz_take_bd ok hlen k
    by_cases hlt : k < l.length
    · obtain ⟨b, off, rfl, c1, c2⟩ := hr.at hlt
      have okk := okP_at ok hlt
      have HS : Hid (sz (l.take (k + 1)) = sz (l.take k) + (l.getD k (0, 0)).2) := sz_take hlt
      generalize l.getD k (0, 0) = p at c1 c2 okk HS
      obtain ⟨px, py⟩ := p
      simp only at c1 c2 HS
      unfold okP at okk
      simp only at okk
      have i1 : (0 : Int) ≤ (k : Int) := by omega
      have i2 : (k : Int) < (l.length : Int) := by omega
      clear hr
      go_wp2_with fail
      go_round
      case rel => exact ⟨k + 1, by omega, by go_num, by rw [HS.out]⟩
      case measure => simp [intOf]; omega
    · go_wp2_with fail
      go_ret
      exact ⟨by rw [List.take_of_length_le (by omega)]; rfl, rfl⟩

set_option maxHeartbeats 1000000 in
theorem same_any {w : World} {ao bo : Option Addr} {la ca lb cb : Nat} {l : List (Int × Int)} (ha : RdP w ao l) (hb : RdP w bo l) (e1 : la = l.length) (e2 : lb = l.length) (hlen : l.length ≤ 100000000) :
    Calls Tryz.prog 65 #[.slice ao la ca, .slice bo lb cb] w fun e w' => e = .returned (.bool true) ∧ ∃ n, w' = w.drewN n := by
  subst e1 e2
  go_enter Tryz.func65, Tryz.ntmps65
  go_wp2_with fail
  go_loopw [5] (fun i wr => ∃ k : Nat, k ≤ l.length ∧ i = .int .i64 (k : Int) ∧ ∃ n, wr = w.drewN n) (fun i _ => l.length - (intOf i).toNat)
  case atStart => exact ⟨0, Nat.zero_le _, rfl, 0, rfl⟩
  case round =>
    obtain ⟨k, hk, rfl, n, rfl⟩ := hrel
    by_cases hlt : k < l.length
    · obtain ⟨b1, o1, rfl, c1, c2⟩ := ha.at hlt
      obtain ⟨b2, o2, rfl, d1, d2⟩ := hb.at hlt
      generalize l.getD k (0, 0) = p at c1 c2 d1 d2
      obtain ⟨px, py⟩ := p
      simp only at c1 c2 d1 d2
      have i1 : (0 : Int) ≤ (k : Int) := by omega
      have i2 : (k : Int) < (l.length : Int) := by omega
      clear ha hb
      go_wp2_with fail
      go_quiet (fail)
      go_wp2_with fail
      go_roundw
      case rel => exact ⟨k + 1, by omega, by go_num, _, rfl⟩
      case measure => simp [intOf]; omega
    · go_wp2_with fail
      go_ret
      exact ⟨rfl, n, rfl⟩

end Go.Proofs.YtfplgfodoiiobaaGreatDoor
