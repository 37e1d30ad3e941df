/- The walks of the small functions of a node: levels, pieces, bytes. -/
import Derived.Test.YtfplgfodoiiobaaGreatDoorShape
namespace Go.Proofs.YtfplgfodoiiobaaGreatDoor
open Go.RowKit

set_option maxHeartbeats 400000 in
theorem levels_any {w : World} {a : Option Addr} {h : Nat} {l : List (Int × Int)} (t : T w a h l) :
    Calls Tryz.prog 151 #[.pointer a] w fun e w' => e = .returned (.int .i64 (h : Int)) ∧ w' = w := by
  rcases t.inv with ⟨rfl, rfl, rfl⟩ | ⟨b, la, ra, p, hl, hr, ll, lr, rfl, hb, -⟩
  · clear t
    go_enter Tryz.func151, Tryz.ntmps151
    go_wp2
    go_ret
    exact ⟨rfl, rfl⟩
  · obtain ⟨-, -, -, -, c4, -, -⟩ := node_cells hb
    clear t hb
    go_enter Tryz.func151, Tryz.ntmps151
    go_wp2
    go_ret
    exact ⟨rfl, rfl⟩

set_option maxHeartbeats 400000 in
theorem pieces_any {w : World} {a : Option Addr} {h : Nat} {l : List (Int × Int)} (t : T w a h l) :
    Calls Tryz.prog 150 #[.pointer a] w fun e w' => e = .returned (.int .i64 (l.length : Int)) ∧ w' = w := by
  rcases t.inv with ⟨rfl, rfl, rfl⟩ | ⟨b, la, ra, p, hl, hr, ll, lr, rfl, hb, -⟩
  · clear t
    go_enter Tryz.func150, Tryz.ntmps150
    go_wp2
    go_ret
    exact ⟨rfl, rfl⟩
  · obtain ⟨-, -, -, -, -, c5, -⟩ := node_cells hb
    clear t hb
    go_enter Tryz.func150, Tryz.ntmps150
    go_wp2
    go_ret
    exact ⟨rfl, rfl⟩

set_option maxHeartbeats 400000 in
theorem bytes_any {w : World} {a : Option Addr} {h : Nat} {l : List (Int × Int)} (t : T w a h l) :
    Calls Tryz.prog 148 #[.pointer a] w fun e w' => e = .returned (.int .i64 (sz l)) ∧ w' = w := by
  rcases t.inv with ⟨rfl, rfl, rfl⟩ | ⟨b, la, ra, p, hl, hr, ll, lr, rfl, hb, -⟩
  · clear t
    go_enter Tryz.func148, Tryz.ntmps148
    go_wp2
    go_ret
    exact ⟨rfl, rfl⟩
  · obtain ⟨-, -, -, -, -, -, c6⟩ := node_cells hb
    clear t hb
    go_enter Tryz.func148, Tryz.ntmps148
    go_wp2
    go_ret
    exact ⟨rfl, rfl⟩

end Go.Proofs.YtfplgfodoiiobaaGreatDoor
