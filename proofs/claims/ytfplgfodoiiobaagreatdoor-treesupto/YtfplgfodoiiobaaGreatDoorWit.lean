/- A world in which the listed package-level variables read as the rows say: for the witness. -/
import Derived.Test.YtfplgfodoiiobaaGreatDoorCards
import Derived.Test.YtfplgfodoiiobaaGreatDoorTie
import Derived.WalkKit
import Derived.ProofKit
import Derived.OpenShut
import Derived.LaidHandle
import Derived.LaidLaws
import Derived.Deep.DeepHandedRow
import Derived.Deep.DeepWitnessRowRef
namespace Go.Proofs.YtfplgfodoiiobaaGreatDoor
open Go.ChangeShapes Go.WideShapes Go.ChangeAt Go.RowKit

theorem laid_world (os : Os) : ∃ w0 : World, w0.os = os ∧ (∀ args : Array Value, (w0.forCall (fun _ _ => 0) ⟨#[], args, []⟩).variablesRefB Tryz.checked.prog = true)
    ∧ (∀ args : Array Value, ((w0.forCall (fun _ _ => 0) ⟨#[], args, []⟩).heap.toList.drop Tryz.checked.prog.globals.size).take ((begin Tryz.checked.prog (fun _ _ => 0) default).world.heap.size - Tryz.checked.prog.globals.size) = (begin Tryz.checked.prog (fun _ _ => 0) default).world.heap.toList.drop Tryz.checked.prog.globals.size)
    ∧ (∀ args : Array Value, laidMetH Tryz.prog Rows.treesUptoRow.laid (w0.forCall (fun _ _ => 0) ⟨#[], args, []⟩).memory)
    ∧ Input.okWideB Tryz.checked.prog (w0.forCall (fun _ _ => 0) ⟨#[], #[.slice none 0 0], []⟩) 3 ⟨#[], #[.slice none 0 0], []⟩ = true
    ∧ (∀ (H : Type) (enc : TypeId × Value → H), DataW.whole enc Tryz.prog (w0.forCall (fun _ _ => 0) ⟨#[], #[.slice none 0 0], []⟩).memory Tryz.f3.params.toList Rows.treesSpec.vars false #[Value.slice none 0 0].toList 8 = some ([.nil], [], []))
    ∧ (∀ (H : Type) (enc : TypeId × Value → H), (Rows.OpenSpec.upto Rows.treesSpec).bare.sizedB enc Tryz.prog Tryz.f3 false (w0.forCall (fun _ _ => 0) ⟨#[], #[.slice none 0 0], []⟩).memory #[.slice none 0 0] 8 = true) :=
  ⟨(let w0 := World.holding Tryz.prog os ⟨#[.cells #[.string ⟨#[116, 104, 101, 32, 100, 105, 115, 107, 32, 114, 101, 102, 117, 115, 101, 115, 32, 105, 116]⟩] 376, .cells #[.string ⟨#[116, 104, 101, 32, 109, 97, 99, 104, 105, 110, 101, 32, 115, 116, 111, 112, 115, 32, 97, 104, 101, 97, 100, 32, 111, 102, 32, 105, 116]⟩] 376, .cells #[.string ⟨#[102, 105, 108, 101, 32, 50, 32, 105, 115, 32, 110, 111, 32, 99, 104, 101, 99, 107, 112, 111, 105, 110, 116]⟩] 376, .cells #[.string ⟨#[116, 104, 101, 114, 101, 32, 105, 115, 32, 110, 111, 32, 102, 117, 114, 116, 104, 101, 114, 32, 101, 112, 111, 99, 104]⟩] 376, .cells #[.string ⟨#[116, 104, 101, 32, 98, 117, 102, 102, 101, 114, 32, 104, 97, 115, 32, 110, 111, 32, 115, 117, 99, 104, 32, 116, 101, 120, 116]⟩] 376], #[], []⟩;
    { w0 with heap := (((((((((w0.heap.modify 7 fun
      | .cells _ t frozen => .cells #[.int .u8 0, .int .u8 1, .int .u8 28, .int .u8 2, .int .u8 29, .int .u8 14, .int .u8 24, .int .u8 3, .int .u8 30, .int .u8 22, .int .u8 20, .int .u8 15, .int .u8 25, .int .u8 17, .int .u8 4, .int .u8 8, .int .u8 31, .int .u8 27, .int .u8 13, .int .u8 23, .int .u8 21, .int .u8 19, .int .u8 16, .int .u8 7, .int .u8 26, .int .u8 12, .int .u8 18, .int .u8 6, .int .u8 11, .int .u8 5, .int .u8 10, .int .u8 9] t frozen
      | o => o).modify 8 fun
      | .cells _ t frozen => .cells #[.int .u8 0, .int .u8 1, .int .u8 56, .int .u8 2, .int .u8 57, .int .u8 49, .int .u8 28, .int .u8 3, .int .u8 61, .int .u8 58, .int .u8 42, .int .u8 50, .int .u8 38, .int .u8 29, .int .u8 17, .int .u8 4, .int .u8 62, .int .u8 47, .int .u8 59, .int .u8 36, .int .u8 45, .int .u8 43, .int .u8 51, .int .u8 22, .int .u8 53, .int .u8 39, .int .u8 33, .int .u8 30, .int .u8 24, .int .u8 18, .int .u8 12, .int .u8 5, .int .u8 63, .int .u8 55, .int .u8 48, .int .u8 27, .int .u8 60, .int .u8 41, .int .u8 37, .int .u8 16, .int .u8 46, .int .u8 35, .int .u8 44, .int .u8 21, .int .u8 52, .int .u8 32, .int .u8 23, .int .u8 11, .int .u8 54, .int .u8 26, .int .u8 40, .int .u8 15, .int .u8 34, .int .u8 20, .int .u8 31, .int .u8 10, .int .u8 25, .int .u8 14, .int .u8 19, .int .u8 9, .int .u8 13, .int .u8 8, .int .u8 7, .int .u8 6] t frozen
      | o => o).modify 6 fun
      | .cells _ t frozen => .cells #[.int .u64 1, .int .u64 10, .int .u64 100, .int .u64 1000, .int .u64 10000, .int .u64 100000, .int .u64 1000000, .int .u64 10000000, .int .u64 100000000, .int .u64 1000000000, .int .u64 10000000000, .int .u64 100000000000, .int .u64 1000000000000, .int .u64 10000000000000, .int .u64 100000000000000, .int .u64 1000000000000000, .int .u64 10000000000000000, .int .u64 100000000000000000, .int .u64 1000000000000000000, .int .u64 10000000000000000000] t frozen
      | o => o).modify 5 fun
      | .cells _ t frozen => .cells #[.iface 318 (.agg #[.pointer (some ⟨9, 88, none⟩)])] t frozen
      | o => o).modify 1 fun
      | .cells _ t frozen => .cells #[.iface 358 (.pointer (some ⟨14, 0, none⟩))] t frozen
      | o => o).modify 2 fun
      | .cells _ t frozen => .cells #[.iface 358 (.pointer (some ⟨15, 0, none⟩))] t frozen
      | o => o).modify 3 fun
      | .cells _ t frozen => .cells #[.iface 358 (.pointer (some ⟨16, 0, none⟩))] t frozen
      | o => o).modify 0 fun
      | .cells _ t frozen => .cells #[.iface 358 (.pointer (some ⟨17, 0, none⟩))] t frozen
      | o => o).modify 4 fun
      | .cells _ t frozen => .cells #[.iface 358 (.pointer (some ⟨18, 0, none⟩))] t frozen
      | o => o) }),
    rfl, (fun args => by kernel_rfl), (fun args => by kernel_rfl), (fun args => laidMetH_of_parts (laidMet_of_run' 8 (by kernel_rfl) (by kernel_rfl)) (by kernel_rfl)), by kernel_rfl, (fun H enc => by kernel_rfl), (fun H enc => by kernel_rfl)⟩

theorem Tryz.own : ownKnob Tryz.prog.godebug = none := by kernel_rfl
theorem Tryz.laidOut : laidOutB Tryz.prog = true := by kernel_rfl

end Go.Proofs.YtfplgfodoiiobaaGreatDoor
