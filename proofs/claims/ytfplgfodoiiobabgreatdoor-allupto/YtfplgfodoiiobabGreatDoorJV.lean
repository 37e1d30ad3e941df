/- a part of the proof. -/
import Derived.Test.YtfplgfodoiiobabGreatDoorCards
import Derived.Test.YtfplgfodoiiobabGreatDoorTie
import Derived.WalkKit
import Derived.ProofKit
import Derived.OpenShut
import Derived.LaidHandle
import Derived.LaidLaws
import Derived.Deep.DeepHandedRow
import Derived.Deep.DeepWitnessRowRef
import Derived.Test.YtfplgfodoiiobabGreatDoorRows
import Derived.Test.YtfplgfodoiiobabGreatDoorChecked
import Derived.JoinedOf
import Derived.KernelRfl
open Option renaming none->O,some->M
open Go.Value renaming int->I,slice->Z,pointer->U
open Go.Obj renaming cells->C
open Go renaming World->F,Value->Y
open Go.Proofs.Tryz renaming prog→K
open Go.Proofs.Tryz
namespace Go.Proofs.YtfplgfodoiiobabGreatDoor
set_option maxRecDepth 100000
open Go.ChangeShapes Go.WideShapes Go.ChangeAt Go.RowKit
open Go
theorem QH (os:Os):∃w0:F,w0.os=os/\(∀args:Array Y,(w0.forCall (λ_ _=>0) ⟨#[],args,[]⟩).variablesRefB Tryz.checked.prog=true)
 /\(∀args:Array Y,((w0.forCall (λ_ _=>0) ⟨#[],args,[]⟩).heap.toList.drop Tryz.checked.prog.globals.size).take ((begin Tryz.checked.prog (λ_ _=>0) default).world.heap.size-Tryz.checked.prog.globals.size)=(begin Tryz.checked.prog (λ_ _=>0) default).world.heap.toList.drop Tryz.checked.prog.globals.size)
 /\(∀args:Array Y,laidMetH K Rows.allUptoRow.laid (w0.forCall (λ_ _=>0) ⟨#[],args,[]⟩).memory)
 /\Input.okWideB Tryz.checked.prog (w0.forCall (λ_ _=>0) ⟨#[],#[Z O 0 0],[]⟩) 3 ⟨#[],#[Z O 0 0],[]⟩=true
 /\(∀(aB:Type) (La:TypeId×Y->aB),DataW.whole La K (w0.forCall (λ_ _=>0) ⟨#[],#[Z O 0 0],[]⟩).memory Tryz.f3.params.toList Rows.allSpec.vars false #[Value.slice O 0 0].toList 8=M ([.nil],[],[]))
 /\(∀(aB:Type) (La:TypeId×Y->aB),(Rows.OpenSpec.upto Rows.allSpec).bare.sizedB La K Tryz.f3 false (w0.forCall (λ_ _=>0) ⟨#[],#[Z O 0 0],[]⟩).memory #[Z O 0 0] 8=true):=
 ⟨(let w0:=World.holding K os ⟨#[C #[.string ⟨#[116,104,101,32,100,105,115,107,32,114,101,102,117,115,101,115,32,105,116]⟩] 353,C #[.string ⟨#[116,104,101,32,109,97,99,104,105,110,101,32,115,116,111,112,115,32,97,104,101,97,100,32,111,102,32,105,116]⟩] 353,C #[.string ⟨#[102,105,108,101,32,50,32,105,115,32,110,111,32,99,104,101,99,107,112,111,105,110,116]⟩] 353,C #[.string ⟨#[116,104,101,114,101,32,105,115,32,110,111,32,102,117,114,116,104,101,114,32,101,112,111,99,104]⟩] 353,C #[.string ⟨#[116,104,101,32,98,117,102,102,101,114,32,104,97,115,32,110,111,32,115,117,99,104,32,116,101,120,116]⟩] 353],#[],[]⟩;
  { w0 with heap:=(((((((((w0.heap.modify 7 fun
   | C _ t frozen=> C #[I .u8 0,I .u8 1,I .u8 28,I .u8 2,I .u8 29,I .u8 14,I .u8 24,I .u8 3,I .u8 30,I .u8 22,I .u8 20,I .u8 15,I .u8 25,I .u8 17,I .u8 4,I .u8 8,I .u8 31,I .u8 27,I .u8 13,I .u8 23,I .u8 21,I .u8 19,I .u8 16,I .u8 7,I .u8 26,I .u8 12,I .u8 18,I .u8 6,I .u8 11,I .u8 5,I .u8 10,I .u8 9] t frozen
   |o=>o).modify 8 fun
   | C _ t frozen=> C #[I .u8 0,I .u8 1,I .u8 56,I .u8 2,I .u8 57,I .u8 49,I .u8 28,I .u8 3,I .u8 61,I .u8 58,I .u8 42,I .u8 50,I .u8 38,I .u8 29,I .u8 17,I .u8 4,I .u8 62,I .u8 47,I .u8 59,I .u8 36,I .u8 45,I .u8 43,I .u8 51,I .u8 22,I .u8 53,I .u8 39,I .u8 33,I .u8 30,I .u8 24,I .u8 18,I .u8 12,I .u8 5,I .u8 63,I .u8 55,I .u8 48,I .u8 27,I .u8 60,I .u8 41,I .u8 37,I .u8 16,I .u8 46,I .u8 35,I .u8 44,I .u8 21,I .u8 52,I .u8 32,I .u8 23,I .u8 11,I .u8 54,I .u8 26,I .u8 40,I .u8 15,I .u8 34,I .u8 20,I .u8 31,I .u8 10,I .u8 25,I .u8 14,I .u8 19,I .u8 9,I .u8 13,I .u8 8,I .u8 7,I .u8 6] t frozen
   |o=>o).modify 6 fun
   | C _ t frozen=> C #[I .u64 1,I .u64 10,I .u64 100,I .u64 1000,I .u64 10000,I .u64 100000,I .u64 1000000,I .u64 10000000,I .u64 100000000,I .u64 1000000000,I .u64 10000000000,I .u64 100000000000,I .u64 1000000000000,I .u64 10000000000000,I .u64 100000000000000,I .u64 1000000000000000,I .u64 10000000000000000,I .u64 100000000000000000,I .u64 1000000000000000000,I .u64 10000000000000000000] t frozen
   |o=>o).modify 5 fun
   | C _ t frozen=> C #[.iface 295 (.agg #[U (M ⟨9,119,O⟩)])] t frozen
   |o=>o).modify 0 fun
   | C _ t frozen=> C #[.iface 335 (U (M ⟨14,0,O⟩))] t frozen
   |o=>o).modify 1 fun
   | C _ t frozen=> C #[.iface 335 (U (M ⟨15,0,O⟩))] t frozen
   |o=>o).modify 3 fun
   | C _ t frozen=> C #[.iface 335 (U (M ⟨16,0,O⟩))] t frozen
   |o=>o).modify 2 fun
   | C _ t frozen=> C #[.iface 335 (U (M ⟨17,0,O⟩))] t frozen
   |o=>o).modify 4 fun
   | C _ t frozen=> C #[.iface 335 (U (M ⟨18,0,O⟩))] t frozen
   |o=>o) }),
  rfl,(λargs=>by kernel_rfl),(λargs=>by kernel_rfl),(λargs=>laidMetH_of_parts (laidMet_of_run' 8 (by kernel_rfl) (by kernel_rfl)) (by kernel_rfl)),by kernel_rfl,(λaB La=>by kernel_rfl),(λaB La=>by kernel_rfl)⟩
theorem IU:(Rows.allUptoRow.inPlace==Tryz.prog.inPlace 3)=true:=by kernel_rfl
theorem Ta:(Rows.allUptoRow.unfollowed==Tryz.prog.unfollowed 3)=true:=by kernel_rfl
theorem Zm:(Rows.allUptoRow.recurses==Tryz.prog.recurses 3)=true:=by kernel_rfl
theorem WI:(Rows.allUptoRow.named==Tryz.prog.varsNamed 3)=true:=by kernel_rfl
theorem WJ:joinedFacts K 3 Tryz.f3 (Rows.OpenSpec.upto Rows.allSpec).bare Rows.allUptoRow=true:=by
 unfold joinedFacts;rw[IU,Ta,Zm,WI]
 kernel_rfl
end Go.Proofs.YtfplgfodoiiobabGreatDoor
