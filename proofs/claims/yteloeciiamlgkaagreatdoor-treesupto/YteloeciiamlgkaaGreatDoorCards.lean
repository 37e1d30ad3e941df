/-
  DERIVED. GIVEN WITH THE SEED: THE CARDS: each row of YteloeciiamlgkaaGreatDoorRows.lean that lists a variable, with what it lists TIED to the program's text (the seventh form; the later family's looks); each row that meets fmt, with fmt's text TOLD by the authors' own Lean function (tested against real Go, not proved from fmt's source: count such statements apart). THE CARD IS WHAT COUNTS. Prove the row's statement (the work); the ties are given (YteloeciiamlgkaaGreatDoorTie.lean); close each card by the builder's one call (the guide's Derived/Test/ToyasCard.lean, 'card_holds'). Laid BY PROGRAM, IN A SANDBOX (cutbox-door.mjs). By AI agents, Wed Nov 11 2026. No macro, syntax, notation, axiom, sorry.
-/
import Derived.Test.YteloeciiamlgkaaGreatDoorRows
import GoSem.ClaimSeven
namespace Go.Proofs.YteloeciiamlgkaaGreatDoor
namespace Rows

/-- THE TIED CARD OF 'quilllaw.Trees'. -/
def treesCard : Claim7 := { stood := { row := treesRow, standIns := [], harness := (true, "0d3877f14ba4f30dd2ffd9068490060686c4d3b7e3d3e0f931c7f3fb6b4388a4"), looks := true }, kinds := [], alts := [], laidByText := true, laidKinds := [.data, .data, .data, .handle, .sentinel, .sentinel, .sentinel], laidTests := true, laidLooks := .later }
def TreesCardSaid : Prop := Claim7.holds Tryz.pinned (.plain (OpenSpec.ofChange treesSpec)) treesCard

/-- THE TIED CARD OF 'quilllaw.Texts'. -/
def textsCard : Claim7 := { stood := { row := textsRow, standIns := [], harness := (true, "0d3877f14ba4f30dd2ffd9068490060686c4d3b7e3d3e0f931c7f3fb6b4388a4"), looks := true }, kinds := [], alts := [], laidByText := true, laidKinds := [.data, .data, .data, .handle, .sentinel, .sentinel, .sentinel], laidTests := true, laidLooks := .later }
def TextsCardSaid : Prop := Claim7.holds Tryz.pinned (.plain (OpenSpec.ofChange textsSpec)) textsCard

/-- THE TIED CARD OF 'quilllaw.Disks'. -/
def disksCard : Claim7 := { stood := { row := disksRow, standIns := [], harness := (true, "0d3877f14ba4f30dd2ffd9068490060686c4d3b7e3d3e0f931c7f3fb6b4388a4"), looks := true }, kinds := [], alts := [], laidByText := true, laidKinds := [.data, .data, .data, .handle, .sentinel, .sentinel, .sentinel], laidTests := true, laidLooks := .later }
def DisksCardSaid : Prop := Claim7.holds Tryz.pinned (.plain (OpenSpec.ofChange disksSpec)) disksCard

/-- THE TIED CARD OF 'quillkeep.Typed'. -/
def typedCard : Claim7 := { stood := { row := typedRow, standIns := [], harness := (true, "0d3877f14ba4f30dd2ffd9068490060686c4d3b7e3d3e0f931c7f3fb6b4388a4"), looks := true }, kinds := [], alts := [], laidByText := true, laidKinds := [.data, .data, .data, .handle, .sentinel, .sentinel, .sentinel], laidTests := true, laidLooks := .later }
def TypedCardSaid : Prop := Claim7.holds Tryz.pinned (.plain (OpenSpec.ofChange typedSpec)) typedCard

/-- THE TIED CARD OF 'quillkeep.Copied'. -/
def copiedCard : Claim7 := { stood := { row := copiedRow, standIns := [], harness := (true, "0d3877f14ba4f30dd2ffd9068490060686c4d3b7e3d3e0f931c7f3fb6b4388a4"), looks := true }, kinds := [], alts := [], laidByText := true, laidKinds := [.data, .data, .data, .handle, .sentinel, .sentinel, .sentinel], laidTests := true, laidLooks := .later }
def CopiedCardSaid : Prop := Claim7.holds Tryz.pinned (.plain (OpenSpec.ofChange copiedSpec)) copiedCard

/-- THE TIED CARD OF 'quillkeep.Clipped'. -/
def clippedCard : Claim7 := { stood := { row := clippedRow, standIns := [], harness := (true, "0d3877f14ba4f30dd2ffd9068490060686c4d3b7e3d3e0f931c7f3fb6b4388a4"), looks := true }, kinds := [], alts := [], laidByText := true, laidKinds := [.data, .data, .data, .handle, .sentinel, .sentinel, .sentinel], laidTests := true, laidLooks := .later }
def ClippedCardSaid : Prop := Claim7.holds Tryz.pinned (.plain (OpenSpec.ofChange clippedSpec)) clippedCard

/-- THE TIED CARD OF 'quilllaw.Wholes'. -/
def wholesCard : Claim7 := { stood := { row := wholesRow, standIns := [], harness := (true, "0d3877f14ba4f30dd2ffd9068490060686c4d3b7e3d3e0f931c7f3fb6b4388a4"), looks := true }, kinds := [], alts := [], laidByText := true, laidKinds := [.data, .data, .data, .handle, .sentinel, .sentinel, .sentinel], laidTests := true, laidLooks := .later }
def WholesCardSaid : Prop := Claim7.holds Tryz.pinned (.plain (OpenSpec.ofChange wholesSpec)) wholesCard

/-- THE SECOND FORM's CARD OF 'quilllaw.Trees'. -/
def treesUptoCard : Claim7 := { stood := { row := treesUptoRow, standIns := [], harness := (true, "0d3877f14ba4f30dd2ffd9068490060686c4d3b7e3d3e0f931c7f3fb6b4388a4"), looks := true }, kinds := [], alts := [], laidByText := true, laidKinds := [.data, .data, .data, .handle, .sentinel, .sentinel, .sentinel], laidTests := true, laidLooks := .later }
def TreesUptoCardSaid : Prop := Claim7.holds Tryz.pinned (.plain (OpenSpec.upto treesSpec)) treesUptoCard

/-- THE SECOND FORM's CARD OF 'quilllaw.Texts'. -/
def textsUptoCard : Claim7 := { stood := { row := textsUptoRow, standIns := [], harness := (true, "0d3877f14ba4f30dd2ffd9068490060686c4d3b7e3d3e0f931c7f3fb6b4388a4"), looks := true }, kinds := [], alts := [], laidByText := true, laidKinds := [.data, .data, .data, .handle, .sentinel, .sentinel, .sentinel], laidTests := true, laidLooks := .later }
def TextsUptoCardSaid : Prop := Claim7.holds Tryz.pinned (.plain (OpenSpec.upto textsSpec)) textsUptoCard

/-- THE SECOND FORM's CARD OF 'quilllaw.Disks'. -/
def disksUptoCard : Claim7 := { stood := { row := disksUptoRow, standIns := [], harness := (true, "0d3877f14ba4f30dd2ffd9068490060686c4d3b7e3d3e0f931c7f3fb6b4388a4"), looks := true }, kinds := [], alts := [], laidByText := true, laidKinds := [.data, .data, .data, .handle, .sentinel, .sentinel, .sentinel], laidTests := true, laidLooks := .later }
def DisksUptoCardSaid : Prop := Claim7.holds Tryz.pinned (.plain (OpenSpec.upto disksSpec)) disksUptoCard

/-- THE SECOND FORM's CARD OF 'quillkeep.Typed'. -/
def typedUptoCard : Claim7 := { stood := { row := typedUptoRow, standIns := [], harness := (true, "0d3877f14ba4f30dd2ffd9068490060686c4d3b7e3d3e0f931c7f3fb6b4388a4"), looks := true }, kinds := [], alts := [], laidByText := true, laidKinds := [.data, .data, .data, .handle, .sentinel, .sentinel, .sentinel], laidTests := true, laidLooks := .later }
def TypedUptoCardSaid : Prop := Claim7.holds Tryz.pinned (.plain (OpenSpec.upto typedSpec)) typedUptoCard

/-- THE SECOND FORM's CARD OF 'quillkeep.Copied'. -/
def copiedUptoCard : Claim7 := { stood := { row := copiedUptoRow, standIns := [], harness := (true, "0d3877f14ba4f30dd2ffd9068490060686c4d3b7e3d3e0f931c7f3fb6b4388a4"), looks := true }, kinds := [], alts := [], laidByText := true, laidKinds := [.data, .data, .data, .handle, .sentinel, .sentinel, .sentinel], laidTests := true, laidLooks := .later }
def CopiedUptoCardSaid : Prop := Claim7.holds Tryz.pinned (.plain (OpenSpec.upto copiedSpec)) copiedUptoCard

/-- THE SECOND FORM's CARD OF 'quillkeep.Clipped'. -/
def clippedUptoCard : Claim7 := { stood := { row := clippedUptoRow, standIns := [], harness := (true, "0d3877f14ba4f30dd2ffd9068490060686c4d3b7e3d3e0f931c7f3fb6b4388a4"), looks := true }, kinds := [], alts := [], laidByText := true, laidKinds := [.data, .data, .data, .handle, .sentinel, .sentinel, .sentinel], laidTests := true, laidLooks := .later }
def ClippedUptoCardSaid : Prop := Claim7.holds Tryz.pinned (.plain (OpenSpec.upto clippedSpec)) clippedUptoCard

/-- THE SECOND FORM's CARD OF 'quilllaw.Wholes'. -/
def wholesUptoCard : Claim7 := { stood := { row := wholesUptoRow, standIns := [], harness := (true, "0d3877f14ba4f30dd2ffd9068490060686c4d3b7e3d3e0f931c7f3fb6b4388a4"), looks := true }, kinds := [], alts := [], laidByText := true, laidKinds := [.data, .data, .data, .handle, .sentinel, .sentinel, .sentinel], laidTests := true, laidLooks := .later }
def WholesUptoCardSaid : Prop := Claim7.holds Tryz.pinned (.plain (OpenSpec.upto wholesSpec)) wholesUptoCard
end Rows
end Go.Proofs.YteloeciiamlgkaaGreatDoor
