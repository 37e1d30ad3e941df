/-
  DERIVED. GIVEN WITH THE SEED: THE CARDS: each row of YtfplgfodoiiobaaGreatDoorRows.lean that lists a variable, with what it lists TIED to the program's text (the seventh form; the later family's looks); each row that meets fmt, with fmt's text TOLD by the authors' own Lean function (tested against real Go, not proved from fmt's source: count such statements apart). THE CARD IS WHAT COUNTS. Prove the row's statement (the work); the ties are given (YtfplgfodoiiobaaGreatDoorTie.lean); close each card by the builder's one call (the guide's Derived/Test/ToyasCard.lean, 'card_holds'). Laid BY PROGRAM, IN A SANDBOX (cutbox-door.mjs). By AI agents, Wed Nov 11 2026. No macro, syntax, notation, axiom, sorry.
-/
import Derived.Test.YtfplgfodoiiobaaGreatDoorRows
import GoSem.ClaimSeven
namespace Go.Proofs.YtfplgfodoiiobaaGreatDoor
namespace Rows

/-- THE TIED CARD OF 'quilllaw.Trees'. -/
def treesCard : Claim7 := { stood := { row := treesRow, standIns := [], harness := (true, "aea6ee2d4c8c218b0918543c093c1760b2829755c9e407a19adb17131515864a"), looks := true }, kinds := [], alts := [], laidByText := true, laidKinds := [.data, .data, .data, .handle, .sentinel, .sentinel, .sentinel, .sentinel, .sentinel], laidTests := true, laidLooks := .later }
def TreesCardSaid : Prop := Claim7.holds Tryz.pinned (.plain (OpenSpec.ofChange treesSpec)) treesCard

/-- THE TIED CARD OF 'quilllaw.Texts'. -/
def textsCard : Claim7 := { stood := { row := textsRow, standIns := [], harness := (true, "aea6ee2d4c8c218b0918543c093c1760b2829755c9e407a19adb17131515864a"), looks := true }, kinds := [], alts := [], laidByText := true, laidKinds := [.data, .data, .data, .handle, .sentinel, .sentinel, .sentinel, .sentinel, .sentinel], laidTests := true, laidLooks := .later }
def TextsCardSaid : Prop := Claim7.holds Tryz.pinned (.plain (OpenSpec.ofChange textsSpec)) textsCard

/-- THE TIED CARD OF 'quilllaw.Disks'. -/
def disksCard : Claim7 := { stood := { row := disksRow, standIns := [], harness := (true, "aea6ee2d4c8c218b0918543c093c1760b2829755c9e407a19adb17131515864a"), looks := true }, kinds := [], alts := [], laidByText := true, laidKinds := [.data, .data, .data, .handle, .sentinel, .sentinel, .sentinel, .sentinel, .sentinel], laidTests := true, laidLooks := .later }
def DisksCardSaid : Prop := Claim7.holds Tryz.pinned (.plain (OpenSpec.ofChange disksSpec)) disksCard

/-- THE TIED CARD OF 'quillkeep.Typed'. -/
def typedCard : Claim7 := { stood := { row := typedRow, standIns := [], harness := (true, "aea6ee2d4c8c218b0918543c093c1760b2829755c9e407a19adb17131515864a"), looks := true }, kinds := [], alts := [], laidByText := true, laidKinds := [.data, .data, .data, .handle, .sentinel, .sentinel, .sentinel, .sentinel, .sentinel], laidTests := true, laidLooks := .later }
def TypedCardSaid : Prop := Claim7.holds Tryz.pinned (.plain (OpenSpec.ofChange typedSpec)) typedCard

/-- THE TIED CARD OF 'quillkeep.Crashed'. -/
def crashedCard : Claim7 := { stood := { row := crashedRow, standIns := [], harness := (true, "aea6ee2d4c8c218b0918543c093c1760b2829755c9e407a19adb17131515864a"), looks := true }, kinds := [], alts := [], laidByText := true, laidKinds := [.data, .data, .data, .handle, .sentinel, .sentinel, .sentinel, .sentinel, .sentinel], laidTests := true, laidLooks := .later }
def CrashedCardSaid : Prop := Claim7.holds Tryz.pinned (.plain (OpenSpec.ofChange crashedSpec)) crashedCard

/-- THE TIED CARD OF 'quillkeep.Refused'. -/
def refusedCard : Claim7 := { stood := { row := refusedRow, standIns := [], harness := (true, "aea6ee2d4c8c218b0918543c093c1760b2829755c9e407a19adb17131515864a"), looks := true }, kinds := [], alts := [], laidByText := true, laidKinds := [.data, .data, .data, .handle, .sentinel, .sentinel, .sentinel, .sentinel, .sentinel], laidTests := true, laidLooks := .later }
def RefusedCardSaid : Prop := Claim7.holds Tryz.pinned (.plain (OpenSpec.ofChange refusedSpec)) refusedCard

/-- THE TIED CARD OF 'quillkeep.Copied'. -/
def copiedCard : Claim7 := { stood := { row := copiedRow, standIns := [], harness := (true, "aea6ee2d4c8c218b0918543c093c1760b2829755c9e407a19adb17131515864a"), looks := true }, kinds := [], alts := [], laidByText := true, laidKinds := [.data, .data, .data, .handle, .sentinel, .sentinel, .sentinel, .sentinel, .sentinel], laidTests := true, laidLooks := .later }
def CopiedCardSaid : Prop := Claim7.holds Tryz.pinned (.plain (OpenSpec.ofChange copiedSpec)) copiedCard

/-- THE TIED CARD OF 'quillkeep.Clipped'. -/
def clippedCard : Claim7 := { stood := { row := clippedRow, standIns := [], harness := (true, "aea6ee2d4c8c218b0918543c093c1760b2829755c9e407a19adb17131515864a"), looks := true }, kinds := [], alts := [], laidByText := true, laidKinds := [.data, .data, .data, .handle, .sentinel, .sentinel, .sentinel, .sentinel, .sentinel], laidTests := true, laidLooks := .later }
def ClippedCardSaid : Prop := Claim7.holds Tryz.pinned (.plain (OpenSpec.ofChange clippedSpec)) clippedCard

/-- THE TIED CARD OF 'quillkeep.Stopped'. -/
def stoppedCard : Claim7 := { stood := { row := stoppedRow, standIns := [], harness := (true, "aea6ee2d4c8c218b0918543c093c1760b2829755c9e407a19adb17131515864a"), looks := true }, kinds := [], alts := [], laidByText := true, laidKinds := [.data, .data, .data, .handle, .sentinel, .sentinel, .sentinel, .sentinel, .sentinel], laidTests := true, laidLooks := .later }
def StoppedCardSaid : Prop := Claim7.holds Tryz.pinned (.plain (OpenSpec.ofChange stoppedSpec)) stoppedCard

/-- THE TIED CARD OF 'quillkeep.Compact'. -/
def compactCard : Claim7 := { stood := { row := compactRow, standIns := [], harness := (true, "aea6ee2d4c8c218b0918543c093c1760b2829755c9e407a19adb17131515864a"), looks := true }, kinds := [], alts := [], laidByText := true, laidKinds := [.data, .data, .data, .handle, .sentinel, .sentinel, .sentinel, .sentinel, .sentinel], laidTests := true, laidLooks := .later }
def CompactCardSaid : Prop := Claim7.holds Tryz.pinned (.plain (OpenSpec.ofChange compactSpec)) compactCard

/-- THE TIED CARD OF 'quilllaw.Wholes'. -/
def wholesCard : Claim7 := { stood := { row := wholesRow, standIns := [], harness := (true, "aea6ee2d4c8c218b0918543c093c1760b2829755c9e407a19adb17131515864a"), looks := true }, kinds := [], alts := [], laidByText := true, laidKinds := [.data, .data, .data, .handle, .sentinel, .sentinel, .sentinel, .sentinel, .sentinel], laidTests := true, laidLooks := .later }
def WholesCardSaid : Prop := Claim7.holds Tryz.pinned (.plain (OpenSpec.ofChange wholesSpec)) wholesCard

/-- THE SECOND FORM's CARD OF 'quilllaw.Trees'. -/
def treesUptoCard : Claim7 := { stood := { row := treesUptoRow, standIns := [], harness := (true, "aea6ee2d4c8c218b0918543c093c1760b2829755c9e407a19adb17131515864a"), looks := true }, kinds := [], alts := [], laidByText := true, laidKinds := [.data, .data, .data, .handle, .sentinel, .sentinel, .sentinel, .sentinel, .sentinel], laidTests := true, laidLooks := .later }
def TreesUptoCardSaid : Prop := Claim7.holds Tryz.pinned (.plain (OpenSpec.upto treesSpec)) treesUptoCard

/-- THE SECOND FORM's CARD OF 'quilllaw.Texts'. -/
def textsUptoCard : Claim7 := { stood := { row := textsUptoRow, standIns := [], harness := (true, "aea6ee2d4c8c218b0918543c093c1760b2829755c9e407a19adb17131515864a"), looks := true }, kinds := [], alts := [], laidByText := true, laidKinds := [.data, .data, .data, .handle, .sentinel, .sentinel, .sentinel, .sentinel, .sentinel], laidTests := true, laidLooks := .later }
def TextsUptoCardSaid : Prop := Claim7.holds Tryz.pinned (.plain (OpenSpec.upto textsSpec)) textsUptoCard

/-- THE SECOND FORM's CARD OF 'quilllaw.Disks'. -/
def disksUptoCard : Claim7 := { stood := { row := disksUptoRow, standIns := [], harness := (true, "aea6ee2d4c8c218b0918543c093c1760b2829755c9e407a19adb17131515864a"), looks := true }, kinds := [], alts := [], laidByText := true, laidKinds := [.data, .data, .data, .handle, .sentinel, .sentinel, .sentinel, .sentinel, .sentinel], laidTests := true, laidLooks := .later }
def DisksUptoCardSaid : Prop := Claim7.holds Tryz.pinned (.plain (OpenSpec.upto disksSpec)) disksUptoCard

/-- THE SECOND FORM's CARD OF 'quillkeep.Typed'. -/
def typedUptoCard : Claim7 := { stood := { row := typedUptoRow, standIns := [], harness := (true, "aea6ee2d4c8c218b0918543c093c1760b2829755c9e407a19adb17131515864a"), looks := true }, kinds := [], alts := [], laidByText := true, laidKinds := [.data, .data, .data, .handle, .sentinel, .sentinel, .sentinel, .sentinel, .sentinel], laidTests := true, laidLooks := .later }
def TypedUptoCardSaid : Prop := Claim7.holds Tryz.pinned (.plain (OpenSpec.upto typedSpec)) typedUptoCard

/-- THE SECOND FORM's CARD OF 'quillkeep.Crashed'. -/
def crashedUptoCard : Claim7 := { stood := { row := crashedUptoRow, standIns := [], harness := (true, "aea6ee2d4c8c218b0918543c093c1760b2829755c9e407a19adb17131515864a"), looks := true }, kinds := [], alts := [], laidByText := true, laidKinds := [.data, .data, .data, .handle, .sentinel, .sentinel, .sentinel, .sentinel, .sentinel], laidTests := true, laidLooks := .later }
def CrashedUptoCardSaid : Prop := Claim7.holds Tryz.pinned (.plain (OpenSpec.upto crashedSpec)) crashedUptoCard

/-- THE SECOND FORM's CARD OF 'quillkeep.Refused'. -/
def refusedUptoCard : Claim7 := { stood := { row := refusedUptoRow, standIns := [], harness := (true, "aea6ee2d4c8c218b0918543c093c1760b2829755c9e407a19adb17131515864a"), looks := true }, kinds := [], alts := [], laidByText := true, laidKinds := [.data, .data, .data, .handle, .sentinel, .sentinel, .sentinel, .sentinel, .sentinel], laidTests := true, laidLooks := .later }
def RefusedUptoCardSaid : Prop := Claim7.holds Tryz.pinned (.plain (OpenSpec.upto refusedSpec)) refusedUptoCard

/-- THE SECOND FORM's CARD OF 'quillkeep.Copied'. -/
def copiedUptoCard : Claim7 := { stood := { row := copiedUptoRow, standIns := [], harness := (true, "aea6ee2d4c8c218b0918543c093c1760b2829755c9e407a19adb17131515864a"), looks := true }, kinds := [], alts := [], laidByText := true, laidKinds := [.data, .data, .data, .handle, .sentinel, .sentinel, .sentinel, .sentinel, .sentinel], laidTests := true, laidLooks := .later }
def CopiedUptoCardSaid : Prop := Claim7.holds Tryz.pinned (.plain (OpenSpec.upto copiedSpec)) copiedUptoCard

/-- THE SECOND FORM's CARD OF 'quillkeep.Clipped'. -/
def clippedUptoCard : Claim7 := { stood := { row := clippedUptoRow, standIns := [], harness := (true, "aea6ee2d4c8c218b0918543c093c1760b2829755c9e407a19adb17131515864a"), looks := true }, kinds := [], alts := [], laidByText := true, laidKinds := [.data, .data, .data, .handle, .sentinel, .sentinel, .sentinel, .sentinel, .sentinel], laidTests := true, laidLooks := .later }
def ClippedUptoCardSaid : Prop := Claim7.holds Tryz.pinned (.plain (OpenSpec.upto clippedSpec)) clippedUptoCard

/-- THE SECOND FORM's CARD OF 'quillkeep.Stopped'. -/
def stoppedUptoCard : Claim7 := { stood := { row := stoppedUptoRow, standIns := [], harness := (true, "aea6ee2d4c8c218b0918543c093c1760b2829755c9e407a19adb17131515864a"), looks := true }, kinds := [], alts := [], laidByText := true, laidKinds := [.data, .data, .data, .handle, .sentinel, .sentinel, .sentinel, .sentinel, .sentinel], laidTests := true, laidLooks := .later }
def StoppedUptoCardSaid : Prop := Claim7.holds Tryz.pinned (.plain (OpenSpec.upto stoppedSpec)) stoppedUptoCard

/-- THE SECOND FORM's CARD OF 'quillkeep.Compact'. -/
def compactUptoCard : Claim7 := { stood := { row := compactUptoRow, standIns := [], harness := (true, "aea6ee2d4c8c218b0918543c093c1760b2829755c9e407a19adb17131515864a"), looks := true }, kinds := [], alts := [], laidByText := true, laidKinds := [.data, .data, .data, .handle, .sentinel, .sentinel, .sentinel, .sentinel, .sentinel], laidTests := true, laidLooks := .later }
def CompactUptoCardSaid : Prop := Claim7.holds Tryz.pinned (.plain (OpenSpec.upto compactSpec)) compactUptoCard

/-- THE SECOND FORM's CARD OF 'quilllaw.Wholes'. -/
def wholesUptoCard : Claim7 := { stood := { row := wholesUptoRow, standIns := [], harness := (true, "aea6ee2d4c8c218b0918543c093c1760b2829755c9e407a19adb17131515864a"), looks := true }, kinds := [], alts := [], laidByText := true, laidKinds := [.data, .data, .data, .handle, .sentinel, .sentinel, .sentinel, .sentinel, .sentinel], laidTests := true, laidLooks := .later }
def WholesUptoCardSaid : Prop := Claim7.holds Tryz.pinned (.plain (OpenSpec.upto wholesSpec)) wholesUptoCard
end Rows
end Go.Proofs.YtfplgfodoiiobaaGreatDoor
