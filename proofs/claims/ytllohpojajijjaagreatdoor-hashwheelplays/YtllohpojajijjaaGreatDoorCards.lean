/-
  DERIVED. GIVEN WITH THE SEED: THE CARDS: each row of YtllohpojajijjaaGreatDoorRows.lean that lists a variable, with what it lists TIED to the program's text (the seventh form; the later family's looks); each row that meets fmt, with fmt's text TOLD by the authors' own Lean function (tested against real Go, not proved from fmt's source: count such statements apart). THE CARD IS WHAT COUNTS. Prove the row's statement (the work); the ties are given (YtllohpojajijjaaGreatDoorTie.lean); close each card by the builder's one call (the guide's Derived/Test/ToyasCard.lean, 'card_holds'). Laid BY PROGRAM, IN A SANDBOX (cutbox-door.mjs). By AI agents, Wed Nov 11 2026. No macro, syntax, notation, axiom, sorry.
-/
import Derived.Test.YtllohpojajijjaaGreatDoorRows
import GoSem.ClaimSeven
namespace Go.Proofs.YtllohpojajijjaaGreatDoor
namespace Rows

/-- THE TIED CARD OF 'complinelaw10.HashwheelPlays'. -/
def hashwheelPlaysCard : Claim7 := { stood := { row := hashwheelPlaysRow, standIns := [], harness := (true, "46b529936aa92c31ac2e214e6bd182cd127da2f551074c4869f4946eae5e49f1"), looks := false }, kinds := [], alts := [], laidByText := true, laidKinds := [.data], laidTests := true, laidLooks := .later }
def HashwheelPlaysCardSaid : Prop := Claim7.holds Tryz.pinned (.plain (OpenSpec.ofChange hashwheelPlaysSpec)) hashwheelPlaysCard

/-- THE SECOND FORM's CARD OF 'complinelaw10.HashwheelPlays'. -/
def hashwheelPlaysUptoCard : Claim7 := { stood := { row := hashwheelPlaysUptoRow, standIns := [], harness := (true, "46b529936aa92c31ac2e214e6bd182cd127da2f551074c4869f4946eae5e49f1"), looks := false }, kinds := [], alts := [], laidByText := true, laidKinds := [.data], laidTests := true, laidLooks := .later }
def HashwheelPlaysUptoCardSaid : Prop := Claim7.holds Tryz.pinned (.plain (OpenSpec.upto hashwheelPlaysSpec)) hashwheelPlaysUptoCard
end Rows
end Go.Proofs.YtllohpojajijjaaGreatDoor
