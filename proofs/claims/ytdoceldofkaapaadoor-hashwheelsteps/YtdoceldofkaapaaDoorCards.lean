/-
  DERIVED. GIVEN WITH THE SEED: THE CARDS: each row of YtdoceldofkaapaaDoorRows.lean that lists a variable, with what it lists TIED to the program's text (the seventh form; the later family's looks); each row that meets fmt, with fmt's text TOLD by the authors' own Lean function (tested against real Go, not proved from fmt's source: count such statements apart). THE CARD IS WHAT COUNTS. Prove the row's statement (the work); the ties are given (YtdoceldofkaapaaDoorTie.lean); close each card by the builder's one call (the guide's Derived/Test/ToyasCard.lean, 'card_holds'). Laid BY PROGRAM, IN A SANDBOX (cutbox-door.mjs). By AI agents, Wed Nov 11 2026. No macro, syntax, notation, axiom, sorry.
-/
import Derived.Test.YtdoceldofkaapaaDoorRows
import GoSem.ClaimSeven
namespace Go.Proofs.YtdoceldofkaapaaDoor
namespace Rows

/-- THE TIED CARD OF 'complinelaw10.HashwheelLooks'. -/
def hashwheelLooksCard : Claim7 := { stood := { row := hashwheelLooksRow, standIns := [], harness := (true, "2fd4c8b28c2d8fcce91a9dde0c017744ad243617286379217ecf39667ecc6ff0"), looks := false }, kinds := [], alts := [], laidByText := true, laidKinds := [.data], laidTests := true, laidLooks := .later }
def HashwheelLooksCardSaid : Prop := Claim7.holds Tryd.pinned (.plain (OpenSpec.ofChange hashwheelLooksSpec)) hashwheelLooksCard

/-- THE TIED CARD OF 'complinelaw10.HashwheelSoon'. -/
def hashwheelSoonCard : Claim7 := { stood := { row := hashwheelSoonRow, standIns := [], harness := (true, "2fd4c8b28c2d8fcce91a9dde0c017744ad243617286379217ecf39667ecc6ff0"), looks := false }, kinds := [], alts := [], laidByText := true, laidKinds := [.data], laidTests := true, laidLooks := .later }
def HashwheelSoonCardSaid : Prop := Claim7.holds Tryd.pinned (.plain (OpenSpec.ofChange hashwheelSoonSpec)) hashwheelSoonCard

/-- THE TIED CARD OF 'complinelaw10.HashwheelAny'. -/
def hashwheelAnyCard : Claim7 := { stood := { row := hashwheelAnyRow, standIns := [], harness := (true, "2fd4c8b28c2d8fcce91a9dde0c017744ad243617286379217ecf39667ecc6ff0"), looks := false }, kinds := [], alts := [], laidByText := true, laidKinds := [.data], laidTests := true, laidLooks := .later }
def HashwheelAnyCardSaid : Prop := Claim7.holds Tryd.pinned (.plain (OpenSpec.ofChange hashwheelAnySpec)) hashwheelAnyCard

/-- THE TIED CARD OF 'complinelaw10.HashwheelSteps'. -/
def hashwheelStepsCard : Claim7 := { stood := { row := hashwheelStepsRow, standIns := [], harness := (true, "2fd4c8b28c2d8fcce91a9dde0c017744ad243617286379217ecf39667ecc6ff0"), looks := false }, kinds := [], alts := [], laidByText := true, laidKinds := [.data], laidTests := true, laidLooks := .later }
def HashwheelStepsCardSaid : Prop := Claim7.holds Tryd.pinned (.plain (OpenSpec.ofChange hashwheelStepsSpec)) hashwheelStepsCard

/-- THE SECOND FORM's CARD OF 'complinelaw10.HashwheelLooks'. -/
def hashwheelLooksUptoCard : Claim7 := { stood := { row := hashwheelLooksUptoRow, standIns := [], harness := (true, "2fd4c8b28c2d8fcce91a9dde0c017744ad243617286379217ecf39667ecc6ff0"), looks := false }, kinds := [], alts := [], laidByText := true, laidKinds := [.data], laidTests := true, laidLooks := .later }
def HashwheelLooksUptoCardSaid : Prop := Claim7.holds Tryd.pinned (.plain (OpenSpec.upto hashwheelLooksSpec)) hashwheelLooksUptoCard

/-- THE SECOND FORM's CARD OF 'complinelaw10.HashwheelSoon'. -/
def hashwheelSoonUptoCard : Claim7 := { stood := { row := hashwheelSoonUptoRow, standIns := [], harness := (true, "2fd4c8b28c2d8fcce91a9dde0c017744ad243617286379217ecf39667ecc6ff0"), looks := false }, kinds := [], alts := [], laidByText := true, laidKinds := [.data], laidTests := true, laidLooks := .later }
def HashwheelSoonUptoCardSaid : Prop := Claim7.holds Tryd.pinned (.plain (OpenSpec.upto hashwheelSoonSpec)) hashwheelSoonUptoCard

/-- THE SECOND FORM's CARD OF 'complinelaw10.HashwheelAny'. -/
def hashwheelAnyUptoCard : Claim7 := { stood := { row := hashwheelAnyUptoRow, standIns := [], harness := (true, "2fd4c8b28c2d8fcce91a9dde0c017744ad243617286379217ecf39667ecc6ff0"), looks := false }, kinds := [], alts := [], laidByText := true, laidKinds := [.data], laidTests := true, laidLooks := .later }
def HashwheelAnyUptoCardSaid : Prop := Claim7.holds Tryd.pinned (.plain (OpenSpec.upto hashwheelAnySpec)) hashwheelAnyUptoCard

/-- THE SECOND FORM's CARD OF 'complinelaw10.HashwheelSteps'. -/
def hashwheelStepsUptoCard : Claim7 := { stood := { row := hashwheelStepsUptoRow, standIns := [], harness := (true, "2fd4c8b28c2d8fcce91a9dde0c017744ad243617286379217ecf39667ecc6ff0"), looks := false }, kinds := [], alts := [], laidByText := true, laidKinds := [.data], laidTests := true, laidLooks := .later }
def HashwheelStepsUptoCardSaid : Prop := Claim7.holds Tryd.pinned (.plain (OpenSpec.upto hashwheelStepsSpec)) hashwheelStepsUptoCard
end Rows
end Go.Proofs.YtdoceldofkaapaaDoor
