/-
  DERIVED. GIVEN WITH THE SEED: THE CARDS: each row of YtdoceldofkaapaaGreatDoorRows.lean that lists a variable, with what it lists TIED to the program's text (the seventh form; the later family's looks); each row that meets fmt, with fmt's text TOLD by the authors' own Lean function (tested against real Go, not proved from fmt's source: count such statements apart). THE CARD IS WHAT COUNTS. Prove the row's statement (the work); the ties are given (YtdoceldofkaapaaGreatDoorTie.lean); close each card by the builder's one call (the guide's Derived/Test/ToyasCard.lean, 'card_holds'). Laid BY PROGRAM, IN A SANDBOX (cutbox-door.mjs). By AI agents, Wed Nov 11 2026. No macro, syntax, notation, axiom, sorry.
-/
import Derived.Test.YtdoceldofkaapaaGreatDoorRows
import GoSem.ClaimSeven
namespace Go.Proofs.YtdoceldofkaapaaGreatDoor
namespace Rows

/-- THE TIED CARD OF 'complinelaw10.HashwheelPlays'. -/
def hashwheelPlaysCard : Claim7 := { stood := { row := hashwheelPlaysRow, standIns := [], harness := (true, "ac2e29fab4e05d77d81f02c0c3fd2a91aeb541a585644be3d0b2c9f7631f431b"), looks := false }, kinds := [], alts := [], laidByText := true, laidKinds := [.data], laidTests := true, laidLooks := .later }
def HashwheelPlaysCardSaid : Prop := Claim7.holds Tryz.pinned (.plain (OpenSpec.ofChange hashwheelPlaysSpec)) hashwheelPlaysCard

/-- THE TIED CARD OF 'complinelaw11.HierwheelPlays'. -/
def hierwheelPlaysCard : Claim7 := { stood := { row := hierwheelPlaysRow, standIns := [], harness := (true, "ac2e29fab4e05d77d81f02c0c3fd2a91aeb541a585644be3d0b2c9f7631f431b"), looks := false }, kinds := [], alts := [], laidByText := true, laidKinds := [.data], laidTests := true, laidLooks := .later }
def HierwheelPlaysCardSaid : Prop := Claim7.holds Tryz.pinned (.plain (OpenSpec.ofChange hierwheelPlaysSpec)) hierwheelPlaysCard

/-- THE TIED CARD OF 'complinelaw11.HierwheelWhere'. -/
def hierwheelWhereCard : Claim7 := { stood := { row := hierwheelWhereRow, standIns := [], harness := (true, "ac2e29fab4e05d77d81f02c0c3fd2a91aeb541a585644be3d0b2c9f7631f431b"), looks := false }, kinds := [], alts := [], laidByText := true, laidKinds := [.data], laidTests := true, laidLooks := .later }
def HierwheelWhereCardSaid : Prop := Claim7.holds Tryz.pinned (.plain (OpenSpec.ofChange hierwheelWhereSpec)) hierwheelWhereCard

/-- THE TIED CARD OF 'complinelaw11.HierwheelThree'. -/
def hierwheelThreeCard : Claim7 := { stood := { row := hierwheelThreeRow, standIns := [], harness := (true, "ac2e29fab4e05d77d81f02c0c3fd2a91aeb541a585644be3d0b2c9f7631f431b"), looks := false }, kinds := [], alts := [], laidByText := true, laidKinds := [.data], laidTests := true, laidLooks := .later }
def HierwheelThreeCardSaid : Prop := Claim7.holds Tryz.pinned (.plain (OpenSpec.ofChange hierwheelThreeSpec)) hierwheelThreeCard

/-- THE TIED CARD OF 'complinelaw11.HierwheelFew'. -/
def hierwheelFewCard : Claim7 := { stood := { row := hierwheelFewRow, standIns := [], harness := (true, "ac2e29fab4e05d77d81f02c0c3fd2a91aeb541a585644be3d0b2c9f7631f431b"), looks := false }, kinds := [], alts := [], laidByText := true, laidKinds := [.data], laidTests := true, laidLooks := .later }
def HierwheelFewCardSaid : Prop := Claim7.holds Tryz.pinned (.plain (OpenSpec.ofChange hierwheelFewSpec)) hierwheelFewCard

/-- THE TIED CARD OF 'complinelaw11.HierwheelTwin'. -/
def hierwheelTwinCard : Claim7 := { stood := { row := hierwheelTwinRow, standIns := [], harness := (true, "ac2e29fab4e05d77d81f02c0c3fd2a91aeb541a585644be3d0b2c9f7631f431b"), looks := false }, kinds := [], alts := [], laidByText := true, laidKinds := [.data], laidTests := true, laidLooks := .later }
def HierwheelTwinCardSaid : Prop := Claim7.holds Tryz.pinned (.plain (OpenSpec.ofChange hierwheelTwinSpec)) hierwheelTwinCard

/-- THE TIED CARD OF 'complinelaw11.HierwheelJumps'. -/
def hierwheelJumpsCard : Claim7 := { stood := { row := hierwheelJumpsRow, standIns := [], harness := (true, "ac2e29fab4e05d77d81f02c0c3fd2a91aeb541a585644be3d0b2c9f7631f431b"), looks := false }, kinds := [], alts := [], laidByText := true, laidKinds := [.data], laidTests := true, laidLooks := .later }
def HierwheelJumpsCardSaid : Prop := Claim7.holds Tryz.pinned (.plain (OpenSpec.ofChange hierwheelJumpsSpec)) hierwheelJumpsCard

/-- THE SECOND FORM's CARD OF 'complinelaw10.HashwheelPlays'. -/
def hashwheelPlaysUptoCard : Claim7 := { stood := { row := hashwheelPlaysUptoRow, standIns := [], harness := (true, "ac2e29fab4e05d77d81f02c0c3fd2a91aeb541a585644be3d0b2c9f7631f431b"), looks := false }, kinds := [], alts := [], laidByText := true, laidKinds := [.data], laidTests := true, laidLooks := .later }
def HashwheelPlaysUptoCardSaid : Prop := Claim7.holds Tryz.pinned (.plain (OpenSpec.upto hashwheelPlaysSpec)) hashwheelPlaysUptoCard

/-- THE SECOND FORM's CARD OF 'complinelaw11.HierwheelPlays'. -/
def hierwheelPlaysUptoCard : Claim7 := { stood := { row := hierwheelPlaysUptoRow, standIns := [], harness := (true, "ac2e29fab4e05d77d81f02c0c3fd2a91aeb541a585644be3d0b2c9f7631f431b"), looks := false }, kinds := [], alts := [], laidByText := true, laidKinds := [.data], laidTests := true, laidLooks := .later }
def HierwheelPlaysUptoCardSaid : Prop := Claim7.holds Tryz.pinned (.plain (OpenSpec.upto hierwheelPlaysSpec)) hierwheelPlaysUptoCard

/-- THE SECOND FORM's CARD OF 'complinelaw11.HierwheelWhere'. -/
def hierwheelWhereUptoCard : Claim7 := { stood := { row := hierwheelWhereUptoRow, standIns := [], harness := (true, "ac2e29fab4e05d77d81f02c0c3fd2a91aeb541a585644be3d0b2c9f7631f431b"), looks := false }, kinds := [], alts := [], laidByText := true, laidKinds := [.data], laidTests := true, laidLooks := .later }
def HierwheelWhereUptoCardSaid : Prop := Claim7.holds Tryz.pinned (.plain (OpenSpec.upto hierwheelWhereSpec)) hierwheelWhereUptoCard

/-- THE SECOND FORM's CARD OF 'complinelaw11.HierwheelThree'. -/
def hierwheelThreeUptoCard : Claim7 := { stood := { row := hierwheelThreeUptoRow, standIns := [], harness := (true, "ac2e29fab4e05d77d81f02c0c3fd2a91aeb541a585644be3d0b2c9f7631f431b"), looks := false }, kinds := [], alts := [], laidByText := true, laidKinds := [.data], laidTests := true, laidLooks := .later }
def HierwheelThreeUptoCardSaid : Prop := Claim7.holds Tryz.pinned (.plain (OpenSpec.upto hierwheelThreeSpec)) hierwheelThreeUptoCard

/-- THE SECOND FORM's CARD OF 'complinelaw11.HierwheelFew'. -/
def hierwheelFewUptoCard : Claim7 := { stood := { row := hierwheelFewUptoRow, standIns := [], harness := (true, "ac2e29fab4e05d77d81f02c0c3fd2a91aeb541a585644be3d0b2c9f7631f431b"), looks := false }, kinds := [], alts := [], laidByText := true, laidKinds := [.data], laidTests := true, laidLooks := .later }
def HierwheelFewUptoCardSaid : Prop := Claim7.holds Tryz.pinned (.plain (OpenSpec.upto hierwheelFewSpec)) hierwheelFewUptoCard

/-- THE SECOND FORM's CARD OF 'complinelaw11.HierwheelTwin'. -/
def hierwheelTwinUptoCard : Claim7 := { stood := { row := hierwheelTwinUptoRow, standIns := [], harness := (true, "ac2e29fab4e05d77d81f02c0c3fd2a91aeb541a585644be3d0b2c9f7631f431b"), looks := false }, kinds := [], alts := [], laidByText := true, laidKinds := [.data], laidTests := true, laidLooks := .later }
def HierwheelTwinUptoCardSaid : Prop := Claim7.holds Tryz.pinned (.plain (OpenSpec.upto hierwheelTwinSpec)) hierwheelTwinUptoCard

/-- THE SECOND FORM's CARD OF 'complinelaw11.HierwheelJumps'. -/
def hierwheelJumpsUptoCard : Claim7 := { stood := { row := hierwheelJumpsUptoRow, standIns := [], harness := (true, "ac2e29fab4e05d77d81f02c0c3fd2a91aeb541a585644be3d0b2c9f7631f431b"), looks := false }, kinds := [], alts := [], laidByText := true, laidKinds := [.data], laidTests := true, laidLooks := .later }
def HierwheelJumpsUptoCardSaid : Prop := Claim7.holds Tryz.pinned (.plain (OpenSpec.upto hierwheelJumpsSpec)) hierwheelJumpsUptoCard
end Rows
end Go.Proofs.YtdoceldofkaapaaGreatDoor
