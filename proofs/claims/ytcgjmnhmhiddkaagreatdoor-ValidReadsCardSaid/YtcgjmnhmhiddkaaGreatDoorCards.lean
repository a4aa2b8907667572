/-
  DERIVED. GIVEN WITH THE SEED: THE CARDS: each row of YtcgjmnhmhiddkaaGreatDoorRows.lean that lists a variable, with what it lists TIED to the program's text (the seventh form; the later family's looks); each row that meets fmt, with fmt's text TOLD by the authors' own Lean function (tested against real Go, not proved from fmt's source: count such statements apart). THE CARD IS WHAT COUNTS. Prove the row's statement (the work); the ties are given (YtcgjmnhmhiddkaaGreatDoorTie.lean); close each card by the builder's one call (the guide's Derived/Test/ToyasCard.lean, 'card_holds'). Laid BY PROGRAM, IN A SANDBOX (cutbox-door.mjs). By AI agents, Wed Nov 11 2026. No macro, syntax, notation, axiom, sorry.
-/
import Derived.Test.YtcgjmnhmhiddkaaGreatDoorRows
import GoSem.ClaimSeven
namespace Go.Proofs.YtcgjmnhmhiddkaaGreatDoor
namespace Rows

/-- THE TIED CARD OF 'scantlinglaw09.ValidReads'. -/
def validReadsCard : Claim7 := { stood := { row := validReadsRow, standIns := [], harness := (true, "76fc8ae0efc13a7f9695d9bc0f6472df7ebf6c98a175a0ef8137fd6de60c7eb4"), looks := true }, kinds := [], alts := [], laidByText := true, laidKinds := [.data, .pinned], laidTests := true, laidLooks := .later }
def ValidReadsCardSaid : Prop := Claim7.holds Tryz.pinned (.plain (OpenSpec.ofChange validReadsSpec)) validReadsCard

/-- THE TIED CARD OF 'scantlinglaw09.ValidOnly'. -/
def validOnlyCard : Claim7 := { stood := { row := validOnlyRow, standIns := [], harness := (true, "76fc8ae0efc13a7f9695d9bc0f6472df7ebf6c98a175a0ef8137fd6de60c7eb4"), looks := true }, kinds := [], alts := [], laidByText := true, laidKinds := [.data, .data, .data, .data, .pinned], laidTests := true, laidLooks := .later }
def ValidOnlyCardSaid : Prop := Claim7.holds Tryz.pinned (.plain (OpenSpec.ofChange validOnlySpec)) validOnlyCard

/-- THE TIED CARD OF 'scantlinglaw09.ValidTexts'. -/
def validTextsCard : Claim7 := { stood := { row := validTextsRow, standIns := [], harness := (true, "76fc8ae0efc13a7f9695d9bc0f6472df7ebf6c98a175a0ef8137fd6de60c7eb4"), looks := true }, kinds := [], alts := [], laidByText := true, laidKinds := [.data, .data, .data, .data, .pinned], laidTests := true, laidLooks := .later }
def ValidTextsCardSaid : Prop := Claim7.holds Tryz.pinned (.plain (OpenSpec.ofChange validTextsSpec)) validTextsCard

/-- THE TIED CARD OF 'scantlinglaw09.ValidJoined'. -/
def validJoinedCard : Claim7 := { stood := { row := validJoinedRow, standIns := [], harness := (true, "76fc8ae0efc13a7f9695d9bc0f6472df7ebf6c98a175a0ef8137fd6de60c7eb4"), looks := true }, kinds := [], alts := [], laidByText := true, laidKinds := [.data, .data, .data, .data, .pinned], laidTests := true, laidLooks := .later }
def ValidJoinedCardSaid : Prop := Claim7.holds Tryz.pinned (.plain (OpenSpec.ofChange validJoinedSpec)) validJoinedCard

/-- THE SECOND FORM's CARD OF 'scantlinglaw09.ValidReads'. -/
def validReadsUptoCard : Claim7 := { stood := { row := validReadsUptoRow, standIns := [], harness := (true, "76fc8ae0efc13a7f9695d9bc0f6472df7ebf6c98a175a0ef8137fd6de60c7eb4"), looks := true }, kinds := [], alts := [], laidByText := true, laidKinds := [.data, .pinned], laidTests := true, laidLooks := .later }
def ValidReadsUptoCardSaid : Prop := Claim7.holds Tryz.pinned (.plain (OpenSpec.upto validReadsSpec)) validReadsUptoCard

/-- THE SECOND FORM's CARD OF 'scantlinglaw09.ValidOnly'. -/
def validOnlyUptoCard : Claim7 := { stood := { row := validOnlyUptoRow, standIns := [], harness := (true, "76fc8ae0efc13a7f9695d9bc0f6472df7ebf6c98a175a0ef8137fd6de60c7eb4"), looks := true }, kinds := [], alts := [], laidByText := true, laidKinds := [.data, .data, .data, .data, .pinned], laidTests := true, laidLooks := .later }
def ValidOnlyUptoCardSaid : Prop := Claim7.holds Tryz.pinned (.plain (OpenSpec.upto validOnlySpec)) validOnlyUptoCard

/-- THE SECOND FORM's CARD OF 'scantlinglaw09.ValidTexts'. -/
def validTextsUptoCard : Claim7 := { stood := { row := validTextsUptoRow, standIns := [], harness := (true, "76fc8ae0efc13a7f9695d9bc0f6472df7ebf6c98a175a0ef8137fd6de60c7eb4"), looks := true }, kinds := [], alts := [], laidByText := true, laidKinds := [.data, .data, .data, .data, .pinned], laidTests := true, laidLooks := .later }
def ValidTextsUptoCardSaid : Prop := Claim7.holds Tryz.pinned (.plain (OpenSpec.upto validTextsSpec)) validTextsUptoCard

/-- THE SECOND FORM's CARD OF 'scantlinglaw09.ValidJoined'. -/
def validJoinedUptoCard : Claim7 := { stood := { row := validJoinedUptoRow, standIns := [], harness := (true, "76fc8ae0efc13a7f9695d9bc0f6472df7ebf6c98a175a0ef8137fd6de60c7eb4"), looks := true }, kinds := [], alts := [], laidByText := true, laidKinds := [.data, .data, .data, .data, .pinned], laidTests := true, laidLooks := .later }
def ValidJoinedUptoCardSaid : Prop := Claim7.holds Tryz.pinned (.plain (OpenSpec.upto validJoinedSpec)) validJoinedUptoCard
end Rows
end Go.Proofs.YtcgjmnhmhiddkaaGreatDoor
