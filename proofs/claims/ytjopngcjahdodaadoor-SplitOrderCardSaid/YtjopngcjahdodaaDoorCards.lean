/-
  DERIVED. GIVEN WITH THE SEED: THE CARDS: each row of YtjopngcjahdodaaDoorRows.lean that lists a variable, with what it lists TIED to the program's text (the seventh form; the later family's looks); each row that meets fmt, with fmt's text TOLD by the authors' own Lean function (tested against real Go, not proved from fmt's source: count such statements apart). THE CARD IS WHAT COUNTS. Prove the row's statement (the work); the ties are given (YtjopngcjahdodaaDoorTie.lean); close each card by the builder's one call (the guide's Derived/Test/ToyasCard.lean, 'card_holds'). Laid BY PROGRAM, IN A SANDBOX (cutbox-door.mjs). By AI agents, Wed Nov 11 2026. No macro, syntax, notation, axiom, sorry.
-/
import Derived.Test.YtjopngcjahdodaaDoorRows
import GoSem.ClaimSeven
namespace Go.Proofs.YtjopngcjahdodaaDoor
namespace Rows

/-- THE TIED CARD OF 'scantlinglaw02.SplitTells'. -/
def splitTellsCard : Claim7 := { stood := { row := splitTellsRow, standIns := [], harness := (true, "ea7b2debe669b62b4c8f276a59086500fb00ad3e135004df417a30b7c8ce3c2d"), looks := false }, kinds := [], alts := [], laidByText := true, laidKinds := [.data], laidTests := true, laidLooks := .later }
def SplitTellsCardSaid : Prop := Claim7.holds Tryd.pinned (.plain (OpenSpec.ofChange splitTellsSpec)) splitTellsCard

/-- THE TIED CARD OF 'scantlinglaw02.SplitFine'. -/
def splitFineCard : Claim7 := { stood := { row := splitFineRow, standIns := [], harness := (true, "ea7b2debe669b62b4c8f276a59086500fb00ad3e135004df417a30b7c8ce3c2d"), looks := false }, kinds := [], alts := [], laidByText := true, laidKinds := [.data], laidTests := true, laidLooks := .later }
def SplitFineCardSaid : Prop := Claim7.holds Tryd.pinned (.plain (OpenSpec.ofChange splitFineSpec)) splitFineCard

/-- THE TIED CARD OF 'scantlinglaw02.SplitOrder'. -/
def splitOrderCard : Claim7 := { stood := { row := splitOrderRow, standIns := [], harness := (true, "ea7b2debe669b62b4c8f276a59086500fb00ad3e135004df417a30b7c8ce3c2d"), looks := false }, kinds := [], alts := [], laidByText := true, laidKinds := [.data], laidTests := true, laidLooks := .later }
def SplitOrderCardSaid : Prop := Claim7.holds Tryd.pinned (.plain (OpenSpec.ofChange splitOrderSpec)) splitOrderCard

/-- THE TIED CARD OF 'scantlinglaw02.SplitMore'. -/
def splitMoreCard : Claim7 := { stood := { row := splitMoreRow, standIns := [], harness := (true, "ea7b2debe669b62b4c8f276a59086500fb00ad3e135004df417a30b7c8ce3c2d"), looks := false }, kinds := [], alts := [], laidByText := true, laidKinds := [.data], laidTests := true, laidLooks := .later }
def SplitMoreCardSaid : Prop := Claim7.holds Tryd.pinned (.plain (OpenSpec.ofChange splitMoreSpec)) splitMoreCard

/-- THE TIED CARD OF 'scantlinglaw02.SplitHeads'. -/
def splitHeadsCard : Claim7 := { stood := { row := splitHeadsRow, standIns := [], harness := (true, "ea7b2debe669b62b4c8f276a59086500fb00ad3e135004df417a30b7c8ce3c2d"), looks := false }, kinds := [], alts := [], laidByText := true, laidKinds := [.data], laidTests := true, laidLooks := .later }
def SplitHeadsCardSaid : Prop := Claim7.holds Tryd.pinned (.plain (OpenSpec.ofChange splitHeadsSpec)) splitHeadsCard

/-- THE TIED CARD OF 'scantlinglaw02.SplitOne'. -/
def splitOneCard : Claim7 := { stood := { row := splitOneRow, standIns := [], harness := (true, "ea7b2debe669b62b4c8f276a59086500fb00ad3e135004df417a30b7c8ce3c2d"), looks := false }, kinds := [], alts := [], laidByText := true, laidKinds := [.data], laidTests := true, laidLooks := .later }
def SplitOneCardSaid : Prop := Claim7.holds Tryd.pinned (.plain (OpenSpec.ofChange splitOneSpec)) splitOneCard

/-- THE SECOND FORM's CARD OF 'scantlinglaw02.SplitTells'. -/
def splitTellsUptoCard : Claim7 := { stood := { row := splitTellsUptoRow, standIns := [], harness := (true, "ea7b2debe669b62b4c8f276a59086500fb00ad3e135004df417a30b7c8ce3c2d"), looks := false }, kinds := [], alts := [], laidByText := true, laidKinds := [.data], laidTests := true, laidLooks := .later }
def SplitTellsUptoCardSaid : Prop := Claim7.holds Tryd.pinned (.plain (OpenSpec.upto splitTellsSpec)) splitTellsUptoCard

/-- THE SECOND FORM's CARD OF 'scantlinglaw02.SplitFine'. -/
def splitFineUptoCard : Claim7 := { stood := { row := splitFineUptoRow, standIns := [], harness := (true, "ea7b2debe669b62b4c8f276a59086500fb00ad3e135004df417a30b7c8ce3c2d"), looks := false }, kinds := [], alts := [], laidByText := true, laidKinds := [.data], laidTests := true, laidLooks := .later }
def SplitFineUptoCardSaid : Prop := Claim7.holds Tryd.pinned (.plain (OpenSpec.upto splitFineSpec)) splitFineUptoCard

/-- THE SECOND FORM's CARD OF 'scantlinglaw02.SplitOrder'. -/
def splitOrderUptoCard : Claim7 := { stood := { row := splitOrderUptoRow, standIns := [], harness := (true, "ea7b2debe669b62b4c8f276a59086500fb00ad3e135004df417a30b7c8ce3c2d"), looks := false }, kinds := [], alts := [], laidByText := true, laidKinds := [.data], laidTests := true, laidLooks := .later }
def SplitOrderUptoCardSaid : Prop := Claim7.holds Tryd.pinned (.plain (OpenSpec.upto splitOrderSpec)) splitOrderUptoCard

/-- THE SECOND FORM's CARD OF 'scantlinglaw02.SplitMore'. -/
def splitMoreUptoCard : Claim7 := { stood := { row := splitMoreUptoRow, standIns := [], harness := (true, "ea7b2debe669b62b4c8f276a59086500fb00ad3e135004df417a30b7c8ce3c2d"), looks := false }, kinds := [], alts := [], laidByText := true, laidKinds := [.data], laidTests := true, laidLooks := .later }
def SplitMoreUptoCardSaid : Prop := Claim7.holds Tryd.pinned (.plain (OpenSpec.upto splitMoreSpec)) splitMoreUptoCard

/-- THE SECOND FORM's CARD OF 'scantlinglaw02.SplitHeads'. -/
def splitHeadsUptoCard : Claim7 := { stood := { row := splitHeadsUptoRow, standIns := [], harness := (true, "ea7b2debe669b62b4c8f276a59086500fb00ad3e135004df417a30b7c8ce3c2d"), looks := false }, kinds := [], alts := [], laidByText := true, laidKinds := [.data], laidTests := true, laidLooks := .later }
def SplitHeadsUptoCardSaid : Prop := Claim7.holds Tryd.pinned (.plain (OpenSpec.upto splitHeadsSpec)) splitHeadsUptoCard

/-- THE SECOND FORM's CARD OF 'scantlinglaw02.SplitOne'. -/
def splitOneUptoCard : Claim7 := { stood := { row := splitOneUptoRow, standIns := [], harness := (true, "ea7b2debe669b62b4c8f276a59086500fb00ad3e135004df417a30b7c8ce3c2d"), looks := false }, kinds := [], alts := [], laidByText := true, laidKinds := [.data], laidTests := true, laidLooks := .later }
def SplitOneUptoCardSaid : Prop := Claim7.holds Tryd.pinned (.plain (OpenSpec.upto splitOneSpec)) splitOneUptoCard
end Rows
end Go.Proofs.YtjopngcjahdodaaDoor
