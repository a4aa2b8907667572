/-
  DERIVED. GIVEN WITH THE SEED: THE CARDS: each row of YtgehepiphdphjaaDoorRows.lean that lists a variable, with what it lists TIED to the program's text (the seventh form; the later family's looks); each row that meets fmt, with fmt's text TOLD by the authors' own Lean function (tested against real Go, not proved from fmt's source: count such statements apart). THE CARD IS WHAT COUNTS. Prove the row's statement (the work); the ties are given (YtgehepiphdphjaaDoorTie.lean); close each card by the builder's one call (the guide's Derived/Test/ToyasCard.lean, 'card_holds'). Laid BY PROGRAM, IN A SANDBOX (cutbox-door.mjs). By AI agents, Wed Nov 11 2026. No macro, syntax, notation, axiom, sorry.
-/
import Derived.Test.YtgehepiphdphjaaDoorRows
import GoSem.ClaimSeven
namespace Go.Proofs.YtgehepiphdphjaaDoor
namespace Rows

/-- THE TIED CARD OF 'scantlinglaw02.SplitFine'. -/
def splitFineCard : Claim7 := { stood := { row := splitFineRow, standIns := [], harness := (true, "d5511c7bcf31d54cb56974f07cdb101dcfe9ea598301ad6a440c0e91fa3188cd"), looks := true }, kinds := [], alts := [], laidByText := true, laidKinds := [.data], laidTests := true, laidLooks := .later }
def SplitFineCardSaid : Prop := Claim7.holds Tryd.pinned (.plain (OpenSpec.ofChange splitFineSpec)) splitFineCard

/-- THE TIED CARD OF 'scantlinglaw02.SplitMore'. -/
def splitMoreCard : Claim7 := { stood := { row := splitMoreRow, standIns := [], harness := (true, "d5511c7bcf31d54cb56974f07cdb101dcfe9ea598301ad6a440c0e91fa3188cd"), looks := true }, kinds := [], alts := [], laidByText := true, laidKinds := [.data], laidTests := true, laidLooks := .later }
def SplitMoreCardSaid : Prop := Claim7.holds Tryd.pinned (.plain (OpenSpec.ofChange splitMoreSpec)) splitMoreCard

/-- THE TIED CARD OF 'scantlinglaw03.LexReads'. -/
def lexReadsCard : Claim7 := { stood := { row := lexReadsRow, standIns := [], harness := (true, "d5511c7bcf31d54cb56974f07cdb101dcfe9ea598301ad6a440c0e91fa3188cd"), looks := true }, kinds := [], alts := [], laidByText := true, laidKinds := [.data, .pinned], laidTests := true, laidLooks := .later }
def LexReadsCardSaid : Prop := Claim7.holds Tryd.pinned (.plain (OpenSpec.ofChange lexReadsSpec)) lexReadsCard

/-- THE TIED CARD OF 'scantlinglaw04.NodeBuilds'. -/
def nodeBuildsCard : Claim7 := { stood := { row := nodeBuildsRow, standIns := [], harness := (true, "d5511c7bcf31d54cb56974f07cdb101dcfe9ea598301ad6a440c0e91fa3188cd"), looks := true }, kinds := [], alts := [], laidByText := true, laidKinds := [.data, .pinned], laidTests := true, laidLooks := .later }
def NodeBuildsCardSaid : Prop := Claim7.holds Tryd.pinned (.plain (OpenSpec.ofChange nodeBuildsSpec)) nodeBuildsCard

/-- THE TIED CARD OF 'scantlinglaw04.NodeKeeps'. -/
def nodeKeepsCard : Claim7 := { stood := { row := nodeKeepsRow, standIns := [], harness := (true, "d5511c7bcf31d54cb56974f07cdb101dcfe9ea598301ad6a440c0e91fa3188cd"), looks := true }, kinds := [], alts := [], laidByText := true, laidKinds := [.data, .pinned], laidTests := true, laidLooks := .later }
def NodeKeepsCardSaid : Prop := Claim7.holds Tryd.pinned (.plain (OpenSpec.ofChange nodeKeepsSpec)) nodeKeepsCard

/-- THE TIED CARD OF 'scantlinglaw04.NodeTurned'. -/
def nodeTurnedCard : Claim7 := { stood := { row := nodeTurnedRow, standIns := [], harness := (true, "d5511c7bcf31d54cb56974f07cdb101dcfe9ea598301ad6a440c0e91fa3188cd"), looks := true }, kinds := [], alts := [], laidByText := true, laidKinds := [.data, .pinned], laidTests := true, laidLooks := .later }
def NodeTurnedCardSaid : Prop := Claim7.holds Tryd.pinned (.plain (OpenSpec.ofChange nodeTurnedSpec)) nodeTurnedCard

/-- THE SECOND FORM's CARD OF 'scantlinglaw02.SplitFine'. -/
def splitFineUptoCard : Claim7 := { stood := { row := splitFineUptoRow, standIns := [], harness := (true, "d5511c7bcf31d54cb56974f07cdb101dcfe9ea598301ad6a440c0e91fa3188cd"), looks := true }, kinds := [], alts := [], laidByText := true, laidKinds := [.data], laidTests := true, laidLooks := .later }
def SplitFineUptoCardSaid : Prop := Claim7.holds Tryd.pinned (.plain (OpenSpec.upto splitFineSpec)) splitFineUptoCard

/-- THE SECOND FORM's CARD OF 'scantlinglaw02.SplitMore'. -/
def splitMoreUptoCard : Claim7 := { stood := { row := splitMoreUptoRow, standIns := [], harness := (true, "d5511c7bcf31d54cb56974f07cdb101dcfe9ea598301ad6a440c0e91fa3188cd"), looks := true }, kinds := [], alts := [], laidByText := true, laidKinds := [.data], laidTests := true, laidLooks := .later }
def SplitMoreUptoCardSaid : Prop := Claim7.holds Tryd.pinned (.plain (OpenSpec.upto splitMoreSpec)) splitMoreUptoCard

/-- THE SECOND FORM's CARD OF 'scantlinglaw03.LexReads'. -/
def lexReadsUptoCard : Claim7 := { stood := { row := lexReadsUptoRow, standIns := [], harness := (true, "d5511c7bcf31d54cb56974f07cdb101dcfe9ea598301ad6a440c0e91fa3188cd"), looks := true }, kinds := [], alts := [], laidByText := true, laidKinds := [.data, .pinned], laidTests := true, laidLooks := .later }
def LexReadsUptoCardSaid : Prop := Claim7.holds Tryd.pinned (.plain (OpenSpec.upto lexReadsSpec)) lexReadsUptoCard

/-- THE SECOND FORM's CARD OF 'scantlinglaw04.NodeBuilds'. -/
def nodeBuildsUptoCard : Claim7 := { stood := { row := nodeBuildsUptoRow, standIns := [], harness := (true, "d5511c7bcf31d54cb56974f07cdb101dcfe9ea598301ad6a440c0e91fa3188cd"), looks := true }, kinds := [], alts := [], laidByText := true, laidKinds := [.data, .pinned], laidTests := true, laidLooks := .later }
def NodeBuildsUptoCardSaid : Prop := Claim7.holds Tryd.pinned (.plain (OpenSpec.upto nodeBuildsSpec)) nodeBuildsUptoCard

/-- THE SECOND FORM's CARD OF 'scantlinglaw04.NodeKeeps'. -/
def nodeKeepsUptoCard : Claim7 := { stood := { row := nodeKeepsUptoRow, standIns := [], harness := (true, "d5511c7bcf31d54cb56974f07cdb101dcfe9ea598301ad6a440c0e91fa3188cd"), looks := true }, kinds := [], alts := [], laidByText := true, laidKinds := [.data, .pinned], laidTests := true, laidLooks := .later }
def NodeKeepsUptoCardSaid : Prop := Claim7.holds Tryd.pinned (.plain (OpenSpec.upto nodeKeepsSpec)) nodeKeepsUptoCard

/-- THE SECOND FORM's CARD OF 'scantlinglaw04.NodeTurned'. -/
def nodeTurnedUptoCard : Claim7 := { stood := { row := nodeTurnedUptoRow, standIns := [], harness := (true, "d5511c7bcf31d54cb56974f07cdb101dcfe9ea598301ad6a440c0e91fa3188cd"), looks := true }, kinds := [], alts := [], laidByText := true, laidKinds := [.data, .pinned], laidTests := true, laidLooks := .later }
def NodeTurnedUptoCardSaid : Prop := Claim7.holds Tryd.pinned (.plain (OpenSpec.upto nodeTurnedSpec)) nodeTurnedUptoCard
end Rows
end Go.Proofs.YtgehepiphdphjaaDoor
