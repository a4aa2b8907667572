/-
  DERIVED. GIVEN WITH THE SEED: THE CARDS: each row of YthiibpabdkkknaaDoorRows.lean that lists a variable, with what it lists TIED to the program's text (the seventh form; the later family's looks); each row that meets fmt, with fmt's text TOLD by the authors' own Lean function (tested against real Go, not proved from fmt's source: count such statements apart). THE CARD IS WHAT COUNTS. Prove the row's statement (the work); the ties are given (YthiibpabdkkknaaDoorTie.lean); close each card by the builder's one call (the guide's Derived/Test/ToyasCard.lean, 'card_holds'). Laid BY PROGRAM, IN A SANDBOX (cutbox-door.mjs). By AI agents, Wed Nov 11 2026. No macro, syntax, notation, axiom, sorry.
-/
import Derived.Test.YthiibpabdkkknaaDoorRows
import GoSem.ClaimSeven
namespace Go.Proofs.YthiibpabdkkknaaDoor
namespace Rows

/-- THE TIED CARD OF 'scantlinglaw02.SplitFine'. -/
def splitFineCard : Claim7 := { stood := { row := splitFineRow, standIns := [], harness := (true, "799258e8beab1adff30d1ab9b20e7c8c99c4f3e45293f8c4630953c4589492a3"), looks := true }, kinds := [], alts := [], laidByText := true, laidKinds := [.data], laidTests := true, laidLooks := .later }
def SplitFineCardSaid : Prop := Claim7.holds Tryd.pinned (.plain (OpenSpec.ofChange splitFineSpec)) splitFineCard

/-- THE TIED CARD OF 'scantlinglaw02.SplitMore'. -/
def splitMoreCard : Claim7 := { stood := { row := splitMoreRow, standIns := [], harness := (true, "799258e8beab1adff30d1ab9b20e7c8c99c4f3e45293f8c4630953c4589492a3"), looks := true }, kinds := [], alts := [], laidByText := true, laidKinds := [.data], laidTests := true, laidLooks := .later }
def SplitMoreCardSaid : Prop := Claim7.holds Tryd.pinned (.plain (OpenSpec.ofChange splitMoreSpec)) splitMoreCard

/-- THE TIED CARD OF 'scantlinglaw03.LexReads'. -/
def lexReadsCard : Claim7 := { stood := { row := lexReadsRow, standIns := [], harness := (true, "799258e8beab1adff30d1ab9b20e7c8c99c4f3e45293f8c4630953c4589492a3"), looks := true }, kinds := [], alts := [], laidByText := true, laidKinds := [.data, .pinned], laidTests := true, laidLooks := .later }
def LexReadsCardSaid : Prop := Claim7.holds Tryd.pinned (.plain (OpenSpec.ofChange lexReadsSpec)) lexReadsCard

/-- THE TIED CARD OF 'scantlinglaw03.LexOn'. -/
def lexOnCard : Claim7 := { stood := { row := lexOnRow, standIns := [], harness := (true, "799258e8beab1adff30d1ab9b20e7c8c99c4f3e45293f8c4630953c4589492a3"), looks := true }, kinds := [], alts := [], laidByText := true, laidKinds := [.data, .pinned], laidTests := true, laidLooks := .later }
def LexOnCardSaid : Prop := Claim7.holds Tryd.pinned (.plain (OpenSpec.ofChange lexOnSpec)) lexOnCard

/-- THE TIED CARD OF 'scantlinglaw03.LexRepeats'. -/
def lexRepeatsCard : Claim7 := { stood := { row := lexRepeatsRow, standIns := [], harness := (true, "799258e8beab1adff30d1ab9b20e7c8c99c4f3e45293f8c4630953c4589492a3"), looks := true }, kinds := [], alts := [], laidByText := true, laidKinds := [.data, .pinned], laidTests := true, laidLooks := .later }
def LexRepeatsCardSaid : Prop := Claim7.holds Tryd.pinned (.plain (OpenSpec.ofChange lexRepeatsSpec)) lexRepeatsCard

/-- THE TIED CARD OF 'scantlinglaw03.LexSpaces'. -/
def lexSpacesCard : Claim7 := { stood := { row := lexSpacesRow, standIns := [], harness := (true, "799258e8beab1adff30d1ab9b20e7c8c99c4f3e45293f8c4630953c4589492a3"), looks := true }, kinds := [], alts := [], laidByText := true, laidKinds := [.data, .pinned], laidTests := true, laidLooks := .later }
def LexSpacesCardSaid : Prop := Claim7.holds Tryd.pinned (.plain (OpenSpec.ofChange lexSpacesSpec)) lexSpacesCard

/-- THE TIED CARD OF 'scantlinglaw04.NodeForms'. -/
def nodeFormsCard : Claim7 := { stood := { row := nodeFormsRow, standIns := [], harness := (true, "799258e8beab1adff30d1ab9b20e7c8c99c4f3e45293f8c4630953c4589492a3"), looks := true }, kinds := [], alts := [], laidByText := true, laidKinds := [.data, .pinned], laidTests := true, laidLooks := .later }
def NodeFormsCardSaid : Prop := Claim7.holds Tryd.pinned (.plain (OpenSpec.ofChange nodeFormsSpec)) nodeFormsCard

/-- THE TIED CARD OF 'scantlinglaw04.NodeBuilds'. -/
def nodeBuildsCard : Claim7 := { stood := { row := nodeBuildsRow, standIns := [], harness := (true, "799258e8beab1adff30d1ab9b20e7c8c99c4f3e45293f8c4630953c4589492a3"), looks := true }, kinds := [], alts := [], laidByText := true, laidKinds := [.data, .pinned], laidTests := true, laidLooks := .later }
def NodeBuildsCardSaid : Prop := Claim7.holds Tryd.pinned (.plain (OpenSpec.ofChange nodeBuildsSpec)) nodeBuildsCard

/-- THE TIED CARD OF 'scantlinglaw04.NodeParts'. -/
def nodePartsCard : Claim7 := { stood := { row := nodePartsRow, standIns := [], harness := (true, "799258e8beab1adff30d1ab9b20e7c8c99c4f3e45293f8c4630953c4589492a3"), looks := true }, kinds := [], alts := [], laidByText := true, laidKinds := [.data, .pinned], laidTests := true, laidLooks := .later }
def NodePartsCardSaid : Prop := Claim7.holds Tryd.pinned (.plain (OpenSpec.ofChange nodePartsSpec)) nodePartsCard

/-- THE TIED CARD OF 'scantlinglaw04.NodeKeeps'. -/
def nodeKeepsCard : Claim7 := { stood := { row := nodeKeepsRow, standIns := [], harness := (true, "799258e8beab1adff30d1ab9b20e7c8c99c4f3e45293f8c4630953c4589492a3"), looks := true }, kinds := [], alts := [], laidByText := true, laidKinds := [.data, .pinned], laidTests := true, laidLooks := .later }
def NodeKeepsCardSaid : Prop := Claim7.holds Tryd.pinned (.plain (OpenSpec.ofChange nodeKeepsSpec)) nodeKeepsCard

/-- THE TIED CARD OF 'scantlinglaw04.NodeTurned'. -/
def nodeTurnedCard : Claim7 := { stood := { row := nodeTurnedRow, standIns := [], harness := (true, "799258e8beab1adff30d1ab9b20e7c8c99c4f3e45293f8c4630953c4589492a3"), looks := true }, kinds := [], alts := [], laidByText := true, laidKinds := [.data, .pinned], laidTests := true, laidLooks := .later }
def NodeTurnedCardSaid : Prop := Claim7.holds Tryd.pinned (.plain (OpenSpec.ofChange nodeTurnedSpec)) nodeTurnedCard

/-- THE SECOND FORM's CARD OF 'scantlinglaw02.SplitFine'. -/
def splitFineUptoCard : Claim7 := { stood := { row := splitFineUptoRow, standIns := [], harness := (true, "799258e8beab1adff30d1ab9b20e7c8c99c4f3e45293f8c4630953c4589492a3"), looks := true }, kinds := [], alts := [], laidByText := true, laidKinds := [.data], laidTests := true, laidLooks := .later }
def SplitFineUptoCardSaid : Prop := Claim7.holds Tryd.pinned (.plain (OpenSpec.upto splitFineSpec)) splitFineUptoCard

/-- THE SECOND FORM's CARD OF 'scantlinglaw02.SplitMore'. -/
def splitMoreUptoCard : Claim7 := { stood := { row := splitMoreUptoRow, standIns := [], harness := (true, "799258e8beab1adff30d1ab9b20e7c8c99c4f3e45293f8c4630953c4589492a3"), looks := true }, kinds := [], alts := [], laidByText := true, laidKinds := [.data], laidTests := true, laidLooks := .later }
def SplitMoreUptoCardSaid : Prop := Claim7.holds Tryd.pinned (.plain (OpenSpec.upto splitMoreSpec)) splitMoreUptoCard

/-- THE SECOND FORM's CARD OF 'scantlinglaw03.LexReads'. -/
def lexReadsUptoCard : Claim7 := { stood := { row := lexReadsUptoRow, standIns := [], harness := (true, "799258e8beab1adff30d1ab9b20e7c8c99c4f3e45293f8c4630953c4589492a3"), looks := true }, kinds := [], alts := [], laidByText := true, laidKinds := [.data, .pinned], laidTests := true, laidLooks := .later }
def LexReadsUptoCardSaid : Prop := Claim7.holds Tryd.pinned (.plain (OpenSpec.upto lexReadsSpec)) lexReadsUptoCard

/-- THE SECOND FORM's CARD OF 'scantlinglaw03.LexOn'. -/
def lexOnUptoCard : Claim7 := { stood := { row := lexOnUptoRow, standIns := [], harness := (true, "799258e8beab1adff30d1ab9b20e7c8c99c4f3e45293f8c4630953c4589492a3"), looks := true }, kinds := [], alts := [], laidByText := true, laidKinds := [.data, .pinned], laidTests := true, laidLooks := .later }
def LexOnUptoCardSaid : Prop := Claim7.holds Tryd.pinned (.plain (OpenSpec.upto lexOnSpec)) lexOnUptoCard

/-- THE SECOND FORM's CARD OF 'scantlinglaw03.LexRepeats'. -/
def lexRepeatsUptoCard : Claim7 := { stood := { row := lexRepeatsUptoRow, standIns := [], harness := (true, "799258e8beab1adff30d1ab9b20e7c8c99c4f3e45293f8c4630953c4589492a3"), looks := true }, kinds := [], alts := [], laidByText := true, laidKinds := [.data, .pinned], laidTests := true, laidLooks := .later }
def LexRepeatsUptoCardSaid : Prop := Claim7.holds Tryd.pinned (.plain (OpenSpec.upto lexRepeatsSpec)) lexRepeatsUptoCard

/-- THE SECOND FORM's CARD OF 'scantlinglaw03.LexSpaces'. -/
def lexSpacesUptoCard : Claim7 := { stood := { row := lexSpacesUptoRow, standIns := [], harness := (true, "799258e8beab1adff30d1ab9b20e7c8c99c4f3e45293f8c4630953c4589492a3"), looks := true }, kinds := [], alts := [], laidByText := true, laidKinds := [.data, .pinned], laidTests := true, laidLooks := .later }
def LexSpacesUptoCardSaid : Prop := Claim7.holds Tryd.pinned (.plain (OpenSpec.upto lexSpacesSpec)) lexSpacesUptoCard

/-- THE SECOND FORM's CARD OF 'scantlinglaw04.NodeForms'. -/
def nodeFormsUptoCard : Claim7 := { stood := { row := nodeFormsUptoRow, standIns := [], harness := (true, "799258e8beab1adff30d1ab9b20e7c8c99c4f3e45293f8c4630953c4589492a3"), looks := true }, kinds := [], alts := [], laidByText := true, laidKinds := [.data, .pinned], laidTests := true, laidLooks := .later }
def NodeFormsUptoCardSaid : Prop := Claim7.holds Tryd.pinned (.plain (OpenSpec.upto nodeFormsSpec)) nodeFormsUptoCard

/-- THE SECOND FORM's CARD OF 'scantlinglaw04.NodeBuilds'. -/
def nodeBuildsUptoCard : Claim7 := { stood := { row := nodeBuildsUptoRow, standIns := [], harness := (true, "799258e8beab1adff30d1ab9b20e7c8c99c4f3e45293f8c4630953c4589492a3"), looks := true }, kinds := [], alts := [], laidByText := true, laidKinds := [.data, .pinned], laidTests := true, laidLooks := .later }
def NodeBuildsUptoCardSaid : Prop := Claim7.holds Tryd.pinned (.plain (OpenSpec.upto nodeBuildsSpec)) nodeBuildsUptoCard

/-- THE SECOND FORM's CARD OF 'scantlinglaw04.NodeParts'. -/
def nodePartsUptoCard : Claim7 := { stood := { row := nodePartsUptoRow, standIns := [], harness := (true, "799258e8beab1adff30d1ab9b20e7c8c99c4f3e45293f8c4630953c4589492a3"), looks := true }, kinds := [], alts := [], laidByText := true, laidKinds := [.data, .pinned], laidTests := true, laidLooks := .later }
def NodePartsUptoCardSaid : Prop := Claim7.holds Tryd.pinned (.plain (OpenSpec.upto nodePartsSpec)) nodePartsUptoCard

/-- THE SECOND FORM's CARD OF 'scantlinglaw04.NodeKeeps'. -/
def nodeKeepsUptoCard : Claim7 := { stood := { row := nodeKeepsUptoRow, standIns := [], harness := (true, "799258e8beab1adff30d1ab9b20e7c8c99c4f3e45293f8c4630953c4589492a3"), looks := true }, kinds := [], alts := [], laidByText := true, laidKinds := [.data, .pinned], laidTests := true, laidLooks := .later }
def NodeKeepsUptoCardSaid : Prop := Claim7.holds Tryd.pinned (.plain (OpenSpec.upto nodeKeepsSpec)) nodeKeepsUptoCard

/-- THE SECOND FORM's CARD OF 'scantlinglaw04.NodeTurned'. -/
def nodeTurnedUptoCard : Claim7 := { stood := { row := nodeTurnedUptoRow, standIns := [], harness := (true, "799258e8beab1adff30d1ab9b20e7c8c99c4f3e45293f8c4630953c4589492a3"), looks := true }, kinds := [], alts := [], laidByText := true, laidKinds := [.data, .pinned], laidTests := true, laidLooks := .later }
def NodeTurnedUptoCardSaid : Prop := Claim7.holds Tryd.pinned (.plain (OpenSpec.upto nodeTurnedSpec)) nodeTurnedUptoCard
end Rows
end Go.Proofs.YthiibpabdkkknaaDoor
