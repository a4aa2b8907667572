/-
  DERIVED. GIVEN WITH THE SEED: THE CARDS: each row of YtdglimajelbflaaDoorRows.lean that lists a variable, with what it lists TIED to the program's text (the seventh form; the later family's looks); each row that meets fmt, with fmt's text TOLD by the authors' own Lean function (tested against real Go, not proved from fmt's source: count such statements apart). THE CARD IS WHAT COUNTS. Prove the row's statement (the work); the ties are given (YtdglimajelbflaaDoorTie.lean); close each card by the builder's one call (the guide's Derived/Test/ToyasCard.lean, 'card_holds'). Laid BY PROGRAM, IN A SANDBOX (cutbox-door.mjs). By AI agents, Wed Nov 11 2026. No macro, syntax, notation, axiom, sorry.
-/
import Derived.Test.YtdglimajelbflaaDoorRows
import GoSem.ClaimSeven
namespace Go.Proofs.YtdglimajelbflaaDoor
namespace Rows

/-- THE TIED CARD OF 'scantlinglaw02.SplitFine'. -/
def splitFineCard : Claim7 := { stood := { row := splitFineRow, standIns := [], harness := (true, "ddb34845079f84118277eedae2b5d7c44472184b9329f07e6ad093a480c83d7d"), looks := false }, kinds := [], alts := [], laidByText := true, laidKinds := [.data], laidTests := true, laidLooks := .later }
def SplitFineCardSaid : Prop := Claim7.holds Tryd.pinned (.plain (OpenSpec.ofChange splitFineSpec)) splitFineCard

/-- THE TIED CARD OF 'scantlinglaw02.SplitMore'. -/
def splitMoreCard : Claim7 := { stood := { row := splitMoreRow, standIns := [], harness := (true, "ddb34845079f84118277eedae2b5d7c44472184b9329f07e6ad093a480c83d7d"), looks := false }, kinds := [], alts := [], laidByText := true, laidKinds := [.data], laidTests := true, laidLooks := .later }
def SplitMoreCardSaid : Prop := Claim7.holds Tryd.pinned (.plain (OpenSpec.ofChange splitMoreSpec)) splitMoreCard

/-- THE TIED CARD OF 'scantlinglaw03.LexReads'. -/
def lexReadsCard : Claim7 := { stood := { row := lexReadsRow, standIns := [], harness := (true, "ddb34845079f84118277eedae2b5d7c44472184b9329f07e6ad093a480c83d7d"), looks := false }, kinds := [], alts := [], laidByText := true, laidKinds := [.data, .pinned], laidTests := true, laidLooks := .later }
def LexReadsCardSaid : Prop := Claim7.holds Tryd.pinned (.plain (OpenSpec.ofChange lexReadsSpec)) lexReadsCard

/-- THE TIED CARD OF 'scantlinglaw03.LexWhole'. -/
def lexWholeCard : Claim7 := { stood := { row := lexWholeRow, standIns := [], harness := (true, "ddb34845079f84118277eedae2b5d7c44472184b9329f07e6ad093a480c83d7d"), looks := false }, kinds := [], alts := [], laidByText := true, laidKinds := [.data, .pinned], laidTests := true, laidLooks := .later }
def LexWholeCardSaid : Prop := Claim7.holds Tryd.pinned (.plain (OpenSpec.ofChange lexWholeSpec)) lexWholeCard

/-- THE TIED CARD OF 'scantlinglaw03.LexOn'. -/
def lexOnCard : Claim7 := { stood := { row := lexOnRow, standIns := [], harness := (true, "ddb34845079f84118277eedae2b5d7c44472184b9329f07e6ad093a480c83d7d"), looks := false }, kinds := [], alts := [], laidByText := true, laidKinds := [.data, .pinned], laidTests := true, laidLooks := .later }
def LexOnCardSaid : Prop := Claim7.holds Tryd.pinned (.plain (OpenSpec.ofChange lexOnSpec)) lexOnCard

/-- THE TIED CARD OF 'scantlinglaw03.LexClass'. -/
def lexClassCard : Claim7 := { stood := { row := lexClassRow, standIns := [], harness := (true, "ddb34845079f84118277eedae2b5d7c44472184b9329f07e6ad093a480c83d7d"), looks := false }, kinds := [], alts := [], laidByText := true, laidKinds := [.data, .pinned], laidTests := true, laidLooks := .later }
def LexClassCardSaid : Prop := Claim7.holds Tryd.pinned (.plain (OpenSpec.ofChange lexClassSpec)) lexClassCard

/-- THE TIED CARD OF 'scantlinglaw03.LexRepeats'. -/
def lexRepeatsCard : Claim7 := { stood := { row := lexRepeatsRow, standIns := [], harness := (true, "ddb34845079f84118277eedae2b5d7c44472184b9329f07e6ad093a480c83d7d"), looks := false }, kinds := [], alts := [], laidByText := true, laidKinds := [.data, .pinned], laidTests := true, laidLooks := .later }
def LexRepeatsCardSaid : Prop := Claim7.holds Tryd.pinned (.plain (OpenSpec.ofChange lexRepeatsSpec)) lexRepeatsCard

/-- THE TIED CARD OF 'scantlinglaw03.LexTexts'. -/
def lexTextsCard : Claim7 := { stood := { row := lexTextsRow, standIns := [], harness := (true, "ddb34845079f84118277eedae2b5d7c44472184b9329f07e6ad093a480c83d7d"), looks := false }, kinds := [], alts := [], laidByText := true, laidKinds := [.data, .pinned], laidTests := true, laidLooks := .later }
def LexTextsCardSaid : Prop := Claim7.holds Tryd.pinned (.plain (OpenSpec.ofChange lexTextsSpec)) lexTextsCard

/-- THE TIED CARD OF 'scantlinglaw03.LexSpaces'. -/
def lexSpacesCard : Claim7 := { stood := { row := lexSpacesRow, standIns := [], harness := (true, "ddb34845079f84118277eedae2b5d7c44472184b9329f07e6ad093a480c83d7d"), looks := false }, kinds := [], alts := [], laidByText := true, laidKinds := [.data, .pinned], laidTests := true, laidLooks := .later }
def LexSpacesCardSaid : Prop := Claim7.holds Tryd.pinned (.plain (OpenSpec.ofChange lexSpacesSpec)) lexSpacesCard

/-- THE SECOND FORM's CARD OF 'scantlinglaw02.SplitFine'. -/
def splitFineUptoCard : Claim7 := { stood := { row := splitFineUptoRow, standIns := [], harness := (true, "ddb34845079f84118277eedae2b5d7c44472184b9329f07e6ad093a480c83d7d"), looks := false }, kinds := [], alts := [], laidByText := true, laidKinds := [.data], laidTests := true, laidLooks := .later }
def SplitFineUptoCardSaid : Prop := Claim7.holds Tryd.pinned (.plain (OpenSpec.upto splitFineSpec)) splitFineUptoCard

/-- THE SECOND FORM's CARD OF 'scantlinglaw02.SplitMore'. -/
def splitMoreUptoCard : Claim7 := { stood := { row := splitMoreUptoRow, standIns := [], harness := (true, "ddb34845079f84118277eedae2b5d7c44472184b9329f07e6ad093a480c83d7d"), looks := false }, kinds := [], alts := [], laidByText := true, laidKinds := [.data], laidTests := true, laidLooks := .later }
def SplitMoreUptoCardSaid : Prop := Claim7.holds Tryd.pinned (.plain (OpenSpec.upto splitMoreSpec)) splitMoreUptoCard

/-- THE SECOND FORM's CARD OF 'scantlinglaw03.LexReads'. -/
def lexReadsUptoCard : Claim7 := { stood := { row := lexReadsUptoRow, standIns := [], harness := (true, "ddb34845079f84118277eedae2b5d7c44472184b9329f07e6ad093a480c83d7d"), looks := false }, kinds := [], alts := [], laidByText := true, laidKinds := [.data, .pinned], laidTests := true, laidLooks := .later }
def LexReadsUptoCardSaid : Prop := Claim7.holds Tryd.pinned (.plain (OpenSpec.upto lexReadsSpec)) lexReadsUptoCard

/-- THE SECOND FORM's CARD OF 'scantlinglaw03.LexWhole'. -/
def lexWholeUptoCard : Claim7 := { stood := { row := lexWholeUptoRow, standIns := [], harness := (true, "ddb34845079f84118277eedae2b5d7c44472184b9329f07e6ad093a480c83d7d"), looks := false }, kinds := [], alts := [], laidByText := true, laidKinds := [.data, .pinned], laidTests := true, laidLooks := .later }
def LexWholeUptoCardSaid : Prop := Claim7.holds Tryd.pinned (.plain (OpenSpec.upto lexWholeSpec)) lexWholeUptoCard

/-- THE SECOND FORM's CARD OF 'scantlinglaw03.LexOn'. -/
def lexOnUptoCard : Claim7 := { stood := { row := lexOnUptoRow, standIns := [], harness := (true, "ddb34845079f84118277eedae2b5d7c44472184b9329f07e6ad093a480c83d7d"), looks := false }, kinds := [], alts := [], laidByText := true, laidKinds := [.data, .pinned], laidTests := true, laidLooks := .later }
def LexOnUptoCardSaid : Prop := Claim7.holds Tryd.pinned (.plain (OpenSpec.upto lexOnSpec)) lexOnUptoCard

/-- THE SECOND FORM's CARD OF 'scantlinglaw03.LexClass'. -/
def lexClassUptoCard : Claim7 := { stood := { row := lexClassUptoRow, standIns := [], harness := (true, "ddb34845079f84118277eedae2b5d7c44472184b9329f07e6ad093a480c83d7d"), looks := false }, kinds := [], alts := [], laidByText := true, laidKinds := [.data, .pinned], laidTests := true, laidLooks := .later }
def LexClassUptoCardSaid : Prop := Claim7.holds Tryd.pinned (.plain (OpenSpec.upto lexClassSpec)) lexClassUptoCard

/-- THE SECOND FORM's CARD OF 'scantlinglaw03.LexRepeats'. -/
def lexRepeatsUptoCard : Claim7 := { stood := { row := lexRepeatsUptoRow, standIns := [], harness := (true, "ddb34845079f84118277eedae2b5d7c44472184b9329f07e6ad093a480c83d7d"), looks := false }, kinds := [], alts := [], laidByText := true, laidKinds := [.data, .pinned], laidTests := true, laidLooks := .later }
def LexRepeatsUptoCardSaid : Prop := Claim7.holds Tryd.pinned (.plain (OpenSpec.upto lexRepeatsSpec)) lexRepeatsUptoCard

/-- THE SECOND FORM's CARD OF 'scantlinglaw03.LexTexts'. -/
def lexTextsUptoCard : Claim7 := { stood := { row := lexTextsUptoRow, standIns := [], harness := (true, "ddb34845079f84118277eedae2b5d7c44472184b9329f07e6ad093a480c83d7d"), looks := false }, kinds := [], alts := [], laidByText := true, laidKinds := [.data, .pinned], laidTests := true, laidLooks := .later }
def LexTextsUptoCardSaid : Prop := Claim7.holds Tryd.pinned (.plain (OpenSpec.upto lexTextsSpec)) lexTextsUptoCard

/-- THE SECOND FORM's CARD OF 'scantlinglaw03.LexSpaces'. -/
def lexSpacesUptoCard : Claim7 := { stood := { row := lexSpacesUptoRow, standIns := [], harness := (true, "ddb34845079f84118277eedae2b5d7c44472184b9329f07e6ad093a480c83d7d"), looks := false }, kinds := [], alts := [], laidByText := true, laidKinds := [.data, .pinned], laidTests := true, laidLooks := .later }
def LexSpacesUptoCardSaid : Prop := Claim7.holds Tryd.pinned (.plain (OpenSpec.upto lexSpacesSpec)) lexSpacesUptoCard
end Rows
end Go.Proofs.YtdglimajelbflaaDoor
