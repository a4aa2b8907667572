/-
  DERIVED. GIVEN WITH THE SEED: THE CARDS: each row of YtmnebddgbkkajaaDoorRows.lean that lists a variable, with what it lists TIED to the program's text (the seventh form; the later family's looks); each row that meets fmt, with fmt's text TOLD by the authors' own Lean function (tested against real Go, not proved from fmt's source: count such statements apart). THE CARD IS WHAT COUNTS. Prove the row's statement (the work); the ties are given (YtmnebddgbkkajaaDoorTie.lean); close each card by the builder's one call (the guide's Derived/Test/ToyasCard.lean, 'card_holds'). Laid BY PROGRAM, IN A SANDBOX (cutbox-door.mjs). By AI agents, Wed Nov 11 2026. No macro, syntax, notation, axiom, sorry.
-/
import Derived.Test.YtmnebddgbkkajaaDoorRows
import GoSem.ClaimSeven
namespace Go.Proofs.YtmnebddgbkkajaaDoor
namespace Rows

/-- THE TIED CARD OF 'scantlinglaw01.ClassDoes'. -/
def classDoesCard : Claim7 := { stood := { row := classDoesRow, standIns := [], harness := (true, "e9eab64b13a3e393c8417b5ead6c8e4be620887485eebbed10ea0b988cda2496"), looks := false }, kinds := [], alts := [], laidByText := true, laidKinds := [.data], laidTests := true, laidLooks := .later }
def ClassDoesCardSaid : Prop := Claim7.holds Tryd.pinned (.plain (OpenSpec.ofChange classDoesSpec)) classDoesCard

/-- THE TIED CARD OF 'scantlinglaw01.ClassLaws'. -/
def classLawsCard : Claim7 := { stood := { row := classLawsRow, standIns := [], harness := (true, "e9eab64b13a3e393c8417b5ead6c8e4be620887485eebbed10ea0b988cda2496"), looks := false }, kinds := [], alts := [], laidByText := true, laidKinds := [.data], laidTests := true, laidLooks := .later }
def ClassLawsCardSaid : Prop := Claim7.holds Tryd.pinned (.plain (OpenSpec.ofChange classLawsSpec)) classLawsCard

/-- THE TIED CARD OF 'scantlinglaw01.ClassRows'. -/
def classRowsCard : Claim7 := { stood := { row := classRowsRow, standIns := [], harness := (true, "e9eab64b13a3e393c8417b5ead6c8e4be620887485eebbed10ea0b988cda2496"), looks := false }, kinds := [], alts := [], laidByText := true, laidKinds := [.data], laidTests := true, laidLooks := .later }
def ClassRowsCardSaid : Prop := Claim7.holds Tryd.pinned (.plain (OpenSpec.ofChange classRowsSpec)) classRowsCard

/-- THE TIED CARD OF 'scantlinglaw01.ClassLeast'. -/
def classLeastCard : Claim7 := { stood := { row := classLeastRow, standIns := [], harness := (true, "e9eab64b13a3e393c8417b5ead6c8e4be620887485eebbed10ea0b988cda2496"), looks := false }, kinds := [], alts := [], laidByText := true, laidKinds := [.data], laidTests := true, laidLooks := .later }
def ClassLeastCardSaid : Prop := Claim7.holds Tryd.pinned (.plain (OpenSpec.ofChange classLeastSpec)) classLeastCard

/-- THE TIED CARD OF 'scantlinglaw01.ClassAdd'. -/
def classAddCard : Claim7 := { stood := { row := classAddRow, standIns := [], harness := (true, "e9eab64b13a3e393c8417b5ead6c8e4be620887485eebbed10ea0b988cda2496"), looks := false }, kinds := [], alts := [], laidByText := true, laidKinds := [.data], laidTests := true, laidLooks := .later }
def ClassAddCardSaid : Prop := Claim7.holds Tryd.pinned (.plain (OpenSpec.ofChange classAddSpec)) classAddCard

/-- THE SECOND FORM's CARD OF 'scantlinglaw01.ClassDoes'. -/
def classDoesUptoCard : Claim7 := { stood := { row := classDoesUptoRow, standIns := [], harness := (true, "e9eab64b13a3e393c8417b5ead6c8e4be620887485eebbed10ea0b988cda2496"), looks := false }, kinds := [], alts := [], laidByText := true, laidKinds := [.data], laidTests := true, laidLooks := .later }
def ClassDoesUptoCardSaid : Prop := Claim7.holds Tryd.pinned (.plain (OpenSpec.upto classDoesSpec)) classDoesUptoCard

/-- THE SECOND FORM's CARD OF 'scantlinglaw01.ClassLaws'. -/
def classLawsUptoCard : Claim7 := { stood := { row := classLawsUptoRow, standIns := [], harness := (true, "e9eab64b13a3e393c8417b5ead6c8e4be620887485eebbed10ea0b988cda2496"), looks := false }, kinds := [], alts := [], laidByText := true, laidKinds := [.data], laidTests := true, laidLooks := .later }
def ClassLawsUptoCardSaid : Prop := Claim7.holds Tryd.pinned (.plain (OpenSpec.upto classLawsSpec)) classLawsUptoCard

/-- THE SECOND FORM's CARD OF 'scantlinglaw01.ClassRows'. -/
def classRowsUptoCard : Claim7 := { stood := { row := classRowsUptoRow, standIns := [], harness := (true, "e9eab64b13a3e393c8417b5ead6c8e4be620887485eebbed10ea0b988cda2496"), looks := false }, kinds := [], alts := [], laidByText := true, laidKinds := [.data], laidTests := true, laidLooks := .later }
def ClassRowsUptoCardSaid : Prop := Claim7.holds Tryd.pinned (.plain (OpenSpec.upto classRowsSpec)) classRowsUptoCard

/-- THE SECOND FORM's CARD OF 'scantlinglaw01.ClassLeast'. -/
def classLeastUptoCard : Claim7 := { stood := { row := classLeastUptoRow, standIns := [], harness := (true, "e9eab64b13a3e393c8417b5ead6c8e4be620887485eebbed10ea0b988cda2496"), looks := false }, kinds := [], alts := [], laidByText := true, laidKinds := [.data], laidTests := true, laidLooks := .later }
def ClassLeastUptoCardSaid : Prop := Claim7.holds Tryd.pinned (.plain (OpenSpec.upto classLeastSpec)) classLeastUptoCard

/-- THE SECOND FORM's CARD OF 'scantlinglaw01.ClassAdd'. -/
def classAddUptoCard : Claim7 := { stood := { row := classAddUptoRow, standIns := [], harness := (true, "e9eab64b13a3e393c8417b5ead6c8e4be620887485eebbed10ea0b988cda2496"), looks := false }, kinds := [], alts := [], laidByText := true, laidKinds := [.data], laidTests := true, laidLooks := .later }
def ClassAddUptoCardSaid : Prop := Claim7.holds Tryd.pinned (.plain (OpenSpec.upto classAddSpec)) classAddUptoCard
end Rows
end Go.Proofs.YtmnebddgbkkajaaDoor
