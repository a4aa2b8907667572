/-
  DERIVED. GIVEN WITH THE SEED: THE CARDS: each row of YtcgjmnhmhiddkaaDoorRows.lean that lists a variable, with what it lists TIED to the program's text (the seventh form; the later family's looks); each row that meets fmt, with fmt's text TOLD by the authors' own Lean function (tested against real Go, not proved from fmt's source: count such statements apart). THE CARD IS WHAT COUNTS. Prove the row's statement (the work); the ties are given (YtcgjmnhmhiddkaaDoorTie.lean); close each card by the builder's one call (the guide's Derived/Test/ToyasCard.lean, 'card_holds'). Laid BY PROGRAM, IN A SANDBOX (cutbox-door.mjs). By AI agents, Wed Nov 11 2026. No macro, syntax, notation, axiom, sorry.
-/
import Derived.Test.YtcgjmnhmhiddkaaDoorRows
import GoSem.ClaimSeven
namespace Go.Proofs.YtcgjmnhmhiddkaaDoor
namespace Rows

/-- THE TIED CARD OF 'scantlinglaw09.ValidSpaces'. -/
def validSpacesCard : Claim7 := { stood := { row := validSpacesRow, standIns := [], harness := (true, "79854ec67d95d17ced29a2131d23fd1df9de62f2027d4b1e3e62c25c436156e7"), looks := true }, kinds := [], alts := [], laidByText := true, laidKinds := [.data, .pinned], laidTests := true, laidLooks := .later }
def ValidSpacesCardSaid : Prop := Claim7.holds Tryd.pinned (.plain (OpenSpec.ofChange validSpacesSpec)) validSpacesCard

/-- THE SECOND FORM's CARD OF 'scantlinglaw09.ValidSpaces'. -/
def validSpacesUptoCard : Claim7 := { stood := { row := validSpacesUptoRow, standIns := [], harness := (true, "79854ec67d95d17ced29a2131d23fd1df9de62f2027d4b1e3e62c25c436156e7"), looks := true }, kinds := [], alts := [], laidByText := true, laidKinds := [.data, .pinned], laidTests := true, laidLooks := .later }
def ValidSpacesUptoCardSaid : Prop := Claim7.holds Tryd.pinned (.plain (OpenSpec.upto validSpacesSpec)) validSpacesUptoCard
end Rows
end Go.Proofs.YtcgjmnhmhiddkaaDoor
