/-
  DERIVED. GIVEN WITH THE SEED: THE CARDS: each row of YtpbadglfegcdjaaDoorRows.lean that lists a variable, with what it lists TIED to the program's text (the seventh form; the later family's looks); each row that meets fmt, with fmt's text TOLD by the authors' own Lean function (tested against real Go, not proved from fmt's source: count such statements apart). THE CARD IS WHAT COUNTS. Prove the row's statement (the work); the ties are given (YtpbadglfegcdjaaDoorTie.lean); close each card by the builder's one call (the guide's Derived/Test/ToyasCard.lean, 'card_holds'). Laid BY PROGRAM, IN A SANDBOX (cutbox-door.mjs). By AI agents, Wed Nov 11 2026. No macro, syntax, notation, axiom, sorry.
-/
import Derived.Test.YtpbadglfegcdjaaDoorRows
import GoSem.ClaimSeven
namespace Go.Proofs.YtpbadglfegcdjaaDoor
namespace Rows

/-- THE TIED CARD OF 'scantlinglaw08.NullTells'. -/
def nullTellsCard : Claim7 := { stood := { row := nullTellsRow, standIns := [], harness := (true, "e9f5a31f44ecea5130068ff4b8eb9e676d5ff8ebc572de402af73af297683434"), looks := true }, kinds := [], alts := [], laidByText := true, laidKinds := [.data, .pinned], laidTests := true, laidLooks := .later }
def NullTellsCardSaid : Prop := Claim7.holds Tryd.pinned (.plain (OpenSpec.ofChange nullTellsSpec)) nullTellsCard

/-- THE TIED CARD OF 'scantlinglaw08.NullCounts'. -/
def nullCountsCard : Claim7 := { stood := { row := nullCountsRow, standIns := [], harness := (true, "e9f5a31f44ecea5130068ff4b8eb9e676d5ff8ebc572de402af73af297683434"), looks := true }, kinds := [], alts := [], laidByText := true, laidKinds := [.data, .pinned], laidTests := true, laidLooks := .later }
def NullCountsCardSaid : Prop := Claim7.holds Tryd.pinned (.plain (OpenSpec.ofChange nullCountsSpec)) nullCountsCard

/-- THE TIED CARD OF 'scantlinglaw08.NullBuilt'. -/
def nullBuiltCard : Claim7 := { stood := { row := nullBuiltRow, standIns := [], harness := (true, "e9f5a31f44ecea5130068ff4b8eb9e676d5ff8ebc572de402af73af297683434"), looks := true }, kinds := [], alts := [], laidByText := true, laidKinds := [.data, .pinned], laidTests := true, laidLooks := .later }
def NullBuiltCardSaid : Prop := Claim7.holds Tryd.pinned (.plain (OpenSpec.ofChange nullBuiltSpec)) nullBuiltCard

/-- THE TIED CARD OF 'scantlinglaw08.NullTimes'. -/
def nullTimesCard : Claim7 := { stood := { row := nullTimesRow, standIns := [], harness := (true, "e9f5a31f44ecea5130068ff4b8eb9e676d5ff8ebc572de402af73af297683434"), looks := true }, kinds := [], alts := [], laidByText := true, laidKinds := [.data, .pinned], laidTests := true, laidLooks := .later }
def NullTimesCardSaid : Prop := Claim7.holds Tryd.pinned (.plain (OpenSpec.ofChange nullTimesSpec)) nullTimesCard

/-- THE SECOND FORM's CARD OF 'scantlinglaw08.NullTells'. -/
def nullTellsUptoCard : Claim7 := { stood := { row := nullTellsUptoRow, standIns := [], harness := (true, "e9f5a31f44ecea5130068ff4b8eb9e676d5ff8ebc572de402af73af297683434"), looks := true }, kinds := [], alts := [], laidByText := true, laidKinds := [.data, .pinned], laidTests := true, laidLooks := .later }
def NullTellsUptoCardSaid : Prop := Claim7.holds Tryd.pinned (.plain (OpenSpec.upto nullTellsSpec)) nullTellsUptoCard

/-- THE SECOND FORM's CARD OF 'scantlinglaw08.NullCounts'. -/
def nullCountsUptoCard : Claim7 := { stood := { row := nullCountsUptoRow, standIns := [], harness := (true, "e9f5a31f44ecea5130068ff4b8eb9e676d5ff8ebc572de402af73af297683434"), looks := true }, kinds := [], alts := [], laidByText := true, laidKinds := [.data, .pinned], laidTests := true, laidLooks := .later }
def NullCountsUptoCardSaid : Prop := Claim7.holds Tryd.pinned (.plain (OpenSpec.upto nullCountsSpec)) nullCountsUptoCard

/-- THE SECOND FORM's CARD OF 'scantlinglaw08.NullBuilt'. -/
def nullBuiltUptoCard : Claim7 := { stood := { row := nullBuiltUptoRow, standIns := [], harness := (true, "e9f5a31f44ecea5130068ff4b8eb9e676d5ff8ebc572de402af73af297683434"), looks := true }, kinds := [], alts := [], laidByText := true, laidKinds := [.data, .pinned], laidTests := true, laidLooks := .later }
def NullBuiltUptoCardSaid : Prop := Claim7.holds Tryd.pinned (.plain (OpenSpec.upto nullBuiltSpec)) nullBuiltUptoCard

/-- THE SECOND FORM's CARD OF 'scantlinglaw08.NullTimes'. -/
def nullTimesUptoCard : Claim7 := { stood := { row := nullTimesUptoRow, standIns := [], harness := (true, "e9f5a31f44ecea5130068ff4b8eb9e676d5ff8ebc572de402af73af297683434"), looks := true }, kinds := [], alts := [], laidByText := true, laidKinds := [.data, .pinned], laidTests := true, laidLooks := .later }
def NullTimesUptoCardSaid : Prop := Claim7.holds Tryd.pinned (.plain (OpenSpec.upto nullTimesSpec)) nullTimesUptoCard
end Rows
end Go.Proofs.YtpbadglfegcdjaaDoor
