/-
  NARROWER THAN 'FOR EVERY INPUT', by the rows' own cells (each row's printed sentence says how): NullTells: laid · NullCounts: laid · NullBuilt: laid · NullTimes: laid.
  DERIVED. THE GIVEN ROWS OF THIS SEAT. 4 by the template 'for every input the law returns true; each argument reads behind the call as it read before'; 0 by the template 'total and deterministic' (their statements: YtpbadglfegcdjaaDoorTotals.lean).
  GIVEN WITH THE SEED: the statements are not yours to turn. If you find one false, say at which input.
  Laid BY PROGRAM, IN A SANDBOX (cutbox-rows.mjs): the forced cells as the released guide's own fill.sh prints them over the translation 1b9de81aa0b50ac3… (all of the seat's roots in one cut). By AI agents, Wed Nov 11 2026. No macro, syntax, notation, axiom, sorry.
-/
import Derived.Test.YtpbadglfegcdjaaDoorChecked
import GoSem.PinnedTables
import GoSem.Claim
import GoSem.ClaimJoined
import GoSem.ClaimMapViews
import Derived.JoinedTies
import Derived.KernelRfl
namespace Go.Proofs.YtpbadglfegcdjaaDoor
/- THE CELL 'sum', in the pinned program and in every row, IS THE sha256 OF THE DUMP (.gsa) THAT YtpbadglfegcdjaaDoorProg.lean LOADS. Nothing in Lean hashes anything: it is a label: what it is worth is what the hold of that sum in a sandbox is worth. -/
noncomputable def Tryd.pinned : Pinned := { name := "ytpbadglfegcdjaadoor", sum := "1b9de81aa0b50ac3e4b07bbda13df26a29a15f6b2a4fcc965207b85f5422420e", checked := Tryd.checked }
namespace Rows
def none {H : Type} : Left H := { results := [], args := [] }

/- WHAT THE LISTED PACKAGE-LEVEL VARIABLES READ AS WHEN THE CALL BEGINS. Each datum BY PROGRAM (the guide's laid-datum.mjs) off the statement by which the dump's own 'gosem.cut.vars' lays the variable. In a bare row this is a premise. The card (YtpbadglfegcdjaaDoorCards.lean) ties it to the program's text. -/
def laid_unicode_utf8_acceptRanges {H : Type} : DataW H := .agg [.agg [.lit (.int .u8 128), .lit (.int .u8 191)], .agg [.lit (.int .u8 160), .lit (.int .u8 191)], .agg [.lit (.int .u8 128), .lit (.int .u8 159)], .agg [.lit (.int .u8 144), .lit (.int .u8 191)], .agg [.lit (.int .u8 128), .lit (.int .u8 143)], .agg [.lit (.int .u8 0), .lit (.int .u8 0)], .agg [.lit (.int .u8 0), .lit (.int .u8 0)], .agg [.lit (.int .u8 0), .lit (.int .u8 0)], .agg [.lit (.int .u8 0), .lit (.int .u8 0)], .agg [.lit (.int .u8 0), .lit (.int .u8 0)], .agg [.lit (.int .u8 0), .lit (.int .u8 0)], .agg [.lit (.int .u8 0), .lit (.int .u8 0)], .agg [.lit (.int .u8 0), .lit (.int .u8 0)], .agg [.lit (.int .u8 0), .lit (.int .u8 0)], .agg [.lit (.int .u8 0), .lit (.int .u8 0)], .agg [.lit (.int .u8 0), .lit (.int .u8 0)]]
/-- One of Go's own tables, pinned by name: the form's constant. -/
def laid_unicode_utf8_first : DataW Unit := Go.Pinned.utf8First

/-- 'scantlinglaw08.NullTells': WHATEVER THE INPUT: true; the input reads as it did. -/
def nullTellsSpec : ChangeSpec := { name := "nullTells", fn := fun _ => fun
  | [d1, d2] => { results := [.lit (.bool true)], args := [d1, d2] }
  | _ => none }
def nullTellsRow : OpenClaim := { program := "ytpbadglfegcdjaadoor", sum := "1b9de81aa0b50ac3e4b07bbda13df26a29a15f6b2a4fcc965207b85f5422420e", func := "scantling/scantlinglaw08.NullTells", spec := "nullTells", inPlace := ["internal/bytealg.IndexByteString", "internal/bytealg.IndexString"], unfollowed := true, recurses := true, named := ["unicode/utf8.first", "unicode/utf8.acceptRanges", "internal/bytealg.MaxLen"], apart := false, laid := [("unicode/utf8.acceptRanges", laid_unicode_utf8_acceptRanges), ("unicode/utf8.first", laid_unicode_utf8_first)] }
def NullTellsSaid : Prop := nullTellsRow.holds Tryd.pinned (OpenSpec.ofChange nullTellsSpec)

/-- ITS FALSE NEIGHBOUR: 'it returns false'. Refute it at one input. -/
def nullTellsWrong : ChangeSpec := { name := "nullTells", fn := fun _ => fun
  | [d1, d2] => { results := [.lit (.bool false)], args := [d1, d2] }
  | _ => none }
def NullTellsWrongFalsely : Prop := nullTellsRow.holds Tryd.pinned (OpenSpec.ofChange nullTellsWrong)

/-- 'scantlinglaw08.NullCounts': WHATEVER THE INPUT: true; the input reads as it did. -/
def nullCountsSpec : ChangeSpec := { name := "nullCounts", fn := fun _ => fun
  | [d1, d2] => { results := [.lit (.bool true)], args := [d1, d2] }
  | _ => none }
def nullCountsRow : OpenClaim := { program := "ytpbadglfegcdjaadoor", sum := "1b9de81aa0b50ac3e4b07bbda13df26a29a15f6b2a4fcc965207b85f5422420e", func := "scantling/scantlinglaw08.NullCounts", spec := "nullCounts", inPlace := ["internal/bytealg.IndexByteString", "internal/bytealg.IndexString"], unfollowed := true, recurses := true, named := ["unicode/utf8.first", "unicode/utf8.acceptRanges", "internal/bytealg.MaxLen"], apart := false, laid := [("unicode/utf8.acceptRanges", laid_unicode_utf8_acceptRanges), ("unicode/utf8.first", laid_unicode_utf8_first)] }
def NullCountsSaid : Prop := nullCountsRow.holds Tryd.pinned (OpenSpec.ofChange nullCountsSpec)

/-- ITS FALSE NEIGHBOUR: 'it returns false'. Refute it at one input. -/
def nullCountsWrong : ChangeSpec := { name := "nullCounts", fn := fun _ => fun
  | [d1, d2] => { results := [.lit (.bool false)], args := [d1, d2] }
  | _ => none }
def NullCountsWrongFalsely : Prop := nullCountsRow.holds Tryd.pinned (OpenSpec.ofChange nullCountsWrong)

/-- 'scantlinglaw08.NullBuilt': WHATEVER THE INPUT: true; the input reads as it did. -/
def nullBuiltSpec : ChangeSpec := { name := "nullBuilt", fn := fun _ => fun
  | [d1, d2] => { results := [.lit (.bool true)], args := [d1, d2] }
  | _ => none }
def nullBuiltRow : OpenClaim := { program := "ytpbadglfegcdjaadoor", sum := "1b9de81aa0b50ac3e4b07bbda13df26a29a15f6b2a4fcc965207b85f5422420e", func := "scantling/scantlinglaw08.NullBuilt", spec := "nullBuilt", inPlace := ["internal/bytealg.IndexByteString", "internal/bytealg.IndexString"], unfollowed := true, recurses := true, named := ["unicode/utf8.first", "unicode/utf8.acceptRanges", "internal/bytealg.MaxLen"], apart := false, laid := [("unicode/utf8.acceptRanges", laid_unicode_utf8_acceptRanges), ("unicode/utf8.first", laid_unicode_utf8_first)] }
def NullBuiltSaid : Prop := nullBuiltRow.holds Tryd.pinned (OpenSpec.ofChange nullBuiltSpec)

/-- ITS FALSE NEIGHBOUR: 'it returns false'. Refute it at one input. -/
def nullBuiltWrong : ChangeSpec := { name := "nullBuilt", fn := fun _ => fun
  | [d1, d2] => { results := [.lit (.bool false)], args := [d1, d2] }
  | _ => none }
def NullBuiltWrongFalsely : Prop := nullBuiltRow.holds Tryd.pinned (OpenSpec.ofChange nullBuiltWrong)

/-- 'scantlinglaw08.NullTimes': WHATEVER THE INPUT: true; the input reads as it did. -/
def nullTimesSpec : ChangeSpec := { name := "nullTimes", fn := fun _ => fun
  | [d1, d2, d3] => { results := [.lit (.bool true)], args := [d1, d2, d3] }
  | _ => none }
def nullTimesRow : OpenClaim := { program := "ytpbadglfegcdjaadoor", sum := "1b9de81aa0b50ac3e4b07bbda13df26a29a15f6b2a4fcc965207b85f5422420e", func := "scantling/scantlinglaw08.NullTimes", spec := "nullTimes", inPlace := ["internal/bytealg.IndexByteString", "internal/bytealg.IndexString"], unfollowed := true, recurses := true, named := ["unicode/utf8.first", "unicode/utf8.acceptRanges", "internal/bytealg.MaxLen"], apart := false, laid := [("unicode/utf8.acceptRanges", laid_unicode_utf8_acceptRanges), ("unicode/utf8.first", laid_unicode_utf8_first)] }
def NullTimesSaid : Prop := nullTimesRow.holds Tryd.pinned (OpenSpec.ofChange nullTimesSpec)

/-- ITS FALSE NEIGHBOUR: 'it returns false'. Refute it at one input. -/
def nullTimesWrong : ChangeSpec := { name := "nullTimes", fn := fun _ => fun
  | [d1, d2, d3] => { results := [.lit (.bool false)], args := [d1, d2, d3] }
  | _ => none }
def NullTimesWrongFalsely : Prop := nullTimesRow.holds Tryd.pinned (OpenSpec.ofChange nullTimesWrong)

/- THE SECOND FORM. 'bulk': how many values and letters a reading holds, each counted each time it is reached (what is shared counts as often as it is met; a slice's spare places count too). A statement '..UptoSaid' is the law's where the arguments, and the package variables that the reading takes, are together of bulk at most 1048576: NARROWER than '..Said'. Prove '..Said' where nothing that the law and all that it calls make is longer than what came in: it says more and counts as full. Else prove '..UptoSaid'. A law counts once. -/
mutual
def uptoBulk {H : Type} : DataW H → Nat
  | .lit (.string bytes) => bytes.length + 1
  | .lit _ => 1
  | .nil => 1
  | .ptr d => uptoBulk d + 1
  | .slice elems spare => uptoBulkAll elems + uptoBulkAll spare + 1
  | .agg parts => uptoBulkAll parts + 1
  | .iface _ d => uptoBulk d + 1
  | .map entries => uptoBulkEntries entries + 1
  | .held _ => 1
def uptoBulkAll {H : Type} : List (DataW H) → Nat
  | [] => 0
  | d :: r => uptoBulk d + uptoBulkAll r
def uptoBulkEntries {H : Type} : List (Lit × DataW H) → Nat
  | [] => 0
  | x :: r => uptoBulkEntry x + uptoBulkEntries r
def uptoBulkEntry {H : Type} : Lit × DataW H → Nat
  | (.string bytes, d) => bytes.length + uptoBulk d + 1
  | (_, d) => uptoBulk d + 1
 end
def uptoSmall : (H : Type) → List (DataW H) → Bool := fun _ ds => decide (uptoBulkAll ds ≤ 1048576)
def OpenSpec.upto (s : _root_.Go.ChangeSpec) : _root_.Go.OpenSpec := { _root_.Go.OpenSpec.ofChange s with cond := some uptoSmall }

/-- 'scantlinglaw08.NullTells', WHERE WHAT IT READS IS OF BULK AT MOST 1048576: true; the input reads as it did. -/
def nullTellsUptoRow : OpenClaim := { program := "ytpbadglfegcdjaadoor", sum := "1b9de81aa0b50ac3e4b07bbda13df26a29a15f6b2a4fcc965207b85f5422420e", func := "scantling/scantlinglaw08.NullTells", spec := "nullTells", inPlace := ["internal/bytealg.IndexByteString", "internal/bytealg.IndexString"], unfollowed := true, recurses := true, named := ["unicode/utf8.first", "unicode/utf8.acceptRanges", "internal/bytealg.MaxLen"], apart := false, laid := [("unicode/utf8.acceptRanges", laid_unicode_utf8_acceptRanges), ("unicode/utf8.first", laid_unicode_utf8_first)], narrowed := true }
def NullTellsUptoSaid : Prop := nullTellsUptoRow.holds Tryd.pinned (OpenSpec.upto nullTellsSpec)

/-- 'scantlinglaw08.NullCounts', WHERE WHAT IT READS IS OF BULK AT MOST 1048576: true; the input reads as it did. -/
def nullCountsUptoRow : OpenClaim := { program := "ytpbadglfegcdjaadoor", sum := "1b9de81aa0b50ac3e4b07bbda13df26a29a15f6b2a4fcc965207b85f5422420e", func := "scantling/scantlinglaw08.NullCounts", spec := "nullCounts", inPlace := ["internal/bytealg.IndexByteString", "internal/bytealg.IndexString"], unfollowed := true, recurses := true, named := ["unicode/utf8.first", "unicode/utf8.acceptRanges", "internal/bytealg.MaxLen"], apart := false, laid := [("unicode/utf8.acceptRanges", laid_unicode_utf8_acceptRanges), ("unicode/utf8.first", laid_unicode_utf8_first)], narrowed := true }
def NullCountsUptoSaid : Prop := nullCountsUptoRow.holds Tryd.pinned (OpenSpec.upto nullCountsSpec)

/-- 'scantlinglaw08.NullBuilt', WHERE WHAT IT READS IS OF BULK AT MOST 1048576: true; the input reads as it did. -/
def nullBuiltUptoRow : OpenClaim := { program := "ytpbadglfegcdjaadoor", sum := "1b9de81aa0b50ac3e4b07bbda13df26a29a15f6b2a4fcc965207b85f5422420e", func := "scantling/scantlinglaw08.NullBuilt", spec := "nullBuilt", inPlace := ["internal/bytealg.IndexByteString", "internal/bytealg.IndexString"], unfollowed := true, recurses := true, named := ["unicode/utf8.first", "unicode/utf8.acceptRanges", "internal/bytealg.MaxLen"], apart := false, laid := [("unicode/utf8.acceptRanges", laid_unicode_utf8_acceptRanges), ("unicode/utf8.first", laid_unicode_utf8_first)], narrowed := true }
def NullBuiltUptoSaid : Prop := nullBuiltUptoRow.holds Tryd.pinned (OpenSpec.upto nullBuiltSpec)

/-- 'scantlinglaw08.NullTimes', WHERE WHAT IT READS IS OF BULK AT MOST 1048576: true; the input reads as it did. -/
def nullTimesUptoRow : OpenClaim := { program := "ytpbadglfegcdjaadoor", sum := "1b9de81aa0b50ac3e4b07bbda13df26a29a15f6b2a4fcc965207b85f5422420e", func := "scantling/scantlinglaw08.NullTimes", spec := "nullTimes", inPlace := ["internal/bytealg.IndexByteString", "internal/bytealg.IndexString"], unfollowed := true, recurses := true, named := ["unicode/utf8.first", "unicode/utf8.acceptRanges", "internal/bytealg.MaxLen"], apart := false, laid := [("unicode/utf8.acceptRanges", laid_unicode_utf8_acceptRanges), ("unicode/utf8.first", laid_unicode_utf8_first)], narrowed := true }
def NullTimesUptoSaid : Prop := nullTimesUptoRow.holds Tryd.pinned (OpenSpec.upto nullTimesSpec)

end Rows
end Go.Proofs.YtpbadglfegcdjaaDoor
