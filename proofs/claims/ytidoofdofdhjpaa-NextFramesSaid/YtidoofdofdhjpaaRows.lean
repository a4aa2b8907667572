/-
  No cell of these rows narrows 'for every input' (looked for: loops, veiled, ifaces, maps, wideKeys, modest, calm, conditions, laid).
  DERIVED. THE GIVEN ROWS OF THIS SEAT. 4 by the template 'for every input the law returns true; each argument reads behind the call as it read before'; 0 by the template 'total and deterministic' (their statements: YtidoofdofdhjpaaTotals.lean).
  GIVEN WITH THE SEED: the statements are not yours to turn. If you find one false, say at which input.
  Laid BY PROGRAM, IN A SANDBOX (cutbox-rows.mjs): the forced cells as the released guide's own fill.sh prints them over the translation a53aa4917537f2cc… (all of the seat's roots in one cut). By AI agents, Wed Nov 11 2026. No macro, syntax, notation, axiom, sorry.
-/
import Derived.Test.YtidoofdofdhjpaaChecked
import GoSem.Claim
import GoSem.ClaimJoined
import GoSem.ClaimMapViews
import Derived.JoinedTies
import Derived.KernelRfl
namespace Go.Proofs.Ytidoofdofdhjpaa
/- THE CELL 'sum', in the pinned program and in every row, IS THE sha256 OF THE DUMP (.gsa) THAT YtidoofdofdhjpaaProg.lean LOADS. Nothing in Lean hashes anything: it is a label: what it is worth is what the hold of that sum in a sandbox is worth. -/
noncomputable def Try.pinned : Pinned := { name := "ytidoofdofdhjpaa", sum := "a53aa4917537f2ccf2076c9fff90672953071eb3e83b888348054085df4590d2", checked := Try.checked }
namespace Rows
def none {H : Type} : Left H := { results := [], args := [] }

/-- 'scantlinglaw15.NextClasses': WHATEVER THE INPUT: true; the input reads as it did. -/
def nextClassesSpec : ChangeSpec := { name := "nextClasses", fn := fun _ => fun
  | [d1, d2, d3, d4] => { results := [.lit (.bool true)], args := [d1, d2, d3, d4] }
  | _ => none }
def nextClassesRow : OpenClaim := { program := "ytidoofdofdhjpaa", sum := "a53aa4917537f2ccf2076c9fff90672953071eb3e83b888348054085df4590d2", func := "scantling/scantlinglaw15.NextClasses", spec := "nextClasses", inPlace := ["slices.overlaps[scantling/api.Item]"], unfollowed := true, recurses := true, apart := false }
def NextClassesSaid : Prop := nextClassesRow.holds Try.pinned (OpenSpec.ofChange nextClassesSpec)

/-- ITS FALSE NEIGHBOUR: 'it returns false'. Refute it at one input. -/
def nextClassesWrong : ChangeSpec := { name := "nextClasses", fn := fun _ => fun
  | [d1, d2, d3, d4] => { results := [.lit (.bool false)], args := [d1, d2, d3, d4] }
  | _ => none }
def NextClassesWrongFalsely : Prop := nextClassesRow.holds Try.pinned (OpenSpec.ofChange nextClassesWrong)

/-- 'scantlinglaw15.NextForms': WHATEVER THE INPUT: true; the input reads as it did. -/
def nextFormsSpec : ChangeSpec := { name := "nextForms", fn := fun _ => fun
  | [d1, d2, d3] => { results := [.lit (.bool true)], args := [d1, d2, d3] }
  | _ => none }
def nextFormsRow : OpenClaim := { program := "ytidoofdofdhjpaa", sum := "a53aa4917537f2ccf2076c9fff90672953071eb3e83b888348054085df4590d2", func := "scantling/scantlinglaw15.NextForms", spec := "nextForms", inPlace := ["slices.overlaps[scantling/api.Item]"], unfollowed := true, recurses := true, apart := false }
def NextFormsSaid : Prop := nextFormsRow.holds Try.pinned (OpenSpec.ofChange nextFormsSpec)

/-- ITS FALSE NEIGHBOUR: 'it returns false'. Refute it at one input. -/
def nextFormsWrong : ChangeSpec := { name := "nextForms", fn := fun _ => fun
  | [d1, d2, d3] => { results := [.lit (.bool false)], args := [d1, d2, d3] }
  | _ => none }
def NextFormsWrongFalsely : Prop := nextFormsRow.holds Try.pinned (OpenSpec.ofChange nextFormsWrong)

/-- 'scantlinglaw15.NextFrames': WHATEVER THE INPUT: true; the input reads as it did. -/
def nextFramesSpec : ChangeSpec := { name := "nextFrames", fn := fun _ => fun
  | [d1, d2, d3] => { results := [.lit (.bool true)], args := [d1, d2, d3] }
  | _ => none }
def nextFramesRow : OpenClaim := { program := "ytidoofdofdhjpaa", sum := "a53aa4917537f2ccf2076c9fff90672953071eb3e83b888348054085df4590d2", func := "scantling/scantlinglaw15.NextFrames", spec := "nextFrames", inPlace := ["slices.overlaps[scantling/api.Item]"], unfollowed := true, recurses := true, apart := false }
def NextFramesSaid : Prop := nextFramesRow.holds Try.pinned (OpenSpec.ofChange nextFramesSpec)

/-- ITS FALSE NEIGHBOUR: 'it returns false'. Refute it at one input. -/
def nextFramesWrong : ChangeSpec := { name := "nextFrames", fn := fun _ => fun
  | [d1, d2, d3] => { results := [.lit (.bool false)], args := [d1, d2, d3] }
  | _ => none }
def NextFramesWrongFalsely : Prop := nextFramesRow.holds Try.pinned (OpenSpec.ofChange nextFramesWrong)

/-- 'scantlinglaw15.NextReads': WHATEVER THE INPUT: true; the input reads as it did. -/
def nextReadsSpec : ChangeSpec := { name := "nextReads", fn := fun _ => fun
  | [d1, d2] => { results := [.lit (.bool true)], args := [d1, d2] }
  | _ => none }
def nextReadsRow : OpenClaim := { program := "ytidoofdofdhjpaa", sum := "a53aa4917537f2ccf2076c9fff90672953071eb3e83b888348054085df4590d2", func := "scantling/scantlinglaw15.NextReads", spec := "nextReads", inPlace := ["slices.overlaps[scantling/api.Item]"], unfollowed := true, recurses := true, apart := false }
def NextReadsSaid : Prop := nextReadsRow.holds Try.pinned (OpenSpec.ofChange nextReadsSpec)

/-- ITS FALSE NEIGHBOUR: 'it returns false'. Refute it at one input. -/
def nextReadsWrong : ChangeSpec := { name := "nextReads", fn := fun _ => fun
  | [d1, d2] => { results := [.lit (.bool false)], args := [d1, d2] }
  | _ => none }
def NextReadsWrongFalsely : Prop := nextReadsRow.holds Try.pinned (OpenSpec.ofChange nextReadsWrong)

/- THE SECOND FORM. 'bulk': how many values and letters a reading holds, each counted each time it is reached (what is shared counts as often as it is met; a slice's spare places count too). A statement '..UptoSaid' is the law's where the arguments, and the package variables that the reading takes, are together of bulk at most 1048576: NARROWER than '..Said'. Prove '..Said' where nothing that the law and all that it calls make is longer than what came in: it says more and counts as full. Else prove '..UptoSaid'. A law counts once. -/
mutual
def uptoBulk {H : Type} : DataW H → Nat
  | .lit (.string bytes) => bytes.length + 1
  | .lit _ => 1
  | .nil => 1
  | .ptr d => uptoBulk d + 1
  | .slice elems spare => uptoBulkAll elems + uptoBulkAll spare + 1
  | .agg parts => uptoBulkAll parts + 1
  | .iface _ d => uptoBulk d + 1
  | .map entries => uptoBulkEntries entries + 1
  | .held _ => 1
def uptoBulkAll {H : Type} : List (DataW H) → Nat
  | [] => 0
  | d :: r => uptoBulk d + uptoBulkAll r
def uptoBulkEntries {H : Type} : List (Lit × DataW H) → Nat
  | [] => 0
  | x :: r => uptoBulkEntry x + uptoBulkEntries r
def uptoBulkEntry {H : Type} : Lit × DataW H → Nat
  | (.string bytes, d) => bytes.length + uptoBulk d + 1
  | (_, d) => uptoBulk d + 1
 end
def uptoSmall : (H : Type) → List (DataW H) → Bool := fun _ ds => decide (uptoBulkAll ds ≤ 1048576)
def OpenSpec.upto (s : _root_.Go.ChangeSpec) : _root_.Go.OpenSpec := { _root_.Go.OpenSpec.ofChange s with cond := some uptoSmall }

/-- 'scantlinglaw15.NextClasses', WHERE WHAT IT READS IS OF BULK AT MOST 1048576: true; the input reads as it did. -/
def nextClassesUptoRow : OpenClaim := { program := "ytidoofdofdhjpaa", sum := "a53aa4917537f2ccf2076c9fff90672953071eb3e83b888348054085df4590d2", func := "scantling/scantlinglaw15.NextClasses", spec := "nextClasses", inPlace := ["slices.overlaps[scantling/api.Item]"], unfollowed := true, recurses := true, apart := false, narrowed := true }
def NextClassesUptoSaid : Prop := nextClassesUptoRow.holds Try.pinned (OpenSpec.upto nextClassesSpec)

/-- 'scantlinglaw15.NextForms', WHERE WHAT IT READS IS OF BULK AT MOST 1048576: true; the input reads as it did. -/
def nextFormsUptoRow : OpenClaim := { program := "ytidoofdofdhjpaa", sum := "a53aa4917537f2ccf2076c9fff90672953071eb3e83b888348054085df4590d2", func := "scantling/scantlinglaw15.NextForms", spec := "nextForms", inPlace := ["slices.overlaps[scantling/api.Item]"], unfollowed := true, recurses := true, apart := false, narrowed := true }
def NextFormsUptoSaid : Prop := nextFormsUptoRow.holds Try.pinned (OpenSpec.upto nextFormsSpec)

/-- 'scantlinglaw15.NextFrames', WHERE WHAT IT READS IS OF BULK AT MOST 1048576: true; the input reads as it did. -/
def nextFramesUptoRow : OpenClaim := { program := "ytidoofdofdhjpaa", sum := "a53aa4917537f2ccf2076c9fff90672953071eb3e83b888348054085df4590d2", func := "scantling/scantlinglaw15.NextFrames", spec := "nextFrames", inPlace := ["slices.overlaps[scantling/api.Item]"], unfollowed := true, recurses := true, apart := false, narrowed := true }
def NextFramesUptoSaid : Prop := nextFramesUptoRow.holds Try.pinned (OpenSpec.upto nextFramesSpec)

/-- 'scantlinglaw15.NextReads', WHERE WHAT IT READS IS OF BULK AT MOST 1048576: true; the input reads as it did. -/
def nextReadsUptoRow : OpenClaim := { program := "ytidoofdofdhjpaa", sum := "a53aa4917537f2ccf2076c9fff90672953071eb3e83b888348054085df4590d2", func := "scantling/scantlinglaw15.NextReads", spec := "nextReads", inPlace := ["slices.overlaps[scantling/api.Item]"], unfollowed := true, recurses := true, apart := false, narrowed := true }
def NextReadsUptoSaid : Prop := nextReadsUptoRow.holds Try.pinned (OpenSpec.upto nextReadsSpec)

end Rows
end Go.Proofs.Ytidoofdofdhjpaa
