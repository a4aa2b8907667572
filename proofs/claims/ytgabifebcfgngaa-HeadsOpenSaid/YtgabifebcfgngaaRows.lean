/-
  No cell of these rows narrows 'for every input' (looked for: loops, veiled, ifaces, maps, wideKeys, modest, calm, conditions, laid).
  DERIVED. THE GIVEN ROWS OF THIS SEAT. 4 by the template 'for every input the law returns true; each argument reads behind the call as it read before'; 0 by the template 'total and deterministic' (their statements: YtgabifebcfgngaaTotals.lean).
  GIVEN WITH THE SEED: the statements are not yours to turn. If you find one false, say at which input.
  Laid BY PROGRAM, IN A SANDBOX (cutbox-rows.mjs): the forced cells as the released guide's own fill.sh prints them over the translation 0350dc48ff951e28… (all of the seat's roots in one cut). By AI agents, Wed Nov 11 2026. No macro, syntax, notation, axiom, sorry.
-/
import Derived.Test.YtgabifebcfgngaaChecked
import GoSem.Claim
import GoSem.ClaimJoined
import GoSem.ClaimMapViews
import Derived.JoinedTies
import Derived.KernelRfl
namespace Go.Proofs.Ytgabifebcfgngaa
/- THE CELL 'sum', in the pinned program and in every row, IS THE sha256 OF THE DUMP (.gsa) THAT YtgabifebcfgngaaProg.lean LOADS. Nothing in Lean hashes anything: it is a label: what it is worth is what the hold of that sum in a sandbox is worth. -/
noncomputable def Try.pinned : Pinned := { name := "ytgabifebcfgngaa", sum := "0350dc48ff951e28787e5aa0d6a9a21f62fa384147e7cb2df3dce0b701cb9a65", checked := Try.checked }
namespace Rows
def none {H : Type} : Left H := { results := [], args := [] }

/-- 'scantlinglaw14.HeadsReady': WHATEVER THE INPUT: true; the input reads as it did. -/
def headsReadySpec : ChangeSpec := { name := "headsReady", fn := fun _ => fun
  | [d] => { results := [.lit (.bool true)], args := [d] }
  | _ => none }
def headsReadyRow : OpenClaim := { program := "ytgabifebcfgngaa", sum := "0350dc48ff951e28787e5aa0d6a9a21f62fa384147e7cb2df3dce0b701cb9a65", func := "scantling/scantlinglaw14.HeadsReady", spec := "headsReady", unfollowed := true, recurses := true, apart := false }
def HeadsReadySaid : Prop := headsReadyRow.holds Try.pinned (OpenSpec.ofChange headsReadySpec)

/-- ITS FALSE NEIGHBOUR: 'it returns false'. Refute it at one input. -/
def headsReadyWrong : ChangeSpec := { name := "headsReady", fn := fun _ => fun
  | [d] => { results := [.lit (.bool false)], args := [d] }
  | _ => none }
def HeadsReadyWrongFalsely : Prop := headsReadyRow.holds Try.pinned (OpenSpec.ofChange headsReadyWrong)

/-- 'scantlinglaw14.HeadsOpen': WHATEVER THE INPUT: true; the input reads as it did. -/
def headsOpenSpec : ChangeSpec := { name := "headsOpen", fn := fun _ => fun
  | [d1, d2] => { results := [.lit (.bool true)], args := [d1, d2] }
  | _ => none }
def headsOpenRow : OpenClaim := { program := "ytgabifebcfgngaa", sum := "0350dc48ff951e28787e5aa0d6a9a21f62fa384147e7cb2df3dce0b701cb9a65", func := "scantling/scantlinglaw14.HeadsOpen", spec := "headsOpen", unfollowed := true, recurses := true, apart := false }
def HeadsOpenSaid : Prop := headsOpenRow.holds Try.pinned (OpenSpec.ofChange headsOpenSpec)

/-- ITS FALSE NEIGHBOUR: 'it returns false'. Refute it at one input. -/
def headsOpenWrong : ChangeSpec := { name := "headsOpen", fn := fun _ => fun
  | [d1, d2] => { results := [.lit (.bool false)], args := [d1, d2] }
  | _ => none }
def HeadsOpenWrongFalsely : Prop := headsOpenRow.holds Try.pinned (OpenSpec.ofChange headsOpenWrong)

/-- 'scantlinglaw14.HeadsKeeps': WHATEVER THE INPUT: true; the input reads as it did. -/
def headsKeepsSpec : ChangeSpec := { name := "headsKeeps", fn := fun _ => fun
  | [d1, d2] => { results := [.lit (.bool true)], args := [d1, d2] }
  | _ => none }
def headsKeepsRow : OpenClaim := { program := "ytgabifebcfgngaa", sum := "0350dc48ff951e28787e5aa0d6a9a21f62fa384147e7cb2df3dce0b701cb9a65", func := "scantling/scantlinglaw14.HeadsKeeps", spec := "headsKeeps", unfollowed := true, recurses := true, apart := false }
def HeadsKeepsSaid : Prop := headsKeepsRow.holds Try.pinned (OpenSpec.ofChange headsKeepsSpec)

/-- ITS FALSE NEIGHBOUR: 'it returns false'. Refute it at one input. -/
def headsKeepsWrong : ChangeSpec := { name := "headsKeeps", fn := fun _ => fun
  | [d1, d2] => { results := [.lit (.bool false)], args := [d1, d2] }
  | _ => none }
def HeadsKeepsWrongFalsely : Prop := headsKeepsRow.holds Try.pinned (OpenSpec.ofChange headsKeepsWrong)

/-- 'scantlinglaw14.HeadsWays': WHATEVER THE INPUT: true; the input reads as it did. -/
def headsWaysSpec : ChangeSpec := { name := "headsWays", fn := fun _ => fun
  | [d1, d2] => { results := [.lit (.bool true)], args := [d1, d2] }
  | _ => none }
def headsWaysRow : OpenClaim := { program := "ytgabifebcfgngaa", sum := "0350dc48ff951e28787e5aa0d6a9a21f62fa384147e7cb2df3dce0b701cb9a65", func := "scantling/scantlinglaw14.HeadsWays", spec := "headsWays", unfollowed := true, recurses := true, apart := false }
def HeadsWaysSaid : Prop := headsWaysRow.holds Try.pinned (OpenSpec.ofChange headsWaysSpec)

/-- ITS FALSE NEIGHBOUR: 'it returns false'. Refute it at one input. -/
def headsWaysWrong : ChangeSpec := { name := "headsWays", fn := fun _ => fun
  | [d1, d2] => { results := [.lit (.bool false)], args := [d1, d2] }
  | _ => none }
def HeadsWaysWrongFalsely : Prop := headsWaysRow.holds Try.pinned (OpenSpec.ofChange headsWaysWrong)

/- THE SECOND FORM. 'bulk': how many values and letters a reading holds, each counted each time it is reached (what is shared counts as often as it is met; a slice's spare places count too). A statement '..UptoSaid' is the law's where the arguments, and the package variables that the reading takes, are together of bulk at most 1048576: NARROWER than '..Said'. Prove '..Said' where nothing that the law and all that it calls make is longer than what came in: it says more and counts as full. Else prove '..UptoSaid'. A law counts once. -/
mutual
def uptoBulk {H : Type} : DataW H → Nat
  | .lit (.string bytes) => bytes.length + 1
  | .lit _ => 1
  | .nil => 1
  | .ptr d => uptoBulk d + 1
  | .slice elems spare => uptoBulkAll elems + uptoBulkAll spare + 1
  | .agg parts => uptoBulkAll parts + 1
  | .iface _ d => uptoBulk d + 1
  | .map entries => uptoBulkEntries entries + 1
  | .held _ => 1
def uptoBulkAll {H : Type} : List (DataW H) → Nat
  | [] => 0
  | d :: r => uptoBulk d + uptoBulkAll r
def uptoBulkEntries {H : Type} : List (Lit × DataW H) → Nat
  | [] => 0
  | x :: r => uptoBulkEntry x + uptoBulkEntries r
def uptoBulkEntry {H : Type} : Lit × DataW H → Nat
  | (.string bytes, d) => bytes.length + uptoBulk d + 1
  | (_, d) => uptoBulk d + 1
 end
def uptoSmall : (H : Type) → List (DataW H) → Bool := fun _ ds => decide (uptoBulkAll ds ≤ 1048576)
def OpenSpec.upto (s : _root_.Go.ChangeSpec) : _root_.Go.OpenSpec := { _root_.Go.OpenSpec.ofChange s with cond := some uptoSmall }

/-- 'scantlinglaw14.HeadsReady', WHERE WHAT IT READS IS OF BULK AT MOST 1048576: true; the input reads as it did. -/
def headsReadyUptoRow : OpenClaim := { program := "ytgabifebcfgngaa", sum := "0350dc48ff951e28787e5aa0d6a9a21f62fa384147e7cb2df3dce0b701cb9a65", func := "scantling/scantlinglaw14.HeadsReady", spec := "headsReady", unfollowed := true, recurses := true, apart := false, narrowed := true }
def HeadsReadyUptoSaid : Prop := headsReadyUptoRow.holds Try.pinned (OpenSpec.upto headsReadySpec)

/-- 'scantlinglaw14.HeadsOpen', WHERE WHAT IT READS IS OF BULK AT MOST 1048576: true; the input reads as it did. -/
def headsOpenUptoRow : OpenClaim := { program := "ytgabifebcfgngaa", sum := "0350dc48ff951e28787e5aa0d6a9a21f62fa384147e7cb2df3dce0b701cb9a65", func := "scantling/scantlinglaw14.HeadsOpen", spec := "headsOpen", unfollowed := true, recurses := true, apart := false, narrowed := true }
def HeadsOpenUptoSaid : Prop := headsOpenUptoRow.holds Try.pinned (OpenSpec.upto headsOpenSpec)

/-- 'scantlinglaw14.HeadsKeeps', WHERE WHAT IT READS IS OF BULK AT MOST 1048576: true; the input reads as it did. -/
def headsKeepsUptoRow : OpenClaim := { program := "ytgabifebcfgngaa", sum := "0350dc48ff951e28787e5aa0d6a9a21f62fa384147e7cb2df3dce0b701cb9a65", func := "scantling/scantlinglaw14.HeadsKeeps", spec := "headsKeeps", unfollowed := true, recurses := true, apart := false, narrowed := true }
def HeadsKeepsUptoSaid : Prop := headsKeepsUptoRow.holds Try.pinned (OpenSpec.upto headsKeepsSpec)

/-- 'scantlinglaw14.HeadsWays', WHERE WHAT IT READS IS OF BULK AT MOST 1048576: true; the input reads as it did. -/
def headsWaysUptoRow : OpenClaim := { program := "ytgabifebcfgngaa", sum := "0350dc48ff951e28787e5aa0d6a9a21f62fa384147e7cb2df3dce0b701cb9a65", func := "scantling/scantlinglaw14.HeadsWays", spec := "headsWays", unfollowed := true, recurses := true, apart := false, narrowed := true }
def HeadsWaysUptoSaid : Prop := headsWaysUptoRow.holds Try.pinned (OpenSpec.upto headsWaysSpec)

end Rows
end Go.Proofs.Ytgabifebcfgngaa
