/-
  No cell of these rows narrows 'for every input' (looked for: loops, veiled, ifaces, maps, wideKeys, modest, calm, conditions, laid).
  DERIVED. THE GIVEN ROWS OF THIS SEAT. 4 by the template 'for every input the law returns true; each argument reads behind the call as it read before'; 0 by the template 'total and deterministic' (their statements: YtencdlcpnbdlbaaTotals.lean).
  GIVEN WITH THE SEED: the statements are not yours to turn. If you find one false, say at which input.
  Laid BY PROGRAM, IN A SANDBOX (cutbox-rows.mjs): the forced cells as the released guide's own fill.sh prints them over the translation f16d9d60cefde802… (all of the seat's roots in one cut). By AI agents, Wed Nov 11 2026. No macro, syntax, notation, axiom, sorry.
-/
import Derived.Test.YtencdlcpnbdlbaaChecked
import GoSem.Claim
import GoSem.ClaimJoined
import GoSem.ClaimMapViews
import Derived.JoinedTies
import Derived.KernelRfl
namespace Go.Proofs.Ytencdlcpnbdlbaa
/- THE CELL 'sum', in the pinned program and in every row, IS THE sha256 OF THE DUMP (.gsa) THAT YtencdlcpnbdlbaaProg.lean LOADS. Nothing in Lean hashes anything: it is a label: what it is worth is what the hold of that sum in a sandbox is worth. -/
noncomputable def Try.pinned : Pinned := { name := "ytencdlcpnbdlbaa", sum := "f16d9d60cefde802b77327c53a83d7f50da89f2c7913a6e028988b3ffc832c4b", checked := Try.checked }
namespace Rows
def none {H : Type} : Left H := { results := [], args := [] }

/-- 'scantlinglaw05.ParseOnly': WHATEVER THE INPUT: true; the input reads as it did. -/
def parseOnlySpec : ChangeSpec := { name := "parseOnly", fn := fun _ => fun
  | [d] => { results := [.lit (.bool true)], args := [d] }
  | _ => none }
def parseOnlyRow : OpenClaim := { program := "ytencdlcpnbdlbaa", sum := "f16d9d60cefde802b77327c53a83d7f50da89f2c7913a6e028988b3ffc832c4b", func := "scantling/scantlinglaw05.ParseOnly", spec := "parseOnly", unfollowed := true, recurses := true, apart := false }
def ParseOnlySaid : Prop := parseOnlyRow.holds Try.pinned (OpenSpec.ofChange parseOnlySpec)

/-- ITS FALSE NEIGHBOUR: 'it returns false'. Refute it at one input. -/
def parseOnlyWrong : ChangeSpec := { name := "parseOnly", fn := fun _ => fun
  | [d] => { results := [.lit (.bool false)], args := [d] }
  | _ => none }
def ParseOnlyWrongFalsely : Prop := parseOnlyRow.holds Try.pinned (OpenSpec.ofChange parseOnlyWrong)

/-- 'scantlinglaw05.ParseParts': WHATEVER THE INPUT: true; the input reads as it did. -/
def parsePartsSpec : ChangeSpec := { name := "parseParts", fn := fun _ => fun
  | [d1, d2] => { results := [.lit (.bool true)], args := [d1, d2] }
  | _ => none }
def parsePartsRow : OpenClaim := { program := "ytencdlcpnbdlbaa", sum := "f16d9d60cefde802b77327c53a83d7f50da89f2c7913a6e028988b3ffc832c4b", func := "scantling/scantlinglaw05.ParseParts", spec := "parseParts", unfollowed := true, recurses := true, apart := false }
def ParsePartsSaid : Prop := parsePartsRow.holds Try.pinned (OpenSpec.ofChange parsePartsSpec)

/-- ITS FALSE NEIGHBOUR: 'it returns false'. Refute it at one input. -/
def parsePartsWrong : ChangeSpec := { name := "parseParts", fn := fun _ => fun
  | [d1, d2] => { results := [.lit (.bool false)], args := [d1, d2] }
  | _ => none }
def ParsePartsWrongFalsely : Prop := parsePartsRow.holds Try.pinned (OpenSpec.ofChange parsePartsWrong)

/-- 'scantlinglaw05.ParseFaults': WHATEVER THE INPUT: true; the input reads as it did. -/
def parseFaultsSpec : ChangeSpec := { name := "parseFaults", fn := fun _ => fun
  | [d1, d2] => { results := [.lit (.bool true)], args := [d1, d2] }
  | _ => none }
def parseFaultsRow : OpenClaim := { program := "ytencdlcpnbdlbaa", sum := "f16d9d60cefde802b77327c53a83d7f50da89f2c7913a6e028988b3ffc832c4b", func := "scantling/scantlinglaw05.ParseFaults", spec := "parseFaults", unfollowed := true, recurses := true, apart := false }
def ParseFaultsSaid : Prop := parseFaultsRow.holds Try.pinned (OpenSpec.ofChange parseFaultsSpec)

/-- ITS FALSE NEIGHBOUR: 'it returns false'. Refute it at one input. -/
def parseFaultsWrong : ChangeSpec := { name := "parseFaults", fn := fun _ => fun
  | [d1, d2] => { results := [.lit (.bool false)], args := [d1, d2] }
  | _ => none }
def ParseFaultsWrongFalsely : Prop := parseFaultsRow.holds Try.pinned (OpenSpec.ofChange parseFaultsWrong)

/-- 'scantlinglaw05.ParseDeep': WHATEVER THE INPUT: true; the input reads as it did. -/
def parseDeepSpec : ChangeSpec := { name := "parseDeep", fn := fun _ => fun
  | [d1, d2] => { results := [.lit (.bool true)], args := [d1, d2] }
  | _ => none }
def parseDeepRow : OpenClaim := { program := "ytencdlcpnbdlbaa", sum := "f16d9d60cefde802b77327c53a83d7f50da89f2c7913a6e028988b3ffc832c4b", func := "scantling/scantlinglaw05.ParseDeep", spec := "parseDeep", unfollowed := true, recurses := true, apart := false }
def ParseDeepSaid : Prop := parseDeepRow.holds Try.pinned (OpenSpec.ofChange parseDeepSpec)

/-- ITS FALSE NEIGHBOUR: 'it returns false'. Refute it at one input. -/
def parseDeepWrong : ChangeSpec := { name := "parseDeep", fn := fun _ => fun
  | [d1, d2] => { results := [.lit (.bool false)], args := [d1, d2] }
  | _ => none }
def ParseDeepWrongFalsely : Prop := parseDeepRow.holds Try.pinned (OpenSpec.ofChange parseDeepWrong)

/- THE SECOND FORM. 'bulk': how many values and letters a reading holds, each counted each time it is reached (what is shared counts as often as it is met; a slice's spare places count too). A statement '..UptoSaid' is the law's where the arguments, and the package variables that the reading takes, are together of bulk at most 1048576: NARROWER than '..Said'. Prove '..Said' where nothing that the law and all that it calls make is longer than what came in: it says more and counts as full. Else prove '..UptoSaid'. A law counts once. -/
mutual
def uptoBulk {H : Type} : DataW H → Nat
  | .lit (.string bytes) => bytes.length + 1
  | .lit _ => 1
  | .nil => 1
  | .ptr d => uptoBulk d + 1
  | .slice elems spare => uptoBulkAll elems + uptoBulkAll spare + 1
  | .agg parts => uptoBulkAll parts + 1
  | .iface _ d => uptoBulk d + 1
  | .map entries => uptoBulkEntries entries + 1
  | .held _ => 1
def uptoBulkAll {H : Type} : List (DataW H) → Nat
  | [] => 0
  | d :: r => uptoBulk d + uptoBulkAll r
def uptoBulkEntries {H : Type} : List (Lit × DataW H) → Nat
  | [] => 0
  | x :: r => uptoBulkEntry x + uptoBulkEntries r
def uptoBulkEntry {H : Type} : Lit × DataW H → Nat
  | (.string bytes, d) => bytes.length + uptoBulk d + 1
  | (_, d) => uptoBulk d + 1
 end
def uptoSmall : (H : Type) → List (DataW H) → Bool := fun _ ds => decide (uptoBulkAll ds ≤ 1048576)
def OpenSpec.upto (s : _root_.Go.ChangeSpec) : _root_.Go.OpenSpec := { _root_.Go.OpenSpec.ofChange s with cond := some uptoSmall }

/-- 'scantlinglaw05.ParseOnly', WHERE WHAT IT READS IS OF BULK AT MOST 1048576: true; the input reads as it did. -/
def parseOnlyUptoRow : OpenClaim := { program := "ytencdlcpnbdlbaa", sum := "f16d9d60cefde802b77327c53a83d7f50da89f2c7913a6e028988b3ffc832c4b", func := "scantling/scantlinglaw05.ParseOnly", spec := "parseOnly", unfollowed := true, recurses := true, apart := false, narrowed := true }
def ParseOnlyUptoSaid : Prop := parseOnlyUptoRow.holds Try.pinned (OpenSpec.upto parseOnlySpec)

/-- 'scantlinglaw05.ParseParts', WHERE WHAT IT READS IS OF BULK AT MOST 1048576: true; the input reads as it did. -/
def parsePartsUptoRow : OpenClaim := { program := "ytencdlcpnbdlbaa", sum := "f16d9d60cefde802b77327c53a83d7f50da89f2c7913a6e028988b3ffc832c4b", func := "scantling/scantlinglaw05.ParseParts", spec := "parseParts", unfollowed := true, recurses := true, apart := false, narrowed := true }
def ParsePartsUptoSaid : Prop := parsePartsUptoRow.holds Try.pinned (OpenSpec.upto parsePartsSpec)

/-- 'scantlinglaw05.ParseFaults', WHERE WHAT IT READS IS OF BULK AT MOST 1048576: true; the input reads as it did. -/
def parseFaultsUptoRow : OpenClaim := { program := "ytencdlcpnbdlbaa", sum := "f16d9d60cefde802b77327c53a83d7f50da89f2c7913a6e028988b3ffc832c4b", func := "scantling/scantlinglaw05.ParseFaults", spec := "parseFaults", unfollowed := true, recurses := true, apart := false, narrowed := true }
def ParseFaultsUptoSaid : Prop := parseFaultsUptoRow.holds Try.pinned (OpenSpec.upto parseFaultsSpec)

/-- 'scantlinglaw05.ParseDeep', WHERE WHAT IT READS IS OF BULK AT MOST 1048576: true; the input reads as it did. -/
def parseDeepUptoRow : OpenClaim := { program := "ytencdlcpnbdlbaa", sum := "f16d9d60cefde802b77327c53a83d7f50da89f2c7913a6e028988b3ffc832c4b", func := "scantling/scantlinglaw05.ParseDeep", spec := "parseDeep", unfollowed := true, recurses := true, apart := false, narrowed := true }
def ParseDeepUptoSaid : Prop := parseDeepUptoRow.holds Try.pinned (OpenSpec.upto parseDeepSpec)

end Rows
end Go.Proofs.Ytencdlcpnbdlbaa
