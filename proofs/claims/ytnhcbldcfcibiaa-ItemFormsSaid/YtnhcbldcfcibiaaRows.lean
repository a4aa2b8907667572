/-
  No cell of these rows narrows 'for every input' (looked for: loops, veiled, ifaces, maps, wideKeys, modest, calm, conditions, laid).
  DERIVED. THE GIVEN ROWS OF THIS SEAT. 5 by the template 'for every input the law returns true; each argument reads behind the call as it read before'; 0 by the template 'total and deterministic' (their statements: YtnhcbldcfcibiaaTotals.lean).
  GIVEN WITH THE SEED: the statements are not yours to turn. If you find one false, say at which input.
  Laid BY PROGRAM, IN A SANDBOX (cutbox-rows.mjs): the forced cells as the released guide's own fill.sh prints them over the translation f2492dd3ddfbf4cc… (all of the seat's roots in one cut). By AI agents, Wed Nov 11 2026. No macro, syntax, notation, axiom, sorry.
-/
import Derived.Test.YtnhcbldcfcibiaaChecked
import GoSem.Claim
import GoSem.ClaimJoined
import GoSem.ClaimMapViews
import Derived.JoinedTies
import Derived.KernelRfl
namespace Go.Proofs.Ytnhcbldcfcibiaa
/- THE CELL 'sum', in the pinned program and in every row, IS THE sha256 OF THE DUMP (.gsa) THAT YtnhcbldcfcibiaaProg.lean LOADS. Nothing in Lean hashes anything: it is a label: what it is worth is what the hold of that sum in a sandbox is worth. -/
noncomputable def Try.pinned : Pinned := { name := "ytnhcbldcfcibiaa", sum := "f2492dd3ddfbf4ccf4ac89cada8a3a817d074b9c5991022a4d25c1c13d2469e2", checked := Try.checked }
namespace Rows
def none {H : Type} : Left H := { results := [], args := [] }

/-- 'scantlinglaw13.ItemTells': WHATEVER THE INPUT: true; the input reads as it did. -/
def itemTellsSpec : ChangeSpec := { name := "itemTells", fn := fun _ => fun
  | [d1, d2, d3] => { results := [.lit (.bool true)], args := [d1, d2, d3] }
  | _ => none }
def itemTellsRow : OpenClaim := { program := "ytnhcbldcfcibiaa", sum := "f2492dd3ddfbf4ccf4ac89cada8a3a817d074b9c5991022a4d25c1c13d2469e2", func := "scantling/scantlinglaw13.ItemTells", spec := "itemTells", unfollowed := true, recurses := true, apart := false }
def ItemTellsSaid : Prop := itemTellsRow.holds Try.pinned (OpenSpec.ofChange itemTellsSpec)

/-- ITS FALSE NEIGHBOUR: 'it returns false'. Refute it at one input. -/
def itemTellsWrong : ChangeSpec := { name := "itemTells", fn := fun _ => fun
  | [d1, d2, d3] => { results := [.lit (.bool false)], args := [d1, d2, d3] }
  | _ => none }
def ItemTellsWrongFalsely : Prop := itemTellsRow.holds Try.pinned (OpenSpec.ofChange itemTellsWrong)

/-- 'scantlinglaw13.ItemOrder': WHATEVER THE INPUT: true; the input reads as it did. -/
def itemOrderSpec : ChangeSpec := { name := "itemOrder", fn := fun _ => fun
  | [d1, d2, d3, d4] => { results := [.lit (.bool true)], args := [d1, d2, d3, d4] }
  | _ => none }
def itemOrderRow : OpenClaim := { program := "ytnhcbldcfcibiaa", sum := "f2492dd3ddfbf4ccf4ac89cada8a3a817d074b9c5991022a4d25c1c13d2469e2", func := "scantling/scantlinglaw13.ItemOrder", spec := "itemOrder", unfollowed := true, recurses := true, apart := false }
def ItemOrderSaid : Prop := itemOrderRow.holds Try.pinned (OpenSpec.ofChange itemOrderSpec)

/-- ITS FALSE NEIGHBOUR: 'it returns false'. Refute it at one input. -/
def itemOrderWrong : ChangeSpec := { name := "itemOrder", fn := fun _ => fun
  | [d1, d2, d3, d4] => { results := [.lit (.bool false)], args := [d1, d2, d3, d4] }
  | _ => none }
def ItemOrderWrongFalsely : Prop := itemOrderRow.holds Try.pinned (OpenSpec.ofChange itemOrderWrong)

/-- 'scantlinglaw13.ItemLowers': WHATEVER THE INPUT: true; the input reads as it did. -/
def itemLowersSpec : ChangeSpec := { name := "itemLowers", fn := fun _ => fun
  | [d1, d2] => { results := [.lit (.bool true)], args := [d1, d2] }
  | _ => none }
def itemLowersRow : OpenClaim := { program := "ytnhcbldcfcibiaa", sum := "f2492dd3ddfbf4ccf4ac89cada8a3a817d074b9c5991022a4d25c1c13d2469e2", func := "scantling/scantlinglaw13.ItemLowers", spec := "itemLowers", unfollowed := true, recurses := true, apart := false }
def ItemLowersSaid : Prop := itemLowersRow.holds Try.pinned (OpenSpec.ofChange itemLowersSpec)

/-- ITS FALSE NEIGHBOUR: 'it returns false'. Refute it at one input. -/
def itemLowersWrong : ChangeSpec := { name := "itemLowers", fn := fun _ => fun
  | [d1, d2] => { results := [.lit (.bool false)], args := [d1, d2] }
  | _ => none }
def ItemLowersWrongFalsely : Prop := itemLowersRow.holds Try.pinned (OpenSpec.ofChange itemLowersWrong)

/-- 'scantlinglaw13.ItemKeeps': WHATEVER THE INPUT: true; the input reads as it did. -/
def itemKeepsSpec : ChangeSpec := { name := "itemKeeps", fn := fun _ => fun
  | [d] => { results := [.lit (.bool true)], args := [d] }
  | _ => none }
def itemKeepsRow : OpenClaim := { program := "ytnhcbldcfcibiaa", sum := "f2492dd3ddfbf4ccf4ac89cada8a3a817d074b9c5991022a4d25c1c13d2469e2", func := "scantling/scantlinglaw13.ItemKeeps", spec := "itemKeeps", unfollowed := true, recurses := true, apart := false }
def ItemKeepsSaid : Prop := itemKeepsRow.holds Try.pinned (OpenSpec.ofChange itemKeepsSpec)

/-- ITS FALSE NEIGHBOUR: 'it returns false'. Refute it at one input. -/
def itemKeepsWrong : ChangeSpec := { name := "itemKeeps", fn := fun _ => fun
  | [d] => { results := [.lit (.bool false)], args := [d] }
  | _ => none }
def ItemKeepsWrongFalsely : Prop := itemKeepsRow.holds Try.pinned (OpenSpec.ofChange itemKeepsWrong)

/-- 'scantlinglaw13.ItemForms': WHATEVER THE INPUT: true; the input reads as it did. -/
def itemFormsSpec : ChangeSpec := { name := "itemForms", fn := fun _ => fun
  | [d1, d2, d3, d4] => { results := [.lit (.bool true)], args := [d1, d2, d3, d4] }
  | _ => none }
def itemFormsRow : OpenClaim := { program := "ytnhcbldcfcibiaa", sum := "f2492dd3ddfbf4ccf4ac89cada8a3a817d074b9c5991022a4d25c1c13d2469e2", func := "scantling/scantlinglaw13.ItemForms", spec := "itemForms", unfollowed := true, recurses := true, apart := false }
def ItemFormsSaid : Prop := itemFormsRow.holds Try.pinned (OpenSpec.ofChange itemFormsSpec)

/-- ITS FALSE NEIGHBOUR: 'it returns false'. Refute it at one input. -/
def itemFormsWrong : ChangeSpec := { name := "itemForms", fn := fun _ => fun
  | [d1, d2, d3, d4] => { results := [.lit (.bool false)], args := [d1, d2, d3, d4] }
  | _ => none }
def ItemFormsWrongFalsely : Prop := itemFormsRow.holds Try.pinned (OpenSpec.ofChange itemFormsWrong)

/- THE SECOND FORM. 'bulk': how many values and letters a reading holds, each counted each time it is reached (what is shared counts as often as it is met; a slice's spare places count too). A statement '..UptoSaid' is the law's where the arguments, and the package variables that the reading takes, are together of bulk at most 1048576: NARROWER than '..Said'. Prove '..Said' where nothing that the law and all that it calls make is longer than what came in: it says more and counts as full. Else prove '..UptoSaid'. A law counts once. -/
mutual
def uptoBulk {H : Type} : DataW H → Nat
  | .lit (.string bytes) => bytes.length + 1
  | .lit _ => 1
  | .nil => 1
  | .ptr d => uptoBulk d + 1
  | .slice elems spare => uptoBulkAll elems + uptoBulkAll spare + 1
  | .agg parts => uptoBulkAll parts + 1
  | .iface _ d => uptoBulk d + 1
  | .map entries => uptoBulkEntries entries + 1
  | .held _ => 1
def uptoBulkAll {H : Type} : List (DataW H) → Nat
  | [] => 0
  | d :: r => uptoBulk d + uptoBulkAll r
def uptoBulkEntries {H : Type} : List (Lit × DataW H) → Nat
  | [] => 0
  | x :: r => uptoBulkEntry x + uptoBulkEntries r
def uptoBulkEntry {H : Type} : Lit × DataW H → Nat
  | (.string bytes, d) => bytes.length + uptoBulk d + 1
  | (_, d) => uptoBulk d + 1
 end
def uptoSmall : (H : Type) → List (DataW H) → Bool := fun _ ds => decide (uptoBulkAll ds ≤ 1048576)
def OpenSpec.upto (s : _root_.Go.ChangeSpec) : _root_.Go.OpenSpec := { _root_.Go.OpenSpec.ofChange s with cond := some uptoSmall }

/-- 'scantlinglaw13.ItemTells', WHERE WHAT IT READS IS OF BULK AT MOST 1048576: true; the input reads as it did. -/
def itemTellsUptoRow : OpenClaim := { program := "ytnhcbldcfcibiaa", sum := "f2492dd3ddfbf4ccf4ac89cada8a3a817d074b9c5991022a4d25c1c13d2469e2", func := "scantling/scantlinglaw13.ItemTells", spec := "itemTells", unfollowed := true, recurses := true, apart := false, narrowed := true }
def ItemTellsUptoSaid : Prop := itemTellsUptoRow.holds Try.pinned (OpenSpec.upto itemTellsSpec)

/-- 'scantlinglaw13.ItemOrder', WHERE WHAT IT READS IS OF BULK AT MOST 1048576: true; the input reads as it did. -/
def itemOrderUptoRow : OpenClaim := { program := "ytnhcbldcfcibiaa", sum := "f2492dd3ddfbf4ccf4ac89cada8a3a817d074b9c5991022a4d25c1c13d2469e2", func := "scantling/scantlinglaw13.ItemOrder", spec := "itemOrder", unfollowed := true, recurses := true, apart := false, narrowed := true }
def ItemOrderUptoSaid : Prop := itemOrderUptoRow.holds Try.pinned (OpenSpec.upto itemOrderSpec)

/-- 'scantlinglaw13.ItemLowers', WHERE WHAT IT READS IS OF BULK AT MOST 1048576: true; the input reads as it did. -/
def itemLowersUptoRow : OpenClaim := { program := "ytnhcbldcfcibiaa", sum := "f2492dd3ddfbf4ccf4ac89cada8a3a817d074b9c5991022a4d25c1c13d2469e2", func := "scantling/scantlinglaw13.ItemLowers", spec := "itemLowers", unfollowed := true, recurses := true, apart := false, narrowed := true }
def ItemLowersUptoSaid : Prop := itemLowersUptoRow.holds Try.pinned (OpenSpec.upto itemLowersSpec)

/-- 'scantlinglaw13.ItemKeeps', WHERE WHAT IT READS IS OF BULK AT MOST 1048576: true; the input reads as it did. -/
def itemKeepsUptoRow : OpenClaim := { program := "ytnhcbldcfcibiaa", sum := "f2492dd3ddfbf4ccf4ac89cada8a3a817d074b9c5991022a4d25c1c13d2469e2", func := "scantling/scantlinglaw13.ItemKeeps", spec := "itemKeeps", unfollowed := true, recurses := true, apart := false, narrowed := true }
def ItemKeepsUptoSaid : Prop := itemKeepsUptoRow.holds Try.pinned (OpenSpec.upto itemKeepsSpec)

/-- 'scantlinglaw13.ItemForms', WHERE WHAT IT READS IS OF BULK AT MOST 1048576: true; the input reads as it did. -/
def itemFormsUptoRow : OpenClaim := { program := "ytnhcbldcfcibiaa", sum := "f2492dd3ddfbf4ccf4ac89cada8a3a817d074b9c5991022a4d25c1c13d2469e2", func := "scantling/scantlinglaw13.ItemForms", spec := "itemForms", unfollowed := true, recurses := true, apart := false, narrowed := true }
def ItemFormsUptoSaid : Prop := itemFormsUptoRow.holds Try.pinned (OpenSpec.upto itemFormsSpec)

end Rows
end Go.Proofs.Ytnhcbldcfcibiaa
