/- Sizes of nodes: the loop, walked. -/
import Derived.Test.YtgabifebcfgngaaM24
import Derived.Test.YtgabifebcfgngaaM23
import Derived.Test.YtgabifebcfgngaaM03
namespace Go.Proofs.Ytgabifebcfgngaa
open Go Go.RowKit
set_option linter.unusedVariables false
set_option linter.unusedSimpArgs false

theorem OwnI.lower {w : World} {base base' : Nat} {v : Value} {l : List Int} (h : OwnI w base v l) (hb : base' ≤ base) : OwnI w base' v l := by
  obtain ⟨h0, ⟨hv, hn⟩ | ⟨g, cap, cur, hv, hg, hr⟩⟩ := h
  · exact ⟨h0, .inl ⟨hv, hn⟩⟩
  · exact ⟨h0, .inr ⟨g, cap, cur, hv, Nat.le_trans hb hg, hr⟩⟩
/-- What a node of a description must be, for its size to be told. -/
structure NdOk (n : Nd) : Prop where
  kind : 1 ≤ n.kind ∧ n.kind ≤ 9
  hi : -9223372036854775808 ≤ n.hi ∧ n.hi ≤ 9223372036854775807
  text : n.text.length ≤ 281474976710656
theorem natI_snoc (S : List Nat) (x : Nat) : natI S ++ [(x : Int)] = natI (S ++ [x]) := by unfold natI; simp
end Go.Proofs.Ytgabifebcfgngaa
/- Ways of nothing: of all nodes, of one; the first that isn't right: walked. -/
namespace Go.Proofs.Ytgabifebcfgngaa
open Go Go.RowKit
set_option linter.unusedVariables false
set_option linter.unusedSimpArgs false
set_option maxRecDepth 100000

end Go.Proofs.Ytgabifebcfgngaa
/- Bounds of pairs: walked. -/
namespace Go.Proofs.Ytgabifebcfgngaa
open Go Go.RowKit
set_option linter.unusedVariables false
set_option linter.unusedSimpArgs false

end Go.Proofs.Ytgabifebcfgngaa
/- The document's sizes: walked. -/
namespace Go.Proofs.Ytgabifebcfgngaa
open Go Go.RowKit
set_option linter.unusedVariables false
set_option linter.unusedSimpArgs false

end Go.Proofs.Ytgabifebcfgngaa
