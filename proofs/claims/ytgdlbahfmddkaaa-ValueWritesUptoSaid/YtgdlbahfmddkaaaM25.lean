/- Rows of spans in memory. -/
import Derived.Test.YtgdlbahfmddkaaaM19
import Derived.Test.YtgdlbahfmddkaaaM12
import Derived.Test.YtgdlbahfmddkaaaM08
import Derived.Laws.EntriesVeiled
namespace Go.Proofs.Ytgdlbahfmddkaaa
open Go Go.RowKit
set_option linter.unusedVariables false
set_option linter.unusedSimpArgs false

end Go.Proofs.Ytgdlbahfmddkaaa
/- Spans: what they are made of, walked. -/
namespace Go.Proofs.Ytgdlbahfmddkaaa
open Go Go.RowKit
set_option linter.unusedVariables false
set_option linter.unusedSimpArgs false
set_option maxRecDepth 100000
set_option maxHeartbeats 16000000

end Go.Proofs.Ytgdlbahfmddkaaa
/- Spans: what joins two: walked. -/
namespace Go.Proofs.Ytgdlbahfmddkaaa
open Go Go.RowKit
set_option linter.unusedVariables false
set_option linter.unusedSimpArgs false
set_option maxRecDepth 100000
set_option maxHeartbeats 16000000

def SpG (p : Spn) : Prop := SpOk p ∧ p.1 ≤ 1099511627776 ∧ p.2 ≤ 1099511627776
end Go.Proofs.Ytgdlbahfmddkaaa
/- Spans: a class, a part, a star, a repeat, a frame: walked. -/
namespace Go.Proofs.Ytgdlbahfmddkaaa
open Go Go.RowKit
set_option linter.unusedVariables false
set_option linter.unusedSimpArgs false
set_option maxRecDepth 100000
set_option maxHeartbeats 16000000

theorem pairS_good {S : List Spn} (h : ∀ p ∈ S, SpG p) (a : Int) : SpG (pairS S a) := by
  unfold pairS
  split
  · rename_i hh
    have hk : a.toNat < S.length := by omega
    rw [List.getD_eq_getElem?_getD, List.getElem?_eq_getElem hk]
    exact h _ (List.getElem_mem hk)
  · exact ⟨.inl ⟨rfl, rfl⟩, by decide, by decide⟩
end Go.Proofs.Ytgdlbahfmddkaaa
