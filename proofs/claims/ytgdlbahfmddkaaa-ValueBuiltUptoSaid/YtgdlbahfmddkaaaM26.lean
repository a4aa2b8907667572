/- Spans: of a node, its parts' being known: walked. -/
import Derived.Test.YtgdlbahfmddkaaaM25
import Derived.Test.YtgdlbahfmddkaaaM18
import Derived.Test.YtgdlbahfmddkaaaM19
import Derived.Test.YtgdlbahfmddkaaaM16
import Derived.Test.YtgdlbahfmddkaaaM11
import Derived.Test.YtgdlbahfmddkaaaM17
import Derived.BigQuiet
namespace Go.Proofs.Ytgdlbahfmddkaaa
open Go Go.RowKit
set_option linter.unusedVariables false
set_option linter.unusedSimpArgs false
set_option maxRecDepth 100000
set_option maxHeartbeats 16000000

end Go.Proofs.Ytgdlbahfmddkaaa
/- Spans of nodes: the loop, walked. -/
namespace Go.Proofs.Ytgdlbahfmddkaaa
open Go Go.RowKit
set_option linter.unusedVariables false
set_option linter.unusedSimpArgs false
set_option maxRecDepth 100000

/-- What a node of a description must be, for its span to be told. -/
structure SpNd (n : Nd) : Prop where
  kind : 1 ≤ n.kind ∧ n.kind ≤ 9
  rep : n.kind = 7 → 0 ≤ n.lo ∧ n.lo ≤ n.hi ∧ n.hi ≤ 255
  text : n.text.length ≤ 1099511627776
end Go.Proofs.Ytgdlbahfmddkaaa
/- The document's spans: walked. -/
namespace Go.Proofs.Ytgdlbahfmddkaaa
open Go Go.RowKit
set_option linter.unusedVariables false
set_option linter.unusedSimpArgs false
set_option maxRecDepth 100000

end Go.Proofs.Ytgdlbahfmddkaaa
/- Ways of nothing: what they are made of, walked. -/
namespace Go.Proofs.Ytgdlbahfmddkaaa
open Go Go.RowKit
set_option linter.unusedVariables false
set_option linter.unusedSimpArgs false

end Go.Proofs.Ytgdlbahfmddkaaa
