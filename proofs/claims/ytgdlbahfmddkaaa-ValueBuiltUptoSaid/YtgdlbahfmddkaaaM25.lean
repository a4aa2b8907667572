/- Rows of spans in memory. -/
import Derived.Test.YtgdlbahfmddkaaaM19
import Derived.Test.YtgdlbahfmddkaaaM12
import Derived.Test.YtgdlbahfmddkaaaM08
import Derived.Laws.EntriesVeiled
namespace Go.Proofs.Ytgdlbahfmddkaaa
open Go Go.RowKit
set_option linter.unusedVariables false
set_option linter.unusedSimpArgs false

end Go.Proofs.Ytgdlbahfmddkaaa
/- Spans: what they are made of, walked. -/
namespace Go.Proofs.Ytgdlbahfmddkaaa
open Go Go.RowKit
set_option linter.unusedVariables false
set_option linter.unusedSimpArgs false
set_option maxRecDepth 100000
set_option maxHeartbeats 16000000

end Go.Proofs.Ytgdlbahfmddkaaa
/- Spans: what joins two: walked. -/
namespace Go.Proofs.Ytgdlbahfmddkaaa
open Go Go.RowKit
set_option linter.unusedVariables false
set_option linter.unusedSimpArgs false
set_option maxRecDepth 100000
set_option maxHeartbeats 16000000

end Go.Proofs.Ytgdlbahfmddkaaa
/- Spans: a class, a part, a star, a repeat, a frame: walked. -/
namespace Go.Proofs.Ytgdlbahfmddkaaa
open Go Go.RowKit
set_option linter.unusedVariables false
set_option linter.unusedSimpArgs false
set_option maxRecDepth 100000
set_option maxHeartbeats 16000000

end Go.Proofs.Ytgdlbahfmddkaaa
