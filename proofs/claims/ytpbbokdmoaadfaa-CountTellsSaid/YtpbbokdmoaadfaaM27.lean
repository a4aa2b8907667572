/- Spans: of a node, its parts' being known: walked. -/
import Derived.Test.YtpbbokdmoaadfaaM26
import Derived.Test.YtpbbokdmoaadfaaM19
import Derived.Test.YtpbbokdmoaadfaaM20
import Derived.Test.YtpbbokdmoaadfaaM18
import Derived.Test.YtpbbokdmoaadfaaM11
import Derived.BigQuiet
import Derived.Test.YtpbbokdmoaadfaaProg
import Derived.WalkKit
import Derived.Carry
import Derived.Below
import Derived.Laws.EntriesVeiled
namespace Go.Proofs.Ytpbbokdmoaadfaa
open Go Go.RowKit
set_option linter.unusedVariables false
set_option linter.unusedSimpArgs false
set_option maxRecDepth 100000
set_option maxHeartbeats 16000000
end Go.Proofs.Ytpbbokdmoaadfaa
namespace Go.Proofs.Ytpbbokdmoaadfaa
open Go Go.RowKit
set_option linter.unusedVariables false
set_option linter.unusedSimpArgs false
set_option maxRecDepth 100000
end Go.Proofs.Ytpbbokdmoaadfaa
namespace Go.Proofs.Ytpbbokdmoaadfaa
open Go Go.RowKit
set_option linter.unusedVariables false
set_option linter.unusedSimpArgs false
set_option maxRecDepth 100000
end Go.Proofs.Ytpbbokdmoaadfaa
