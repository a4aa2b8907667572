/- Spans: of a node, its parts' being known: walked. -/
import Derived.Test.YtpbbokdmoaadfaaM27
import Derived.Test.YtpbbokdmoaadfaaM14
import Derived.Test.YtpbbokdmoaadfaaM15
import Derived.Test.YtpbbokdmoaadfaaM13
import Derived.Test.YtpbbokdmoaadfaaM08
import Derived.BigQuiet
import Derived.Test.YtpbbokdmoaadfaaProg
import Derived.WalkKit
import Derived.Carry
import Derived.Below
import Derived.Laws.EntriesVeiled
namespace Go.Proofs.Ytpbbokdmoaadfaa
set_option maxHeartbeats 64000000
set_option maxRecDepth 1000000
set_option linter.all false
open Go Go.RowKit
end Go.Proofs.Ytpbbokdmoaadfaa
namespace Go.Proofs.Ytpbbokdmoaadfaa
set_option maxHeartbeats 64000000
set_option maxRecDepth 1000000
set_option linter.all false
open Go Go.RowKit
end Go.Proofs.Ytpbbokdmoaadfaa
namespace Go.Proofs.Ytpbbokdmoaadfaa
set_option maxHeartbeats 64000000
set_option maxRecDepth 1000000
set_option linter.all false
open Go Go.RowKit
end Go.Proofs.Ytpbbokdmoaadfaa
