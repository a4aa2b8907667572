/- What a value writes: the document's walk, leaves. -/
import Derived.Test.YtpbbokdmoaadfaaM28
import Derived.Test.YtpbbokdmoaadfaaM05
import Derived.Lib.ConvBytes
namespace Go.Proofs.Ytpbbokdmoaadfaa
open Go Go.RowKit Go.Lib
set_option linter.unusedVariables false
set_option linter.unusedSimpArgs false
set_option maxRecDepth 100000
end Go.Proofs.Ytpbbokdmoaadfaa
namespace Go.Proofs.Ytpbbokdmoaadfaa
open Go Go.RowKit
set_option linter.unusedVariables false
set_option linter.unusedSimpArgs false
set_option maxRecDepth 100000
end Go.Proofs.Ytpbbokdmoaadfaa
