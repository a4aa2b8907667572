/- What a value writes: the document's walk, leaves. -/
import Derived.Test.YtgdlbahfmddkaaaM28
import Derived.Test.YtgdlbahfmddkaaaM07
import Derived.Lib.ConvBytes
namespace Go.Proofs.Ytgdlbahfmddkaaa
open Go Go.RowKit Go.Lib
set_option linter.unusedVariables false
set_option linter.unusedSimpArgs false
set_option maxRecDepth 100000

end Go.Proofs.Ytgdlbahfmddkaaa
/- What a value writes: the document's walk, one of two. -/
namespace Go.Proofs.Ytgdlbahfmddkaaa
open Go Go.RowKit Go.Lib
set_option linter.unusedVariables false
set_option linter.unusedSimpArgs false
set_option maxRecDepth 100000

end Go.Proofs.Ytgdlbahfmddkaaa
/- What a value writes: the document's walk, frames. -/
namespace Go.Proofs.Ytgdlbahfmddkaaa
open Go Go.RowKit Go.Lib
set_option linter.unusedVariables false
set_option linter.unusedSimpArgs false
set_option maxRecDepth 100000

end Go.Proofs.Ytgdlbahfmddkaaa
/- What a value writes: the document's walk, any number of times. -/
namespace Go.Proofs.Ytgdlbahfmddkaaa
open Go Go.RowKit
set_option linter.unusedVariables false
set_option linter.unusedSimpArgs false
set_option maxRecDepth 100000

end Go.Proofs.Ytgdlbahfmddkaaa
