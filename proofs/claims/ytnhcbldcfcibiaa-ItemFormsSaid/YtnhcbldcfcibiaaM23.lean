/- A map whose keys are numbers: what a look-up finds, what a new key leaves. -/
import Derived.Test.YtnhcbldcfcibiaaM22
import Derived.Test.YtnhcbldcfcibiaaM20
import Derived.Test.YtnhcbldcfcibiaaProg
import Derived.WalkKit
import Derived.Carry
import Derived.Below
import Derived.Laws.EntriesVeiled
namespace Go.Proofs.Ytnhcbldcfcibiaa
open Go Go.RowKit
set_option linter.unusedVariables false
set_option linter.unusedSimpArgs false

end Go.Proofs.Ytnhcbldcfcibiaa
/- The table of kinds, of the ways of nothing: walked. -/
namespace Go.Proofs.Ytnhcbldcfcibiaa
open Go Go.RowKit
set_option linter.unusedVariables false
set_option linter.unusedSimpArgs false
set_option maxRecDepth 100000

end Go.Proofs.Ytnhcbldcfcibiaa
/- The anchor of layer 4: answers that the document fixes. -/
namespace Go.Proofs.Ytnhcbldcfcibiaa
open Go Go.RowKit
set_option linter.unusedVariables false
set_option linter.unusedSimpArgs false

end Go.Proofs.Ytnhcbldcfcibiaa
/- The statement NodeParts of layer 4, walked. -/
namespace Go.Proofs.Ytnhcbldcfcibiaa
open Go Go.RowKit
set_option linter.unusedVariables false
set_option linter.unusedSimpArgs false

end Go.Proofs.Ytnhcbldcfcibiaa
