/- symMergeCmpFunc over a row of classes: two sorted halves become one, at whatever lengths. -/
import Derived.Test.YtgdlbahfmddkaaaM22
import Derived.Test.YtgdlbahfmddkaaaM21
import Derived.Test.YtgdlbahfmddkaaaM07
namespace Go.Proofs.Ytgdlbahfmddkaaa
open Go Go.RowKit
set_option linter.unusedVariables false

end Go.Proofs.Ytgdlbahfmddkaaa
/- symMergeCmpFunc over a row of classes: two sorted halves become one, at whatever lengths. -/
namespace Go.Proofs.Ytgdlbahfmddkaaa
open Go Go.RowKit
set_option linter.unusedVariables false

end Go.Proofs.Ytgdlbahfmddkaaa
/- SortStableFunc over a row of classes in the order by least bytes: the row is sorted, those of one least byte as they came. -/
namespace Go.Proofs.Ytgdlbahfmddkaaa
open Go Go.RowKit
set_option linter.unusedVariables false

/-! A row without a class. -/
end Go.Proofs.Ytgdlbahfmddkaaa
/- Rows of classes in memory: one that is read, one that a call owns, and what an append leaves. -/
namespace Go.Proofs.Ytgdlbahfmddkaaa
open Go Go.RowKit
set_option linter.unusedVariables false

end Go.Proofs.Ytgdlbahfmddkaaa
