/- symMergeCmpFunc over a row of classes: what is known on the way. -/
import Derived.Test.YtidoofdofdhjpaaM13
namespace Go.Proofs.Ytidoofdofdhjpaa
open Go Go.RowKit
set_option linter.unusedVariables false

end Go.Proofs.Ytidoofdofdhjpaa
/- symMergeCmpFunc over a row of classes: two sorted halves become one, at whatever lengths. -/
namespace Go.Proofs.Ytidoofdofdhjpaa
open Go Go.RowKit
set_option linter.unusedVariables false

end Go.Proofs.Ytidoofdofdhjpaa
/- symMergeCmpFunc over a row of classes: two sorted halves become one, at whatever lengths. -/
namespace Go.Proofs.Ytidoofdofdhjpaa
open Go Go.RowKit
set_option linter.unusedVariables false

end Go.Proofs.Ytidoofdofdhjpaa
/- SortStableFunc over a row of classes in the order by least bytes: the row is sorted, those of one least byte as they came. -/
namespace Go.Proofs.Ytidoofdofdhjpaa
open Go Go.RowKit
set_option linter.unusedVariables false

/-! A row without a class. -/
end Go.Proofs.Ytidoofdofdhjpaa
