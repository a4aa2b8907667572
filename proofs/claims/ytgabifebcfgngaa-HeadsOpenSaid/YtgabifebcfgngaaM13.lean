/- symMergeCmpFunc over a row of classes: two sorted halves become one, at whatever lengths. -/
import Derived.Test.YtgabifebcfgngaaM12
import Derived.Test.YtgabifebcfgngaaM11
import Derived.Test.YtgabifebcfgngaaM07
namespace Go.Proofs.Ytgabifebcfgngaa
open Go Go.RowKit
set_option linter.unusedVariables false

end Go.Proofs.Ytgabifebcfgngaa
/- symMergeCmpFunc over a row of classes: two sorted halves become one, at whatever lengths. -/
namespace Go.Proofs.Ytgabifebcfgngaa
open Go Go.RowKit
set_option linter.unusedVariables false

end Go.Proofs.Ytgabifebcfgngaa
/- SortStableFunc over a row of classes in the order by least bytes: the row is sorted, those of one least byte as they came. -/
namespace Go.Proofs.Ytgabifebcfgngaa
open Go Go.RowKit
set_option linter.unusedVariables false

/-! A row without a class. -/
end Go.Proofs.Ytgabifebcfgngaa
/- Rows of classes in memory: one that is read, one that a call owns, and what an append leaves. -/
namespace Go.Proofs.Ytgabifebcfgngaa
open Go Go.RowKit
set_option linter.unusedVariables false

end Go.Proofs.Ytgabifebcfgngaa
