/- symMergeCmpFunc over a row of classes: two sorted halves become one, at whatever lengths. -/
import Derived.Test.YtnhcbldcfcibiaaM12
import Derived.Test.YtnhcbldcfcibiaaM11
import Derived.Test.YtnhcbldcfcibiaaM07
namespace Go.Proofs.Ytnhcbldcfcibiaa
open Go Go.RowKit
set_option linter.unusedVariables false

end Go.Proofs.Ytnhcbldcfcibiaa
/- symMergeCmpFunc over a row of classes: two sorted halves become one, at whatever lengths. -/
namespace Go.Proofs.Ytnhcbldcfcibiaa
open Go Go.RowKit
set_option linter.unusedVariables false

end Go.Proofs.Ytnhcbldcfcibiaa
/- SortStableFunc over a row of classes in the order by least bytes: the row is sorted, those of one least byte as they came. -/
namespace Go.Proofs.Ytnhcbldcfcibiaa
open Go Go.RowKit
set_option linter.unusedVariables false

/-! A row without a class. -/
end Go.Proofs.Ytnhcbldcfcibiaa
/- Rows of classes in memory: one that is read, one that a call owns, and what an append leaves. -/
namespace Go.Proofs.Ytnhcbldcfcibiaa
open Go Go.RowKit
set_option linter.unusedVariables false

end Go.Proofs.Ytnhcbldcfcibiaa
