/- A map whose keys are numbers: what a look-up finds, what a new key leaves. -/
import Derived.Test.YtgdlbahfmddkaaaM26
import Derived.Test.YtgdlbahfmddkaaaM18
import Derived.Test.YtgdlbahfmddkaaaM19
import Derived.Test.YtgdlbahfmddkaaaProg
import Derived.WalkKit
import Derived.Carry
import Derived.Below
import Derived.Laws.EntriesVeiled
namespace Go.Proofs.Ytgdlbahfmddkaaa
open Go Go.RowKit
set_option linter.unusedVariables false
set_option linter.unusedSimpArgs false

end Go.Proofs.Ytgdlbahfmddkaaa
/- The table of kinds, of the ways of nothing: walked. -/
namespace Go.Proofs.Ytgdlbahfmddkaaa
open Go Go.RowKit
set_option linter.unusedVariables false
set_option linter.unusedSimpArgs false
set_option maxRecDepth 100000

end Go.Proofs.Ytgdlbahfmddkaaa
/- Ways of nothing: of all nodes, of one; the first that isn't right: walked. -/
namespace Go.Proofs.Ytgdlbahfmddkaaa
open Go Go.RowKit
set_option linter.unusedVariables false
set_option linter.unusedSimpArgs false
set_option maxRecDepth 100000

end Go.Proofs.Ytgdlbahfmddkaaa
/- Ways of nothing of one node, the first that isn't right, right: walked. -/
namespace Go.Proofs.Ytgdlbahfmddkaaa
open Go Go.RowKit
set_option linter.unusedVariables false
set_option linter.unusedSimpArgs false
set_option maxRecDepth 100000

/-- Right, as the program tells it. -/
def rgB (l : List Nd) : Bool := !(fstW l).2 && formB l
theorem rgB_iff (l : List Nd) : rgB l = true ↔ Rgt l := by
  unfold rgB Rgt
  rw [Bool.and_eq_true, formB_iff, Bool.not_eq_true', fstW_right]
  exact ⟨fun h => ⟨h.2, h.1⟩, fun h => ⟨h.2, h.1⟩⟩
/-- The first that isn't right, as it is answered. -/
def fstV (l : List Nd) : Value := .tuple #[.int .i64 ((fstW l).1 : Int), .bool (fstW l).2]
end Go.Proofs.Ytgdlbahfmddkaaa
