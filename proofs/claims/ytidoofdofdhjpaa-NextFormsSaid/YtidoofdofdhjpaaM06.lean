/- The node of a value of a type of its own: walked. -/
import Derived.Test.YtidoofdofdhjpaaM05
import Derived.Test.YtidoofdofdhjpaaM04
import Derived.Lib.OthersKept
import Derived.WalkSpells
namespace Go.Proofs.Ytidoofdofdhjpaa
open Go Go.RowKit
set_option linter.unusedVariables false
set_option linter.unusedSimpArgs false

end Go.Proofs.Ytidoofdofdhjpaa
/- Nodes moved: walked. -/
namespace Go.Proofs.Ytidoofdofdhjpaa
open Go Go.RowKit
set_option linter.unusedVariables false
set_option linter.unusedSimpArgs false

end Go.Proofs.Ytidoofdofdhjpaa
/- The items of a class, numbers: walked. -/
namespace Go.Proofs.Ytidoofdofdhjpaa
open Go Go.RowKit
set_option linter.unusedVariables false

/-! ### an item -/
def z4 : Array Value := #[.int .u64 0, .int .u64 0, .int .u64 0, .int .u64 0]
/-- What is stored is read. -/
theorem four {w : World} {b : Nat} {t : TypeId} (h : Blk w b z4 t) :
    (∀ v, (w.setCell ⟨b, 0, none⟩ v).cell? ⟨b, 0, none⟩ = some v) ∧ (∀ u v, ((w.setCell ⟨b, 0, none⟩ u).setCell ⟨b, 1, none⟩ v).cell? ⟨b, 1, none⟩ = some v) ∧
    (∀ x u v, (((w.setCell ⟨b, 0, none⟩ x).setCell ⟨b, 1, none⟩ u).setCell ⟨b, 2, none⟩ v).cell? ⟨b, 2, none⟩ = some v) ∧
    (∀ y x u v, ((((w.setCell ⟨b, 0, none⟩ y).setCell ⟨b, 1, none⟩ x).setCell ⟨b, 2, none⟩ u).setCell ⟨b, 3, none⟩ v).cell? ⟨b, 3, none⟩ = some v) :=
  ⟨fun v => (h.setCell 0 v).cell 0, fun u v => ((h.setCell 0 u).setCell 1 v).cell 1, fun x u v => (((h.setCell 0 x).setCell 1 u).setCell 2 v).cell 2, fun y x u v => ((((h.setCell 0 y).setCell 1 x).setCell 2 u).setCell 3 v).cell 3⟩
/-! ### all items -/
end Go.Proofs.Ytidoofdofdhjpaa
/- Numbers: walked. -/
namespace Go.Proofs.Ytidoofdofdhjpaa
open Go Go.RowKit
set_option linter.unusedVariables false

end Go.Proofs.Ytidoofdofdhjpaa
