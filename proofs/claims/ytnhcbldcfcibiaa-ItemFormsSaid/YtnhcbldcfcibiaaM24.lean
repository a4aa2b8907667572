/- The statement NodeForms of layer 4, walked. -/
import Derived.Test.YtnhcbldcfcibiaaM23
import Derived.Test.YtnhcbldcfcibiaaM21
import Derived.Test.YtnhcbldcfcibiaaM22
namespace Go.Proofs.Ytnhcbldcfcibiaa
open Go Go.RowKit
set_option linter.unusedVariables false
set_option linter.unusedSimpArgs false

end Go.Proofs.Ytnhcbldcfcibiaa
/- The statement NodeTurned of layer 4, walked. -/
namespace Go.Proofs.Ytnhcbldcfcibiaa
open Go Go.RowKit
set_option linter.unusedVariables false
set_option linter.unusedSimpArgs false

theorem NRow.take {w : World} {A : Option Addr} {l : List Nd} (h : NRow w A l) (n : Nat) : NRow w A (l.take n) := fun i hi => by
  rw [List.length_take] at hi
  have e : (l.take n).getD i nd0 = l.getD i nd0 := by
    rw [List.getD_eq_getElem?_getD, List.getD_eq_getElem?_getD, List.getElem?_take, if_pos (by omega)]
  rw [e]; exact h i (by omega)
theorem Txt.take {l : List Nd} (h : Txt l) (n : Nat) : Txt (l.take n) := fun x hx => h x (List.mem_of_mem_take hx)
end Go.Proofs.Ytnhcbldcfcibiaa
/- The document's wholes: walked. -/
namespace Go.Proofs.Ytnhcbldcfcibiaa
open Go Go.RowKit
set_option linter.unusedVariables false
set_option linter.unusedSimpArgs false

end Go.Proofs.Ytnhcbldcfcibiaa
/- Sizes of nodes and descriptions: walked. -/
namespace Go.Proofs.Ytnhcbldcfcibiaa
open Go Go.RowKit
set_option linter.unusedVariables false
set_option linter.unusedSimpArgs false

end Go.Proofs.Ytnhcbldcfcibiaa
