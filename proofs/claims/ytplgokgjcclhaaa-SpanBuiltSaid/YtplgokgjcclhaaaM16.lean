/- Sizes: sums, times, parts, bounds: walked. -/
import Derived.Test.YtplgokgjcclhaaaM15
import Derived.Test.YtplgokgjcclhaaaM10
import Derived.Test.YtplgokgjcclhaaaM14
import Derived.Laws.MakeOwn
namespace Go.Proofs.Ytplgokgjcclhaaa
open Go Go.RowKit
set_option linter.unusedVariables false
set_option linter.unusedSimpArgs false

/-- Numbers as the rows have them. -/
def natI (l : List Nat) : List Int := l.map (fun n : Nat => (n : Int))
theorem natI_length (l : List Nat) : (natI l).length = l.length := List.length_map _
theorem natI_get {l : List Nat} {i : Nat} (h : i < l.length) : (natI l).getD i 0 = ((l.getD i 0 : Nat) : Int) := by
  unfold natI
  rw [List.getD_eq_getElem?_getD, List.getD_eq_getElem?_getD, List.getElem?_map, List.getElem?_eq_getElem h]; rfl
end Go.Proofs.Ytplgokgjcclhaaa
/- Leaf, Wrap, Pair: walked. -/
namespace Go.Proofs.Ytplgokgjcclhaaa
open Go Go.RowKit
set_option linter.unusedVariables false
set_option linter.unusedSimpArgs false

end Go.Proofs.Ytplgokgjcclhaaa
/- The anchor of layer 4: answers that the document fixes. -/
namespace Go.Proofs.Ytplgokgjcclhaaa
open Go Go.RowKit
set_option linter.unusedVariables false
set_option linter.unusedSimpArgs false

end Go.Proofs.Ytplgokgjcclhaaa
/- The statement NodeParts of layer 4, walked. -/
namespace Go.Proofs.Ytplgokgjcclhaaa
open Go Go.RowKit
set_option linter.unusedVariables false
set_option linter.unusedSimpArgs false

theorem Form.mvOk {l : List Nd} (h : Form l) (ht : Txt l) (hlen : l.length ≤ 1073741823) {d : Int} (h1 : -1073741824 ≤ d) (h2 : d ≤ 1073741824) : ∀ n ∈ l, MvOk d n := fun n hn => by
  obtain ⟨i, hi, e⟩ := List.mem_iff_getElem.1 hn
  have ha : atN l i = n := by unfold atN; rw [List.getD_eq_getElem?_getD, List.getElem?_eq_getElem hi]; exact e
  have := (h.2.1 i hi).mvOk (by omega) (txt_at ht i) h1 h2
  rwa [ha] at this
end Go.Proofs.Ytplgokgjcclhaaa
