/- Leaf, Wrap, Pair: walked. -/
import Derived.Test.YtgdlbahfmddkaaaM10
import Derived.Test.YtgdlbahfmddkaaaM15
import Derived.Test.YtgdlbahfmddkaaaM16
import Derived.Laws.MakeOwn
namespace Go.Proofs.Ytgdlbahfmddkaaa
open Go Go.RowKit
set_option linter.unusedVariables false
set_option linter.unusedSimpArgs false

theorem Blk.grow {w w' : World} {b g : Nat} {vs : Array Value} {t : TypeId} (h : Blk w b vs t) (hne : b ≠ g) (hg : w.grownBy w' (some g)) : Blk w' b vs t := (hg.block b h.lt (fun e => hne (Option.some.inj e))).trans h
end Go.Proofs.Ytgdlbahfmddkaaa
/- The anchor of layer 4: answers that the document fixes. -/
namespace Go.Proofs.Ytgdlbahfmddkaaa
open Go Go.RowKit
set_option linter.unusedVariables false
set_option linter.unusedSimpArgs false

end Go.Proofs.Ytgdlbahfmddkaaa
/- The statement NodeParts of layer 4, walked. -/
namespace Go.Proofs.Ytgdlbahfmddkaaa
open Go Go.RowKit
set_option linter.unusedVariables false
set_option linter.unusedSimpArgs false

theorem Form.mvOk {l : List Nd} (h : Form l) (ht : Txt l) (hlen : l.length ≤ 1073741823) {d : Int} (h1 : -1073741824 ≤ d) (h2 : d ≤ 1073741824) : ∀ n ∈ l, MvOk d n := fun n hn => by
  obtain ⟨i, hi, e⟩ := List.mem_iff_getElem.1 hn
  have ha : atN l i = n := by unfold atN; rw [List.getD_eq_getElem?_getD, List.getElem?_eq_getElem hi]; exact e
  have := (h.2.1 i hi).mvOk (by omega) (txt_at ht i) h1 h2
  rwa [ha] at this
end Go.Proofs.Ytgdlbahfmddkaaa
/- The statement NodeForms of layer 4, walked. -/
namespace Go.Proofs.Ytgdlbahfmddkaaa
open Go Go.RowKit
set_option linter.unusedVariables false
set_option linter.unusedSimpArgs false

theorem okN.kind9 {l : List Nd} {i : Nat} {n : Nd} (h : okN l i n) : n.kind ≤ 9 := by
  obtain ⟨_, h⟩ := h; omega
end Go.Proofs.Ytgdlbahfmddkaaa
