/- The stable sort of package slices, over a row of classes: what it leaves is the same row, sorted by key, those of one key as they came; nothing else turns. -/
import Derived.Test.YtnhcbldcfcibiaaM02
import Derived.Test.YtnhcbldcfcibiaaM11
import Derived.Test.YtnhcbldcfcibiaaM03
import Derived.Deep.Cut
namespace Go.Proofs.Ytnhcbldcfcibiaa
open Go Go.RowKit
set_option linter.unusedVariables false

section
variable {w w' : World} {b n : Nat} {f : Nat → BitVec 256}
end

/-! ### swapRangeCmpFunc -/
/-! ### rotateCmpFunc -/
end Go.Proofs.Ytnhcbldcfcibiaa
/- insertionSortCmpFunc and symMergeCmpFunc over a row of classes, in the order by least bytes. -/
namespace Go.Proofs.Ytnhcbldcfcibiaa
open Go Go.RowKit
set_option linter.unusedVariables false

end Go.Proofs.Ytnhcbldcfcibiaa
/- symMergeCmpFunc over a row of classes: two sorted halves become one. -/
namespace Go.Proofs.Ytnhcbldcfcibiaa
open Go Go.RowKit
set_option linter.unusedVariables false

end Go.Proofs.Ytnhcbldcfcibiaa
/- symMergeCmpFunc over a row of classes: what is known on the way. -/
namespace Go.Proofs.Ytnhcbldcfcibiaa
open Go Go.RowKit
set_option linter.unusedVariables false

theorem Two'.congr {key : Nat → Nat} {a m b : Nat} {d d' : Nat → Nat} (h : Two' key a m b d) (he : ∀ i, a ≤ i → i < b → d' i = d i) (ha : a ≤ m) (hb : m ≤ b) : Two' key a m b d' :=
  ⟨sd_congr h.l fun i h1 h2 => he i h1 (by omega), sd_congr h.r fun i h1 h2 => he i (by omega) h2, fun i j i1 i2 j1 j2 hk => by
    rw [he i i1 (by omega), he j (by omega) j2] at hk ⊢
    exact h.cross i j i1 i2 j1 j2 hk⟩
end Go.Proofs.Ytnhcbldcfcibiaa
