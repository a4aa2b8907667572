/- Rows of places that are come to, in memory. -/
import Derived.Test.YtidoofdofdhjpaaM10
import Derived.Test.YtidoofdofdhjpaaM36
import Derived.Test.YtidoofdofdhjpaaM06
import Derived.Lib.AppendZerosOnto
import Derived.Lib.AppendStr
import Derived.Test.YtidoofdofdhjpaaProg
import Derived.WalkKit
import Derived.Carry
import Derived.Below
namespace Go.Proofs.Ytidoofdofdhjpaa
open Go Go.RowKit
set_option linter.unusedVariables false
set_option linter.unusedSimpArgs false
section
variable {P : Program}
end
end Go.Proofs.Ytidoofdofdhjpaa
namespace Go.Proofs.Ytidoofdofdhjpaa
open Go
set_option linter.unusedVariables false
set_option linter.unusedSimpArgs false
set_option linter.unusedSectionVars false
section
variable {l : List Nd} {i : Nat} {W : Wd} {F : Nat -> Nat} {b : Nat} (hF : Form l) (hi : i < l.length) (hb : b < W.length + 1)
include hF hi hb
end
section
variable {l : List Nd} {i : Nat} {W : Wd} {F : Nat -> Nat} {b : Nat} (hF : Form l) (hi : i < l.length) (hb : b < W.length + 1)
include hF hi hb
end
end Go.Proofs.Ytidoofdofdhjpaa
namespace Go.Proofs.Ytidoofdofdhjpaa
open Go Go.RowKit
set_option linter.unusedVariables false
set_option linter.unusedSimpArgs false
set_option maxRecDepth 100000
end Go.Proofs.Ytidoofdofdhjpaa
namespace Go.Proofs.Ytidoofdofdhjpaa
open Go Go.RowKit
set_option linter.unusedVariables false
set_option linter.unusedSimpArgs false
set_option maxRecDepth 100000
end Go.Proofs.Ytidoofdofdhjpaa
