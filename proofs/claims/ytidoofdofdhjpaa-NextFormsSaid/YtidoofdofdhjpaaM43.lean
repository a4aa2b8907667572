/- What may be left of a node when so many bytes were read: all states that are reached are among these. -/
import Derived.Test.YtidoofdofdhjpaaM41
import Derived.Test.YtidoofdofdhjpaaM21
namespace Go.Proofs.Ytidoofdofdhjpaa
open Go
set_option linter.unusedVariables false
set_option linter.unusedSimpArgs false

end Go.Proofs.Ytidoofdofdhjpaa
/- What may be left of a node: a byte more. -/
namespace Go.Proofs.Ytidoofdofdhjpaa
open Go
set_option linter.unusedVariables false
set_option linter.unusedSimpArgs false
set_option maxHeartbeats 1000000

section
variable {l : List Nd} {f i : Nat} {u : Wd} (hu : ¬ u = [])
include hu
end
end Go.Proofs.Ytidoofdofdhjpaa
/- How many states there are behind so many bytes. -/
namespace Go.Proofs.Ytidoofdofdhjpaa
open Go
set_option linter.unusedVariables false
set_option linter.unusedSimpArgs false

end Go.Proofs.Ytidoofdofdhjpaa
/- How many branches there are, and how long their states are. -/
namespace Go.Proofs.Ytidoofdofdhjpaa
open Go
set_option linter.unusedVariables false
set_option linter.unusedSimpArgs false

end Go.Proofs.Ytidoofdofdhjpaa
