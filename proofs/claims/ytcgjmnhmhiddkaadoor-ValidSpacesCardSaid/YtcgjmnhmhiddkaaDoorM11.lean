/- Spaces put in, and texts put together: the plain mathematics of LexSpaces and LexOn. -/
import Derived.Test.YtcgjmnhmhiddkaaDoorM08
import Derived.Test.YtcgjmnhmhiddkaaDoorM09
import Derived.Test.YtcgjmnhmhiddkaaDoorM05
namespace Go.Proofs.YtcgjmnhmhiddkaaDoor
open Go
set_option linter.unusedVariables false

/-- Spaces ahead of a text. -/
theorem readL_gap (m : Nat) (x : List UInt8) (p : Nat) : readL (List.replicate m 32 ++ x) p 0 = shiftR (p + m) (readL x 0 0) := by
  rw [readL_spaces, ← readL_shift (p + m) x 0 0, Nat.zero_add]
end Go.Proofs.YtcgjmnhmhiddkaaDoor
/- How deep a description's text is, counted in it: plain mathematics. -/
namespace Go.Proofs.YtcgjmnhmhiddkaaDoor
open Go
set_option linter.unusedVariables false
set_option linter.unusedSimpArgs false

end Go.Proofs.YtcgjmnhmhiddkaaDoor
/- A class' text: read as one token, and how long it is: plain mathematics. -/
namespace Go.Proofs.YtcgjmnhmhiddkaaDoor
open Go
set_option linter.unusedVariables false
set_option linter.unusedSimpArgs false

end Go.Proofs.YtcgjmnhmhiddkaaDoor
/- How long a description's text may be: plain mathematics. -/
namespace Go.Proofs.YtcgjmnhmhiddkaaDoor
open Go
set_option linter.unusedVariables false
set_option linter.unusedSimpArgs false

end Go.Proofs.YtcgjmnhmhiddkaaDoor
