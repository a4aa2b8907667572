/- How many they are, as sums: plain mathematics. -/
import Derived.Test.YtidoofdofdhjpaaM38
import Derived.Test.YtidoofdofdhjpaaM20
namespace Go.Proofs.Ytidoofdofdhjpaa
open Go
set_option linter.unusedVariables false
set_option linter.unusedSimpArgs false

end Go.Proofs.Ytidoofdofdhjpaa
/- How many values write a word, a node's kind for its kind: plain mathematics. -/
namespace Go.Proofs.Ytidoofdofdhjpaa
open Go
set_option linter.unusedVariables false
set_option linter.unusedSimpArgs false

/-- How many. -/
def cntN (l : List Nd) (i : Nat) (u : Wd) : Nat := (vlsN l (i + 1) i u).length
section
variable {l : List Nd} {i : Nat} {u : Wd} (hF : Form l)
include hF
end
end Go.Proofs.Ytidoofdofdhjpaa
/- Words that states read: the plain mathematics. Sums over where a word is cut. -/
namespace Go.Proofs.Ytidoofdofdhjpaa
open Go
set_option linter.unusedVariables false
set_option linter.unusedSimpArgs false

end Go.Proofs.Ytidoofdofdhjpaa
/- Words that states read: what a state opens to reads the same words, together. -/
namespace Go.Proofs.Ytidoofdofdhjpaa
open Go
set_option linter.unusedVariables false
set_option linter.unusedSimpArgs false

section
variable {l : List Nd} (hF : Form l) {i : Nat} (hi : i < l.length) (h0 : cntN l i [] = 0)
include hF hi h0
end
end Go.Proofs.Ytidoofdofdhjpaa
