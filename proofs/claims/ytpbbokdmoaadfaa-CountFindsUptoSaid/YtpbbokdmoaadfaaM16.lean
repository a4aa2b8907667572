/- The least byte of a class as package split asks for it, and the order of two classes by it. -/
import Derived.Test.YtpbbokdmoaadfaaM02
import Derived.Test.YtpbbokdmoaadfaaM03
import Derived.Test.YtpbbokdmoaadfaaM15
import Derived.Test.YtpbbokdmoaadfaaM01
import Derived.Deep.Cut
namespace Go.Proofs.Ytpbbokdmoaadfaa
set_option linter.all false
open Go Go.RowKit
end Go.Proofs.Ytpbbokdmoaadfaa
namespace Go.Proofs.Ytpbbokdmoaadfaa
set_option linter.all false
end Go.Proofs.Ytpbbokdmoaadfaa
namespace Go.Proofs.Ytpbbokdmoaadfaa
set_option linter.all false
open Go Go.RowKit
section
variable {w w' : World} {b n : Nat} {f : Nat -> BitVec 256}
end
end Go.Proofs.Ytpbbokdmoaadfaa
