/- symMergeCmpFunc over a row of classes: two sorted halves become one, at whatever lengths. -/
import Derived.Test.YtpbbokdmoaadfaaM16
import Derived.Test.YtpbbokdmoaadfaaM05
namespace Go.Proofs.Ytpbbokdmoaadfaa
set_option linter.all false
open Go Go.RowKit
section
variable {base g : Nat} {l cur : List (BitVec 256)} {a : BitVec 256} {w0 : World} {k : Nat} {v : Value} {w w' : World}
end
end Go.Proofs.Ytpbbokdmoaadfaa
