/- The document's ways of words: through a row, so many times. Walked. -/
import Derived.Test.YtpbbokdmoaadfaaM35
import Derived.Test.YtpbbokdmoaadfaaM21
import Derived.Test.YtpbbokdmoaadfaaM23
namespace Go.Proofs.Ytpbbokdmoaadfaa
open Go Go.RowKit
set_option linter.unusedVariables false
set_option linter.unusedSimpArgs false
set_option maxRecDepth 100000
def EqV (x : Nat) (v : Value) (w : World) : Prop := v = .int .i64 (x : Int)
theorem EqV.later (x : Nat) : ∀ v w w', EqV x v w → Below w.heap.size w w' → EqV x v w' := fun v w w' h hb => h
end Go.Proofs.Ytpbbokdmoaadfaa
