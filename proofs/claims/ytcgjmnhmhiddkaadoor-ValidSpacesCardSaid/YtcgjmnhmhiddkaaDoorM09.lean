/- A class' text, and that it is read back: plain mathematics. -/
import Derived.Test.YtcgjmnhmhiddkaaDoorM08
namespace Go.Proofs.YtcgjmnhmhiddkaaDoor
open Go
set_option linter.unusedVariables false
set_option linter.unusedSimpArgs false

end Go.Proofs.YtcgjmnhmhiddkaaDoor
/- The pieces of a text are read to tokens: plain mathematics. -/
namespace Go.Proofs.YtcgjmnhmhiddkaaDoor
open Go
set_option linter.unusedVariables false
set_option linter.unusedSimpArgs false

end Go.Proofs.YtcgjmnhmhiddkaaDoor
/- The tokens of a text that is too deep: plain mathematics. -/
namespace Go.Proofs.YtcgjmnhmhiddkaaDoor
open Go
set_option linter.unusedVariables false
set_option linter.unusedSimpArgs false

end Go.Proofs.YtcgjmnhmhiddkaaDoor
/- A description's text is read to its tokens, and these are parsed to it: plain mathematics. -/
namespace Go.Proofs.YtcgjmnhmhiddkaaDoor
open Go
set_option linter.unusedVariables false
set_option linter.unusedSimpArgs false

def tkOfT (t : Tok) : Tk := { kind := (t.kind : Int), at_ := (t.at_ : Int), lo := (t.lo : Int), hi := (t.hi : Int), cls := t.cls, text := t.text }
end Go.Proofs.YtcgjmnhmhiddkaaDoor
