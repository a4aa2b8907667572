/- The tokens of a description's text are parsed to it: plain mathematics. -/
import Derived.Test.YtcgjmnhmhiddkaaGreatDoorM16
namespace Go.Proofs.YtcgjmnhmhiddkaaGreatDoor
open Go
set_option linter.unusedVariables false
set_option linter.unusedSimpArgs false
section
variable {cT : BitVec 256 → List UInt8} {bT : Int → Int → List UInt8}
end
def tkOfT (t : Tok) : Tk := { kind := (t.kind : Int), at_ := (t.at_ : Int), lo := (t.lo : Int), hi := (t.hi : Int), cls := t.cls, text := t.text }
end Go.Proofs.YtcgjmnhmhiddkaaGreatDoor
