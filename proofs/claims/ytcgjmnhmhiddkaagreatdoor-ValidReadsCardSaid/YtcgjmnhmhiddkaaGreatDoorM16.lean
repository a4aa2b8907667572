/- Descriptions out of tokens: what the parser answers hangs on what it has read. -/
import Derived.Test.YtcgjmnhmhiddkaaGreatDoorM15
import Derived.Test.YtcgjmnhmhiddkaaGreatDoorM04
namespace Go.Proofs.YtcgjmnhmhiddkaaGreatDoor
open Go
set_option linter.unusedVariables false
set_option linter.unusedSimpArgs false
def stepO (k : Int) (n : Nat) : Nat := if k = 3 then n + 1 else if k = 4 then n - 1 else n
def cntO (l : List Tk) (e : Nat) : Nat → Nat
  | 0 => e
  | i + 1 => stepO (tkAt l i).kind (cntO l e i)
inductive Pc where
  | sg (s : List UInt8)
  | nd (i : Int) (lev : Int)
def brk (l : List Pc) : List Pc := .sg [40] :: (l ++ [.sg [41]])
section
variable (cT : BitVec 256 → List UInt8) (bT : Int → Int → List UInt8)
variable {cT bT}
end
end Go.Proofs.YtcgjmnhmhiddkaaGreatDoor
