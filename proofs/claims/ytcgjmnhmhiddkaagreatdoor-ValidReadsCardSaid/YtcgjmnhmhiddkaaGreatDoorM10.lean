/- The document's First, and Form: walked. -/
import Derived.Test.YtcgjmnhmhiddkaaGreatDoorM09
namespace Go.Proofs.YtcgjmnhmhiddkaaGreatDoor
open Go Go.RowKit
set_option linter.unusedVariables false
set_option linter.unusedSimpArgs false
section
variable {l : List Nd} {i : Nat} {n : Nd} (hn : atN l i = n)
include hn
end
end Go.Proofs.YtcgjmnhmhiddkaaGreatDoor
