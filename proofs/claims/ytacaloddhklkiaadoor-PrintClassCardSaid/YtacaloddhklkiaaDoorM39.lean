/- The document's one token: walked. -/
import Derived.Test.YtacaloddhklkiaaDoorM37
import Derived.Test.YtacaloddhklkiaaDoorM38
namespace Go.Proofs.YtacaloddhklkiaaDoor
open Go Go.RowKit

theorem rone_any (l : List UInt8) (i : Nat) (hl : l.length ≤ 1073741800) (hi : i < l.length) (w : World) : Calls Tryd.prog 32 #[.string (bs l), .int .i64 (i : Int)] w (Ans w (roneV l i)) := by
  by_cases h : l[i]'hi = 123
  · exact rone_rep l i hl hi h w
  · exact rone_most l i hl hi h w
end Go.Proofs.YtacaloddhklkiaaDoor
