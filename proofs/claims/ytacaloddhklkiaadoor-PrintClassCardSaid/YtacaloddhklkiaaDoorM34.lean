/- The document's classes of a text: walked. -/
import Derived.Test.YtacaloddhklkiaaDoorM32
import Derived.Test.YtacaloddhklkiaaDoorM33
namespace Go.Proofs.YtacaloddhklkiaaDoor
open Go Go.RowKit

theorem rbytes_any (l : List UInt8) (hl : l.length ≤ 1073741800) (w : World) : Calls Tryd.prog 48 #[.string (bs l)] w (BtP w (classV l)) := by
  by_cases h : l.head? = some 94
  · exact rbytes_not l hl h w
  · exact rbytes_plain l hl h w
end Go.Proofs.YtacaloddhklkiaaDoor
