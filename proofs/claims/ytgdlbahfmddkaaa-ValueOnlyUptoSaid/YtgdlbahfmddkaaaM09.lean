/- The first part of a node, the first one of a node's: walked. -/
import Derived.Test.YtgdlbahfmddkaaaM08
import Derived.Test.YtgdlbahfmddkaaaM03
namespace Go.Proofs.Ytgdlbahfmddkaaa
open Go Go.RowKit
set_option linter.unusedVariables false
set_option linter.unusedSimpArgs false

structure FstS (w0 : World) (A : Option Addr) (l : List Nd) (c : Nat) (w : World) : Prop where
  bel : Below w0.heap.size w0 w
  row : NRow w A l
  box : Blk w w0.heap.size #[.slice A l.length c] 24
theorem FstS.later {w0 w w' : World} {A : Option Addr} {l : List Nd} {c : Nat} (h : FstS w0 A l c w) (hb : Below w.heap.size w w') : FstS w0 A l c w' :=
  ⟨h.bel.trans (hb.mono h.bel.size), h.row.later hb, h.box.later hb⟩
end Go.Proofs.Ytgdlbahfmddkaaa
/- A node's form: walked. -/
namespace Go.Proofs.Ytgdlbahfmddkaaa
open Go Go.RowKit
set_option linter.unusedVariables false
set_option linter.unusedSimpArgs false

theorem zcls : wd 0#256 0 = 0 ∧ wd 0#256 1 = 0 ∧ wd 0#256 2 = 0 ∧ wd 0#256 3 = 0 := by decide
theorem ndC_zero (k a b lo hi : Int) (t : List UInt8) : ndC ⟨k, a, b, lo, hi, 0#256, t⟩ = #[.int .i64 k, .int .i64 a, .int .i64 b, .int .i64 lo, .int .i64 hi, .int .u64 0, .int .u64 0, .int .u64 0, .int .u64 0, .string (bs t)] := by
  obtain ⟨z0, z1, z2, z3⟩ := zcls
  unfold ndC; simp only [z0, z1, z2, z3]; rfl
theorem bs_nil : bs [] = ⟨#[]⟩ := rfl
section
variable {l : List Nd} {i : Nat} {n : Nd} (hn : atN l i = n)
include hn
end
end Go.Proofs.Ytgdlbahfmddkaaa
