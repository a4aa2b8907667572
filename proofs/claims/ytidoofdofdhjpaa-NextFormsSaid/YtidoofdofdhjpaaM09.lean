/- Nodes laid behind others: walked. -/
import Derived.Test.YtidoofdofdhjpaaM06
import Derived.Test.YtidoofdofdhjpaaM08
import Derived.Test.YtidoofdofdhjpaaM03
namespace Go.Proofs.Ytidoofdofdhjpaa
open Go Go.RowKit
set_option linter.unusedVariables false
set_option linter.unusedSimpArgs false

/-- A node that may be moved so far. -/
structure MvOk (d : Int) (n : Nd) : Prop where
  txt : n.text.length ≤ 281474976710656
  fa : partK n.kind → IntKind.i64.wrap (n.a + d) = n.a + d
  fb : n.kind = 4 ∨ n.kind = 5 → IntKind.i64.wrap (n.b + d) = n.b + d
structure LaidS (w0 : World) (base : Nat) (A : Option Addr) (m : List Nd) (lst : Value) (L : List Nd) (w : World) : Prop where
  bel : Below base w0 w
  own : OwnN w base lst L
  row : NRow w A m
  low : base ≤ w.heap.size
theorem LaidS.later {w0 w w' : World} {base : Nat} {A : Option Addr} {m L : List Nd} {lst : Value} (h : LaidS w0 base A m lst L w) (hb : Below w.heap.size w w') : LaidS w0 base A m lst L w' :=
  ⟨h.bel.trans (hb.mono h.low), h.own.later hb, h.row.later hb, Nat.le_trans h.low hb.size⟩
theorem NRow.below {w w' : World} {a : Option Addr} {l : List Nd} {B : Nat} (h : NRow w a l) (ha : ∀ b o, a = some ⟨b, o, none⟩ → b < B) (hb : Below B w w') (hs : w.heap.size ≤ w'.heap.size) : NRow w' a l := fun i hi => by
  obtain ⟨b, off, h1, hlt, hc⟩ := h i hi
  exact ⟨b, off, h1, Nat.lt_of_lt_of_le hlt hs, fun j hj => (hb.cell (p := ⟨b, off + i * 10 + j, none⟩) (ha b off h1)).trans (hc j hj)⟩
def LaidL (w0 : World) (base : Nat) (A : Option Addr) (l0 m : List Nd) (d : Int) (lst i : Value) (w : World) : Prop :=
  ∃ k : Nat, k ≤ m.length ∧ i = .int .i64 (k : Int) ∧ LaidS w0 base A m lst (l0 ++ (m.take k).map (mvN d)) w
def LaidPost (w0 : World) (base : Nat) (L : List Nd) (e : Ending) (w' : World) : Prop := ∃ v, e = .returned v ∧ OwnN w' base v L ∧ Below base w0 w'
end Go.Proofs.Ytidoofdofdhjpaa
/- The first part of a node, the first one of a node's: walked. -/
namespace Go.Proofs.Ytidoofdofdhjpaa
open Go Go.RowKit
set_option linter.unusedVariables false
set_option linter.unusedSimpArgs false

structure FstS (w0 : World) (A : Option Addr) (l : List Nd) (c : Nat) (w : World) : Prop where
  bel : Below w0.heap.size w0 w
  row : NRow w A l
  box : Blk w w0.heap.size #[.slice A l.length c] 24
theorem FstS.later {w0 w w' : World} {A : Option Addr} {l : List Nd} {c : Nat} (h : FstS w0 A l c w) (hb : Below w.heap.size w w') : FstS w0 A l c w' :=
  ⟨h.bel.trans (hb.mono h.bel.size), h.row.later hb, h.box.later hb⟩
end Go.Proofs.Ytidoofdofdhjpaa
/- A node's form: walked. -/
namespace Go.Proofs.Ytidoofdofdhjpaa
open Go Go.RowKit
set_option linter.unusedVariables false
set_option linter.unusedSimpArgs false

theorem zcls : wd 0#256 0 = 0 ∧ wd 0#256 1 = 0 ∧ wd 0#256 2 = 0 ∧ wd 0#256 3 = 0 := by decide
theorem ndC_zero (k a b lo hi : Int) (t : List UInt8) : ndC ⟨k, a, b, lo, hi, 0#256, t⟩ = #[.int .i64 k, .int .i64 a, .int .i64 b, .int .i64 lo, .int .i64 hi, .int .u64 0, .int .u64 0, .int .u64 0, .int .u64 0, .string (bs t)] := by
  obtain ⟨z0, z1, z2, z3⟩ := zcls
  unfold ndC; simp only [z0, z1, z2, z3]; rfl
theorem bs_nil : bs [] = ⟨#[]⟩ := rfl
section
variable {l : List Nd} {i : Nat} {n : Nd} (hn : atN l i = n)
include hn
end
end Go.Proofs.Ytidoofdofdhjpaa
