/- How long words are, by node: the plain mathematics. -/
import Derived.Test.YtidoofdofdhjpaaM19
namespace Go.Proofs.Ytidoofdofdhjpaa
open Go
set_option linter.unusedVariables false
set_option linter.unusedSimpArgs false

end Go.Proofs.Ytidoofdofdhjpaa
/- What the statements ask of spans: plain mathematics. -/
namespace Go.Proofs.Ytidoofdofdhjpaa
open Go
set_option linter.unusedVariables false
set_option linter.unusedSimpArgs false

end Go.Proofs.Ytidoofdofdhjpaa
/- Values of descriptions, and the words they write: the plain mathematics. -/
namespace Go.Proofs.Ytidoofdofdhjpaa
open Go
set_option linter.unusedVariables false
set_option linter.unusedSimpArgs false

/-- Values in a row, each with its kids' row. -/
inductive Vs where
  | nil
  | cons (kind : Int) (byte : UInt8) (text : List UInt8) (pick : Int) (kids : Vs) (rest : Vs)
/-- A value. -/
structure Vl where
  kind : Int
  byte : UInt8
  text : List UInt8
  pick : Int
  kids : Vs
def vl0 : Vl := ⟨0, 0, [], 0, .nil⟩
def Vs.list : Vs → List Vl
  | .nil => []
  | .cons k b t p ks r => ⟨k, b, t, p, ks⟩ :: r.list
def Vs.of : List Vl → Vs
  | [] => .nil
  | v :: vs => .cons v.kind v.byte v.text v.pick v.kids (Vs.of vs)
def Vs.len (s : Vs) : Nat := s.list.length
def Vs.at (s : Vs) (j : Nat) : Vl := s.list.getD j vl0
/-- What of a value must be, but for its kids. -/
def headV (n : Nd) (k : Int) (b : UInt8) (t : List UInt8) (p : Int) (c : Nat) : Prop :=
  k = n.kind ∧ (n.kind ≠ 2 → b = 0) ∧ (n.kind = 2 → n.cls.getLsbD b.toNat = true) ∧ t = (if n.kind = 3 then n.text else []) ∧ (p = 0 ∨ (n.kind = 5 ∧ p = 1)) ∧
    (n.kind = 1 ∨ n.kind = 2 ∨ n.kind = 3 → c = 0) ∧ (n.kind = 4 → c = 2) ∧ (n.kind = 5 ∨ n.kind = 8 ∨ n.kind = 9 → c = 1) ∧ (n.kind = 7 → n.lo ≤ (c : Int) ∧ (c : Int) ≤ n.hi)
instance (n : Nd) (k : Int) (b : UInt8) (t : List UInt8) (p : Int) (c : Nat) : Decidable (headV n k b t p c) := by unfold headV; infer_instance
abbrev Wd := List UInt8
/-- Has each kid a word, of a byte or more, where it must be? -/
def fullW (n : Nd) (rs : List (Option Wd)) : Prop := n.kind = 6 ∨ n.kind = 7 → some [] ∉ rs
instance (n : Nd) (rs : List (Option Wd)) : Decidable (fullW n rs) := by unfold fullW; infer_instance
def byU (n : Nat) : UInt8 := UInt8.ofNat n
end Go.Proofs.Ytidoofdofdhjpaa
/- Values: how long words are; nodes laid elsewhere: the plain mathematics. -/
namespace Go.Proofs.Ytidoofdofdhjpaa
open Go
set_option linter.unusedVariables false
set_option linter.unusedSimpArgs false

end Go.Proofs.Ytidoofdofdhjpaa
