/- Words that states read: an item that isn't ready, opened. -/
import Derived.Test.YtidoofdofdhjpaaM39
import Derived.Test.YtidoofdofdhjpaaM21
namespace Go.Proofs.Ytidoofdofdhjpaa
open Go
set_option linter.unusedVariables false
set_option linter.unusedSimpArgs false

end Go.Proofs.Ytidoofdofdhjpaa
/- Words that states read: all ready states that are reached, together; a byte read. -/
namespace Go.Proofs.Ytidoofdofdhjpaa
open Go
set_option linter.unusedVariables false
set_option linter.unusedSimpArgs false

end Go.Proofs.Ytidoofdofdhjpaa
/- Words that states read: one byte. -/
namespace Go.Proofs.Ytidoofdofdhjpaa
open Go
set_option linter.unusedVariables false
set_option linter.unusedSimpArgs false

/-- What is ahead of the rest, when a byte was read. -/
def frS (l : List Nd) (x : Itm) (c : UInt8) : Option (List Itm) :=
  let n := atN l x.node.toNat
  if x.kind = 3 then (if n.text.getD x.lo.toNat 0 = c then some (if x.lo + 1 < (n.text.length : Int) then [⟨3, x.node, x.lo + 1, 0⟩] else []) else none)
  else if x.kind = 4 then some [⟨1, n.a, 0, 0⟩, ⟨5, 0, 256 * x.lo + (c.toNat : Int), 0⟩]
  else if n.kind = 8 then some [⟨1, n.a, 0, 0⟩, ⟨5, 0, (c.toNat : Int), 0⟩]
  else if n.kind = 9 then some [⟨4, x.node, (c.toNat : Int), 0⟩]
  else if n.cls.getLsbD c.toNat = true then some [] else none
def rdS (l : List Nd) (s : List Itm) (c : UInt8) : Option (List Itm) :=
  match s with
  | [] => none
  | x :: r => (lowS r).bind fun q => (frS l x c).map fun f => f ++ q
end Go.Proofs.Ytidoofdofdhjpaa
/- Words that states read: a byte more, an end; branches. -/
namespace Go.Proofs.Ytidoofdofdhjpaa
open Go
set_option linter.unusedVariables false
set_option linter.unusedSimpArgs false

theorem rdy_five {l : List Nd} {x : Itm} {r : List Itm} (h : rdyS l (x :: r) = true) : x.kind ≠ 5 := fun e => by
  unfold rdyS at h; simp [e] at h
/-- What is reached by one byte, one behind the other. -/
def onL (l : List Nd) (s : List Itm) (c : UInt8) : List (List Itm) := (rchS l s).filterMap fun t => rdS l t c
theorem min_mulB (a b : Nat) : min 2 (min 2 a * b) = min 2 (a * b) := by
  by_cases h : a ≤ 2
  · rw [show min 2 a = a by omega]
  · rw [show min 2 a = 2 by omega]
    cases b with
    | zero => simp
    | succ b =>
      have h1 : 2 * (b + 1) ≤ a * (b + 1) := Nat.mul_le_mul_right _ (by omega)
      omega
end Go.Proofs.Ytidoofdofdhjpaa
