/- Texts and numbers of two bytes, opened as arguments: for seats of plain rows. -/
import Derived.Test.YtgabifebcfgngaaM10
import Derived.Test.YtgabifebcfgngaaM02
import Derived.Test.YtgabifebcfgngaaM03
import Derived.Test.YtgabifebcfgngaaM01
import Derived.ChangeMaps5
import Derived.Test.YtgabifebcfgngaaRows
import Derived.Deep.Cut
namespace Go.Proofs.Ytgabifebcfgngaa
open Go Go.RowKit Go.ChangeShapes Go.WideShapes Go.ChangeAt Go.Joins
set_option maxRecDepth 100000

section
variable {H : Type} {enc : TypeId × Value → H} {W : World} {base : Nat} {v : Value} {d : DataW H} {p : List MemPlace}
end
end Go.Proofs.Ytgabifebcfgngaa
/- A stable sort by keys, as positions: what is swapped, rotated and merged, and that the outcome is sorted by key, those of one key as they came. -/
namespace Go.Proofs.Ytgabifebcfgngaa
set_option linter.unusedVariables false

/-! A row is told by its ghost 'd': position i holds what stood at position 'd i' when the sort began. -/
section
variable (key : Nat → Nat)
end

def swap (d : Nat → Nat) (i j : Nat) : Nat → Nat := fun x => if x = i then d j else if x = j then d i else d x
/-! ### merging -/
section
variable {key : Nat → Nat}
/-- The place at which the left half is cut: s of the left one's are ahead of all of the right one's from e on, and the others behind all of the right one's below e. -/
structure Cut (key : Nat → Nat) (a s m e b : Nat) (d : Nat → Nat) : Prop where
  s1 : a ≤ s
  s2 : s ≤ m
  e1 : m ≤ e
  e2 : e ≤ b
  lo : s = a ∨ e = b ∨ key (d (s - 1)) ≤ key (d e)
  hi : s = m ∨ e = m ∨ key (d (e - 1)) < key (d s)

/-! ### inserting -/
/-! ### blocks -/
end

/-! ### what comes out -/
end Go.Proofs.Ytgabifebcfgngaa
/- The least byte of a class as package split asks for it, and the order of two classes by it. -/
namespace Go.Proofs.Ytgabifebcfgngaa
open Go Go.RowKit
set_option linter.unusedVariables false

end Go.Proofs.Ytgabifebcfgngaa
/- Classes, split into parts: the parts of a list, by which bytes the classes tell apart. -/
namespace Go.Proofs.Ytgabifebcfgngaa
set_option linter.unusedVariables false

/-! ### a class more -/
end Go.Proofs.Ytgabifebcfgngaa
