/- What a value writes, kind by kind: the plain mathematics. -/
import Derived.Test.YtidoofdofdhjpaaM37
namespace Go.Proofs.Ytidoofdofdhjpaa
open Go
set_option linter.unusedVariables false
set_option linter.unusedSimpArgs false

/-- Is a value of a kind, with a byte, a text, a pick, and so many kids? -/
def plainP (v : Vl) (k : Int) (b : UInt8) (t : List UInt8) (p : Int) (c : Nat) : Prop := v.kind = k ∧ v.byte = b ∧ v.text = t ∧ v.pick = p ∧ v.kids.len = c
instance (v : Vl) (k : Int) (b : UInt8) (t : List UInt8) (p : Int) (c : Nat) : Decidable (plainP v k b t p c) := by unfold plainP; infer_instance
section
variable {l : List Nd} {i : Nat} {v : Vl} {n : Nd} (hn : atN l i = n)
include hn
end
end Go.Proofs.Ytidoofdofdhjpaa
/- What the statements of layer 11 ask of words: plain mathematics. -/
namespace Go.Proofs.Ytidoofdofdhjpaa
open Go
set_option linter.unusedVariables false
set_option linter.unusedSimpArgs false

end Go.Proofs.Ytidoofdofdhjpaa
/- The values that write a word, and in how many ways it is read: plain mathematics. -/
namespace Go.Proofs.Ytidoofdofdhjpaa
open Go
set_option linter.unusedVariables false
set_option linter.unusedSimpArgs false

/-- Rows of values whose words, each of a byte or more, are the word, one behind the other. -/
def runL (g : Wd → List Vl) : Nat → Wd → List (List Vl)
  | 0, u => if u = [] then [[]] else []
  | f + 1, u => if u = [] then [[]] else (List.range u.length).flatMap fun k => (g (u.take (k + 1))).flatMap fun x => (runL g f (u.drop (k + 1))).map (x :: ·)
/-- All values of a node that write a word. -/
def vlsN (l : List Nd) : Nat → Nat → Wd → List Vl
  | 0, _, _ => []
  | f + 1, i, u =>
    if (atN l i).kind = 1 then (if u = [] then [⟨1, 0, [], 0, .nil⟩] else [])
    else if (atN l i).kind = 2 then (if u.length = 1 ∧ (atN l i).cls.getLsbD (u.getD 0 0).toNat = true then [⟨2, u.getD 0 0, [], 0, .nil⟩] else [])
    else if (atN l i).kind = 3 then (if u = (atN l i).text then [⟨3, 0, (atN l i).text, 0, .nil⟩] else [])
    else if (atN l i).kind = 4 then (List.range (u.length + 1)).flatMap fun k => (vlsN l f (atN l i).a.toNat (u.take k)).flatMap fun x => (vlsN l f (atN l i).b.toNat (u.drop k)).map fun y => ⟨4, 0, [], 0, Vs.of [x, y]⟩
    else if (atN l i).kind = 5 then (vlsN l f (atN l i).a.toNat u).map (fun x => ⟨5, 0, [], 0, Vs.of [x]⟩) ++ (vlsN l f (atN l i).b.toNat u).map (fun x => ⟨5, 0, [], 1, Vs.of [x]⟩)
    else if (atN l i).kind = 6 then (runL (vlsN l f (atN l i).a.toNat) u.length u).map fun xs => ⟨6, 0, [], 0, Vs.of xs⟩
    else if (atN l i).kind = 7 then ((runL (vlsN l f (atN l i).a.toNat) u.length u).filter fun xs => decide ((atN l i).lo ≤ (xs.length : Int) ∧ (xs.length : Int) ≤ (atN l i).hi)).map fun xs => ⟨7, 0, [], 0, Vs.of xs⟩
    else if (atN l i).kind = 8 then (if 1 ≤ u.length ∧ u.length - 1 ≤ 255 ∧ u.getD 0 0 = byU (u.length - 1) then (vlsN l f (atN l i).a.toNat (u.drop 1)).map (fun x => ⟨8, 0, [], 0, Vs.of [x]⟩) else [])
    else if (atN l i).kind = 9 then (if 2 ≤ u.length ∧ u.length - 2 ≤ 65535 ∧ u.getD 0 0 = byU ((u.length - 2) / 256) ∧ u.getD 1 0 = byU ((u.length - 2) % 256) then (vlsN l f (atN l i).a.toNat (u.drop 2)).map (fun x => ⟨9, 0, [], 0, Vs.of [x]⟩) else [])
    else []
section
variable {l : List Nd} {i : Nat} {u : Wd} {v : Vl} {A B : Wd → List Vl}
end
end Go.Proofs.Ytidoofdofdhjpaa
/- The values that write a word, none twice: plain mathematics. -/
namespace Go.Proofs.Ytidoofdofdhjpaa
open Go
set_option linter.unusedVariables false
set_option linter.unusedSimpArgs false

end Go.Proofs.Ytidoofdofdhjpaa
