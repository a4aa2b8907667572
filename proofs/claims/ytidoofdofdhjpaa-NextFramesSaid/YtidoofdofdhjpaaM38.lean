/- Where one comes through stars and repeats: plain mathematics. -/
import Derived.Test.YtidoofdofdhjpaaM37
import Derived.Test.YtidoofdofdhjpaaM25
import Derived.Test.YtidoofdofdhjpaaM21
import Derived.Test.YtidoofdofdhjpaaM06
import Derived.Test.YtidoofdofdhjpaaM07
import Derived.Test.YtidoofdofdhjpaaM12
namespace Go.Proofs.Ytidoofdofdhjpaa
open Go
set_option linter.unusedVariables false
set_option linter.unusedSimpArgs false
set_option linter.unusedSectionVars false
section
variable {l : List Nd} {i : Nat} {W : Wd} {F : Nat -> Nat} {a b : Nat} (hF : Form l) (hi : i < l.length) (hb : b < W.length + 1)
include hF hi hb
end
section
variable {l : List Nd} {i : Nat} {W : Wd} {F : Nat -> Nat} {b : Nat} (hF : Form l) (hi : i < l.length)
include hF hi
end
section
variable {l : List Nd} {a : Nat} {W : Wd} {F : Nat -> Nat} {b : Nat} (hF : Form l) (ha : a < l.length) (hb : b < W.length + 1)
include hF ha hb
end
section
variable {l : List Nd} {a : Nat} {W : Wd} {F : Nat -> Nat} (hF : Form l) (ha : a < l.length)
include hF ha
end
section
variable {l : List Nd} {i : Nat} {W : Wd} {F : Nat -> Nat} {b : Nat} (hF : Form l) (hi : i < l.length) (hb : b < W.length + 1)
include hF hi hb
end
end Go.Proofs.Ytidoofdofdhjpaa
namespace Go.Proofs.Ytidoofdofdhjpaa
open Go Go.RowKit
set_option linter.unusedVariables false
set_option linter.unusedSimpArgs false
def Nw (B : Nat) (v : Value) : Prop := ∀ A n c, v = .slice A n c -> n ≠ 0 -> ∀ b o, A = some ⟨b, o, none⟩ -> B <= b
section
variable {m : Nat} {l : List Nd} {V : Wd} {B : Nat} {O : List Nat} {w0 w w' : World}
end
set_option maxRecDepth 100000
theorem IsW.taken {W : Wd} {A : Option Addr} {cap : Nat} {w : World} (h : IsW W (.slice A W.length cap) w) {k : Nat} (hk : k <= W.length) : IsW (W.take k) (.slice A k cap) w := by
 have hl : (W.take k).length = k := by rw [List.length_take]; omega
 rcases h with ⟨h1, h2⟩ | ⟨b, off, cap', h1, h2, h5, h3, h4⟩
 ·have h1' := Value.slice.inj h1
  obtain ⟨rfl, -, rfl⟩ := h1'
  subst h2
  have : k = 0 := by simpa using hk
  subst this
  exact .inl ⟨rfl, rfl⟩
 ·obtain ⟨rfl, -, rfl⟩ := Value.slice.inj h1
  refine .inr ⟨b, off, cap, by rw [hl], by rw [hl]; omega, by rw [hl]; omega, h3, fun i hi => ?_⟩
  rw [hl] at hi
  rw [h4 i (by omega), List.getD_eq_getElem?_getD, List.getD_eq_getElem?_getD, List.getElem?_take_of_lt hi]
theorem IsW.dropped {W : Wd} {b off cap : Nat} {w : World} (h : IsW W (.slice (some ⟨b, off, none⟩) W.length cap) w) {k : Nat} (hk : k <= W.length) : IsW (W.drop k) (.slice (some ⟨b, off + k, none⟩) (W.length - k) (cap - k)) w := by
 have hl : (W.drop k).length = W.length - k := List.length_drop
 rcases h with ⟨h1, h2⟩ | ⟨b', off', cap', h1, h2, h5, h3, h4⟩
 ·cases h1
 ·simp only [Value.slice.injEq, Option.some.injEq, Addr.mk.injEq, and_true, true_and] at h1
  obtain ⟨⟨rfl, rfl⟩, rfl⟩ := h1
  refine .inr ⟨b, off + k, cap - k, by rw [hl], by rw [hl]; omega, by rw [hl]; omega, h3, fun i hi => ?_⟩
  rw [hl] at hi
  have := h4 (k + i) (by omega)
  rw [show off + k + i = off + (k + i) by omega, this, List.getD_eq_getElem?_getD, List.getD_eq_getElem?_getD, List.getElem?_drop]
theorem beqd (a b : List UInt8) : (a == b) = decide (a = b) := by
 by_cases h : a = b
 ·rw [decide_eq_true h, beq_iff_eq]; exact h
 ·rw [decide_eq_false h, beq_eq_false_iff_ne]; exact h
theorem tl_bs (s : List UInt8) : (bs s).toList = s := by simp [bs]
end Go.Proofs.Ytidoofdofdhjpaa
