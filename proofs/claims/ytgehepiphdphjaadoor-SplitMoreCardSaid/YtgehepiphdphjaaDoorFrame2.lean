/- A row of classes, opened as an argument. -/
import Derived.Test.YtgehepiphdphjaaDoorFrameC
import Derived.Test.YtgehepiphdphjaaDoorSplitRows
import Derived.Deep.Slices
namespace Go.Proofs.YtgehepiphdphjaaDoor
open Go Go.RowKit Go.ChangeShapes Go.WideShapes Go.ChangeAt Go.Joins
set_option maxRecDepth 100000
set_option linter.unusedVariables false

section
variable {H : Type} {enc : TypeId × Value → H} {W : World} {base : Nat} {v : Value} {d : DataW H} {p : List MemPlace}
theorem open_clss (hv : Value.okWide Tryd.prog W .any base 22 v) (h : DataW.Trod enc Tryd.prog W 0 (fun _ => true) true 22 v d p) :
    ∃ (l : List (BitVec 256)) (A : Option Addr) (C : Nat), v = .slice A l.length C ∧ LRow W A l ∧ l.length ≤ 9223372036854775807 := by
  obtain ⟨a0, len, cap, rfl⟩ := okWide_slice Tryd.underlying22 hv
  obtain ⟨fuel, hf⟩ := h
  rcases Go.Deep.open_slice Tryd.underlying22 hf with ⟨hcs, _⟩ | ⟨x, ln, c, m, n, D, Pl, hcs, hb, hl, hm, hmm, hx, hi⟩
  · simp [Value.cells] at hcs
    obtain ⟨rfl, rfl, rfl⟩ := hcs
    exact ⟨[], none, 0, rfl, LRow.nil _ _, by simp⟩
  · simp [Value.cells] at hcs
    obtain ⟨rfl, rfl, rfl⟩ := hcs
    simp only [if_true] at hmm
    subst hmm
    unfold maxLen at hm
    have key : ∀ i, i < len → ∃ s : BitVec 256, ∀ j, j < 4 → W.cell? (x.add (i * 4 + j)) = some (.int .u64 (wd s j)) := by
      intro i hil
      obtain ⟨cs', hc, ht⟩ := hi i (by omega)
      rw [cellsCls] at hc
      obtain ⟨_, hcl, hat⟩ := World.cells?_some hc
      obtain ⟨s, hs⟩ := cls_words hcl ht
      exact ⟨s, fun j hj => by rw [← Go.Deep.add_add, hat j hj, hs j hj]⟩
    let f : Nat → BitVec 256 := fun i => if h : i < len then Classical.choose (key i h) else 0
    have hfl : ((List.range len).map f).length = len := by simp
    refine ⟨(List.range len).map f, some x, m, by rw [hfl], fun i hil => ?_, by rw [hfl]; omega⟩
    rw [hfl] at hil
    have hgd : ((List.range len).map f).getD i 0 = f i := by simp [hil]
    have hfi : f i = Classical.choose (key i hil) := by simp [f, hil]
    have hs := Classical.choose_spec (key i hil)
    rw [← hfi] at hs
    obtain ⟨b, off, spot⟩ := x
    have hc0 := hs 0 (by omega)
    obtain ⟨s0, hs0⟩ := key 0 (by omega)
    have hc00 := hs0 0 (by omega)
    have hspot : spot = none := by simpa [Addr.add] using World.cell?_spot hc00
    subst hspot
    have hadd : ∀ k, (⟨b, off, none⟩ : Addr).add k = ⟨b, off + k, none⟩ := fun k => by cases k <;> simp [Addr.add]
    refine ⟨b, off, rfl, ?_, fun j hj => ?_⟩
    · have := World.block_lt_of_cell? W _ hc0
      rw [hadd] at this; exact this
    · have := hs j hj
      rw [hadd] at this
      rw [hgd, Nat.add_assoc]; exact this
end
end Go.Proofs.YtgehepiphdphjaaDoor
