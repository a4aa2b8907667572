/- The words of a class, out of its cells. -/
import Derived.Test.YtgehepiphdphjaaDoorFrame
import Derived.Deep.Slices
namespace Go.Proofs.YtgehepiphdphjaaDoor
open Go Go.RowKit Go.ChangeShapes Go.WideShapes Go.ChangeAt Go.Joins
set_option maxRecDepth 100000
set_option linter.unusedVariables false

section
variable {H : Type} {enc : TypeId × Value → H} {W : World} {base : Nat} {v : Value} {d : DataW H} {p : List MemPlace}
theorem cls_words {n : Nat} {cs : List Value} {x : DataW H × List MemPlace} (hlen : cs.length = 4) (h : DataW.trod enc Tryd.prog W 0 (fun _ => true) true n 29 cs = some x) : ∃ s : BitVec 256, ∀ j, j < 4 → cs[j]? = some (.int .u64 (wd s j)) := by
  obtain ⟨xs, m, _, _, _, hn, hel⟩ := DataW.trod_array Tryd.underlying29 h
  match cs, hlen with
  | [c0, c1, c2, c3], _ =>
    have get : ∀ (i : Nat) (c : Value), i < 4 → (([c0, c1, c2, c3] : List Value).drop (i * 1)).take 1 = [c] → ∃ n : Nat, c = .int .u64 n ∧ n < 18446744073709551616 := by
      intro i c hi hc
      have := hel i hi
      rw [cellsU64, hc] at this
      have hx : xs[i]? = some (xs[i]'(by omega)) := by simp
      rw [hx] at this
      obtain ⟨a, e, _, wf⟩ := DataW.trod_int Tryd.underlying27 this
      obtain ⟨n, rfl, hlt⟩ := u64_nat wf
      exact ⟨n, by simpa using e, hlt⟩
    obtain ⟨n0, rfl, l0⟩ := get 0 c0 (by omega) rfl
    obtain ⟨n1, rfl, l1⟩ := get 1 c1 (by omega) rfl
    obtain ⟨n2, rfl, l2⟩ := get 2 c2 (by omega) rfl
    obtain ⟨n3, rfl, l3⟩ := get 3 c3 (by omega) rfl
    obtain ⟨s, e0, e1, e2, e3⟩ := of_words n0 n1 n2 n3 l0 l1 l2 l3
    refine ⟨s, fun j hj => ?_⟩
    rcases (by omega : j = 0 ∨ j = 1 ∨ j = 2 ∨ j = 3) with rfl | rfl | rfl | rfl
    · rw [e0]; rfl
    · rw [e1]; rfl
    · rw [e2]; rfl
    · rw [e3]; rfl
end
end Go.Proofs.YtgehepiphdphjaaDoor
