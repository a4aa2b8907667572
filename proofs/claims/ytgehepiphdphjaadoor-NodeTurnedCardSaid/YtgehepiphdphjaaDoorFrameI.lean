/- A signed byte, opened as an argument. -/
import Derived.Test.YtgehepiphdphjaaDoorFrameN
namespace Go.Proofs.YtgehepiphdphjaaDoor
open Go Go.RowKit Go.ChangeShapes Go.WideShapes Go.ChangeAt Go.Joins
set_option maxRecDepth 100000
set_option linter.unusedVariables false

theorem i8_int {a : Int} (h : (Lit.int .i8 a).wf = true) : -128 ≤ a ∧ a ≤ 127 := by
  simpa [Lit.wf, IntKind.min, IntKind.max, IntKind.signed, IntKind.bits] using h
section
variable {H : Type} {enc : TypeId × Value → H} {W : World} {base : Nat} {v : Value} {d : DataW H} {p : List MemPlace}
theorem open_i8 (hv : Value.okWide Tryd.prog W .any base 61 v) (h : DataW.Trod enc Tryd.prog W 0 (fun _ => true) true 61 v d p) : ∃ n : Int, (-128 ≤ n ∧ n ≤ 127) ∧ v = .int .i8 n := by
  obtain ⟨a, rfl, _, _, wf⟩ := open_int Tryd.underlying61 hv h
  exact ⟨a, i8_int wf, rfl⟩
end
end Go.Proofs.YtgehepiphdphjaaDoor
