/- Words made strings. -/
import Derived.Test.YtgdlbahfmddkaaaM24
import Derived.Laws.BytesArg
import Derived.Lib.BufferRead
import Derived.Lib.SlBytesRow
namespace Go.Proofs.Ytgdlbahfmddkaaa
open Go Go.RowKit
set_option linter.unusedVariables false
set_option linter.unusedSimpArgs false

theorem conv_word {W : List UInt8} {v : Value} {w : World} (h : IsW W v w) : (convert 31 9 v).run Try.prog w = .ok (.string (bs W)) w := by
  rcases h with ⟨rfl, rfl⟩ | ⟨b, off, cap, rfl, h2, h5, h3, h4⟩
  · exact Lib.run_convert_nil_bytes w 31 9 5 0 Try.underlying31 Try.underlying5 Try.underlying9
  · refine Lib.run_convert_whole w 31 5 9 Try.underlying31 Try.underlying5 Try.underlying9 b off (bs W) (fun i hi => ?_) cap
    rw [bs_size] at hi
    rw [h4 i hi, bs_get]
    congr 3
    rw [List.getD_eq_getElem?_getD, List.getElem?_eq_getElem hi]; rfl
/-- Without its first byte. -/
theorem IsW.tail {c : UInt8} {W : List UInt8} {b off cap : Nat} {w : World} (h : IsW (c :: W) (.slice (some ⟨b, off, none⟩) (W.length + 1) cap) w) : IsW W (.slice (some ⟨b, off + 1, none⟩) W.length (cap - 1)) w ∧ W.length + 1 ≤ cap ∧ w.cell? ⟨b, off, none⟩ = some (.int .u8 ((c.toNat : Nat) : Int)) := by
  rcases h with ⟨h, -⟩ | ⟨b', off', cap', hv, h2, h5, h3, h4⟩
  · cases h
  · simp only [Value.slice.injEq, Option.some.injEq, Addr.mk.injEq, and_true, List.length_cons, true_and] at hv
    obtain ⟨⟨rfl, rfl⟩, rfl⟩ := hv
    simp only [List.length_cons] at h2 h5 h4
    refine ⟨.inr ⟨b, off + 1, cap - 1, rfl, by omega, by omega, h3, fun i hi => ?_⟩, h2, ?_⟩
    · have := h4 (i + 1) (by omega)
      rw [show off + 1 + i = off + (i + 1) by omega, this]; rfl
    · have := h4 0 (by omega)
      exact this
end Go.Proofs.Ytgdlbahfmddkaaa
