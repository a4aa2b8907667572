/- The call 'awake' of the statements of layer 1 answers true. -/
import Derived.Test.YtgehepiphdphjaaDoorClassWalks
import Derived.Test.YtgehepiphdphjaaDoorStable
import Derived.Deep.Cut
namespace Go.Proofs.YtgehepiphdphjaaDoor
open Go Go.RowKit
set_option linter.unusedVariables false

structure AwakeS (w0 : World) (b : Nat) (w : World) : Prop where
  below : Below w0.heap.size w0 w
  deb : Deb w
  blk : Blk w b (cells4 (rowB 97 99)) 29
theorem AwakeS.later {w0 w w' : World} {b : Nat} (h : AwakeS w0 b w) (hb : Below w.heap.size w w') : AwakeS w0 b w' :=
  ⟨h.below.trans (hb.mono h.below.size), h.deb.below hb, h.blk.later hb⟩

theorem least97 : IsLeast (rowB 97 99) 97 := ⟨by decide, by rw [rowB_bit _ _ _ (by decide)]; decide, fun j hj => by rw [rowB_bit _ _ _ (by omega)]; simp; omega⟩

theorem lit0 : Value.agg #[.int .u64 0, .int .u64 0, .int .u64 0, .int .u64 0] = cls 0#256 := by
  unfold cls
  rw [show wd 0#256 0 = 0 by decide, show wd 0#256 1 = 0 by decide, show wd 0#256 2 = 0 by decide, show wd 0#256 3 = 0 by decide]; rfl
theorem lit1 : Value.agg #[.int .u64 1, .int .u64 0, .int .u64 0, .int .u64 9223372036854775808] = cls (addL 0#256 [0, 255]) := by
  unfold cls
  rw [show wd (addL 0#256 [0, 255]) 0 = 1 by decide +kernel, show wd (addL 0#256 [0, 255]) 1 = 0 by decide +kernel, show wd (addL 0#256 [0, 255]) 2 = 0 by decide +kernel, show wd (addL 0#256 [0, 255]) 3 = 9223372036854775808 by decide +kernel]; rfl
theorem lit22 : Value.agg #[.int .u64 22, .int .u64 0, .int .u64 0, .int .u64 0] = cls (rowB 1 2 ||| rowB 4 4) := by
  unfold cls
  rw [show wd (rowB 1 2 ||| rowB 4 4) 0 = 22 by decide +kernel, show wd (rowB 1 2 ||| rowB 4 4) 1 = 0 by decide +kernel, show wd (rowB 1 2 ||| rowB 4 4) 2 = 0 by decide +kernel, show wd (rowB 1 2 ||| rowB 4 4) 3 = 0 by decide +kernel]; rfl
theorem lit24 : Value.agg #[.int .u64 24, .int .u64 0, .int .u64 0, .int .u64 0] = cls (rowB 1 4 &&& rowB 3 9) := by
  unfold cls
  rw [show wd (rowB 1 4 &&& rowB 3 9) 0 = 24 by decide +kernel, show wd (rowB 1 4 &&& rowB 3 9) 1 = 0 by decide +kernel, show wd (rowB 1 4 &&& rowB 3 9) 2 = 0 by decide +kernel, show wd (rowB 1 4 &&& rowB 3 9) 3 = 0 by decide +kernel]; rfl
theorem cnt97 : cntS (rowB 97 99) = 3 := by decide +kernel
theorem cnt97n : cntS (~~~rowB 97 99) = 253 := by decide +kernel
theorem row21 : rowB 2 1 = 0#256 := by decide +kernel

/-- A slice of these bytes, just laid. -/
def Two (v : Value) (w : World) : Prop := ∃ b, v = .slice (some ⟨b, 0, none⟩) 2 2 ∧ Row8 w (some ⟨b, 0, none⟩) [0, 255]
theorem Row8.later {w w' : World} {a : Option Addr} {l : List Nat} (h : Row8 w a l) (hb : Below w.heap.size w w') : Row8 w' a l :=
  ⟨h.1, h.2.1, fun i hi => by
    obtain ⟨b, off, ha, hlt, hc⟩ := h.2.2 i hi
    exact ⟨b, off, ha, Nat.lt_of_lt_of_le hlt hb.size, (hb.cell (p := ⟨b, off + i, none⟩) hlt).trans hc⟩⟩
theorem Two.later (v : Value) (w w' : World) (h : Two v w) (hb : Below w.heap.size w w') : Two v w' := by
  obtain ⟨b, hv, hr⟩ := h
  exact ⟨b, hv, hr.later hb⟩
theorem Two.new (w : World) : Two (.slice (some ⟨w.heap.size, 0, none⟩) 2 2) (w.alloc (.cells #[.int .u8 0, .int .u8 255] 5)) := by
  refine ⟨_, rfl, by simp, by simp, fun i hi => ⟨_, 0, rfl, by simp, ?_⟩⟩
  rw [(Blk.new w #[.int .u8 0, .int .u8 255] 5).cell]
  have : i = 0 ∨ i = 1 := by simp at hi; omega
  rcases this with rfl | rfl <;> rfl

end Go.Proofs.YtgehepiphdphjaaDoor
