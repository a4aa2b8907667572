/- The statement ClassRows of layer 1, walked: rows of bytes, two that touch, a byte added. -/
import Derived.Test.YtgehepiphdphjaaDoorClassWalks
import Derived.Test.YtgehepiphdphjaaDoorClassAwake
import Derived.Deep.Cut
namespace Go.Proofs.YtgehepiphdphjaaDoor
open Go Go.RowKit
set_option linter.unusedVariables false

/-! ### the sets -/
theorem cnt_row (a b : Nat) (h : a ≤ b) : ∀ n, cnt (fun i => decide (a ≤ i ∧ i ≤ b)) n = min n (b + 1) - min n a
  | 0 => by simp [cnt]
  | n + 1 => by
    have ih := cnt_row a b h n
    show cnt _ n + (if decide (a ≤ n ∧ n ≤ b) = true then 1 else 0) = _
    rw [ih]
    by_cases e : a ≤ n ∧ n ≤ b
    · simp [e]; omega
    · simp [e]; omega
theorem cntS_row (a b : Nat) (h : a ≤ b) (hb : b < 256) : cntS (rowB a b) = b + 1 - a := by
  unfold cntS
  rw [cnt_congr (q := fun i => decide (a ≤ i ∧ i ≤ b)) (fun i hi => rowB_bit a b i hi), cnt_row a b h]
  omega
theorem row_none (a b : Nat) (h : b < a) : rowB a b = 0#256 := by
  refine BitVec.eq_of_getLsbD_eq fun n hn => ?_
  rw [rowB_bit _ _ _ hn]; simp; omega
theorem least_row (a b : Nat) (h : a ≤ b) (hb : b < 256) : IsLeast (rowB a b) a :=
  ⟨by omega, by rw [rowB_bit _ _ _ (by omega)]; simp [h], fun j hj => by rw [rowB_bit _ _ _ (by omega)]; simp; omega⟩
theorem row_join (a m b : Nat) (h1 : a ≤ m) (h2 : m < b) (hb : b < 256) : rowB a m ||| rowB (m + 1) b = rowB a b := by
  refine BitVec.eq_of_getLsbD_eq fun n hn => ?_
  rw [BitVec.getLsbD_or, rowB_bit _ _ _ hn, rowB_bit _ _ _ hn, rowB_bit _ _ _ hn, ← Bool.decide_or]
  congr 1; rw [eq_iff_iff]; omega
theorem add_has (s : BitVec 256) (c : Nat) (hc : c < 256) : (s ||| one c).getLsbD c = true := by
  rw [BitVec.getLsbD_or, one_bit _ _ hc]; simp
theorem add_in (s : BitVec 256) (c : Nat) (hc : c < 256) (h : s.getLsbD c = true) : s ||| one c = s := by
  refine BitVec.eq_of_getLsbD_eq fun n hn => ?_
  rw [BitVec.getLsbD_or, one_bit _ _ hn]
  by_cases e : n = c
  · subst e; simp [h]
  · simp [e]
theorem cntS_add (s : BitVec 256) (c : Nat) (hc : c < 256) (h : s.getLsbD c = false) : cntS (s ||| one c) = cntS s + 1 := by
  have h1 := cntS_or_and s (one c)
  have h2 : s &&& one c = 0#256 := by
    refine BitVec.eq_of_getLsbD_eq fun n hn => ?_
    rw [BitVec.getLsbD_and, one_bit _ _ hn]
    by_cases e : n = c
    · subst e; simp [h]
    · simp [e]
  have h3 : cntS (one c) = 1 := by
    have : one c = rowB c c := by
      refine BitVec.eq_of_getLsbD_eq fun n hn => ?_
      rw [one_bit _ _ hn, rowB_bit _ _ _ hn]
      congr 1; rw [eq_iff_iff]; omega
    rw [this, cntS_row _ _ (Nat.le_refl _) hc]; omega
  have h4 : cntS 0#256 = 0 := by decide +kernel
  rw [h2, h3, h4] at h1
  omega
theorem and_add (s : BitVec 256) (c : Nat) : s &&& (s ||| one c) = s := by
  refine BitVec.eq_of_getLsbD_eq fun n hn => ?_
  rw [BitVec.getLsbD_and, BitVec.getLsbD_or]
  cases s.getLsbD n <;> simp

/-! ### rows of bytes just laid -/
def NewRow (l : List Nat) (v : Value) (w : World) : Prop := ∃ b, v = .slice (some ⟨b, 0, none⟩) l.length l.length ∧ Row8 w (some ⟨b, 0, none⟩) l
theorem NewRow.later (l : List Nat) (v : Value) (w w' : World) (h : NewRow l v w) (hb : Below w.heap.size w w') : NewRow l v w' := by
  obtain ⟨b, hv, hr⟩ := h
  exact ⟨b, hv, hr.later hb⟩
theorem NewRow.new (w : World) (l : List Nat) (hl : ∀ c ∈ l, c < 256) (hs : l.length ≤ 9223372036854775807) :
    NewRow l (.slice (some ⟨w.heap.size, 0, none⟩) l.length l.length) (w.alloc (.cells (l.map fun c : Nat => Value.int .u8 (c : Int)).toArray 5)) := by
  refine ⟨_, rfl, hl, hs, fun i hi => ⟨_, 0, rfl, by simp, ?_⟩⟩
  rw [(Blk.new w _ 5).cell]
  simp [hi]
theorem row_nil (w : World) : Row8 w none [] := ⟨by simp, by simp, fun i hi => by simp at hi⟩

structure RowsS (w0 : World) (a : BitVec 256) (w : World) : Prop where
  below : Below w0.heap.size w0 w
  deb : Deb w
  blk : Blk w w0.heap.size (cells4 a) 29
theorem RowsS.later {w0 w w' : World} {a : BitVec 256} (h : RowsS w0 a w) (hb : Below w.heap.size w w') : RowsS w0 a w' :=
  ⟨h.below.trans (hb.mono h.below.size), h.deb.below hb, h.blk.later hb⟩
structure RowsS2 (w0 : World) (a : BitVec 256) (b : Nat) (r : BitVec 256) (w : World) : Prop extends RowsS w0 a w where
  blk2 : Blk w b (cells4 r) 29
theorem RowsS2.later {w0 w w' : World} {a r : BitVec 256} {b : Nat} (h : RowsS2 w0 a b r w) (hb : Below w.heap.size w w') : RowsS2 w0 a b r w' :=
  ⟨h.toRowsS.later hb, h.blk2.later hb⟩

end Go.Proofs.YtgehepiphdphjaaDoor
