/- The document's heads of layer 2: the bytes that are like none below them. -/
import Derived.Test.YtgehepiphdphjaaDoorSplitLike
namespace Go.Proofs.YtgehepiphdphjaaDoor
open Go Go.RowKit
set_option linter.unusedVariables false

theorem head_all (l : List (BitVec 256)) (c : Nat) (hc : c < 256) : headB l c = (headsTo l c).all fun h => !likeB l h c := by
  rw [Bool.eq_iff_iff, head_iff, List.all_eq_true]
  constructor
  · intro h x hx
    unfold headsTo at hx
    rw [List.mem_filter, List.mem_range] at hx
    rw [h x hx.1]; rfl
  · intro h d hd
    cases hl : likeB l d c with
    | false => rfl
    | true =>
      obtain ⟨h1, h2, h3⟩ := head_lst (l := l) hc
      have hle : lstB (cellB l c) ≤ d := by
        have hls := least_of_ne (nonzero_of (cell_self l c hc))
        rcases Nat.lt_or_ge d (lstB (cellB l c)) with e | e
        · have := hls.low d e
          rw [cell_bit _ _ _ (by omega), like_symm hl] at this; cases this
        · exact e
      have hm : lstB (cellB l c) ∈ headsTo l c := by unfold headsTo; rw [List.mem_filter, List.mem_range]; exact ⟨by omega, h1⟩
      have := h _ hm
      rw [like_symm h2] at this; cases this
theorem headsTo_lt (l : List (BitVec 256)) (c : Nat) : ∀ x ∈ headsTo l c, x < c := fun x hx => by
  unfold headsTo at hx; rw [List.mem_filter, List.mem_range] at hx; exact hx.1
theorem headsTo_len (l : List (BitVec 256)) (c : Nat) : (headsTo l c).length ≤ c := by unfold headsTo; exact Nat.le_trans (List.length_filter_le _ _) (by simp)
def aloneB (l : List (BitVec 256)) (c : Nat) (H : List Nat) (j : Nat) : Bool := (H.take j).all fun h => !likeB l h c
theorem alone_succ {l : List (BitVec 256)} {c : Nat} {H : List Nat} {j : Nat} (hj : j < H.length) (h : aloneB l c H j = true) : aloneB l c H (j + 1) = !likeB l (H.getD j 0) c := by
  have hg : H.getD j 0 = H[j] := by simp [hj]
  unfold aloneB at *
  rw [List.take_succ_eq_append_getElem hj, List.all_append, h, hg]; simp
theorem alone_no {l : List (BitVec 256)} {c : Nat} {H : List Nat} {j : Nat} (h : aloneB l c H j = false) : (H.all fun h => !likeB l h c) = false := by
  unfold aloneB at h
  rw [List.all_eq_false] at h ⊢
  obtain ⟨x, hx, h2⟩ := h
  exact ⟨x, List.mem_of_mem_take hx, h2⟩

def RHL (l : List (BitVec 256)) (w0 : World) (v c : Value) (w : World) : Prop := ∃ k : Nat, k ≤ 256 ∧ c = .int .i64 k ∧ Own8 w w0.heap.size v (headsTo l k) ∧ Below w0.heap.size w0 w
def RHI (l : List (BitVec 256)) (w0 : World) (k : Nat) (v s i : Value) (w : World) : Prop := ∃ j : Nat, j ≤ (headsTo l k).length ∧ i = .int .i64 j ∧ s = .bool (aloneB l k (headsTo l k) j) ∧ Own8 w w0.heap.size v (headsTo l k) ∧ Below w0.heap.size w0 w

end Go.Proofs.YtgehepiphdphjaaDoor
