/- What the document's package of layer 2 says two bytes of one part by, and the bytes that are like none below them. -/
import Derived.Test.YtgehepiphdphjaaDoorSplitAwake
import Derived.Test.YtgehepiphdphjaaDoorSplitHeadsM
namespace Go.Proofs.YtgehepiphdphjaaDoor
open Go Go.RowKit
set_option linter.unusedVariables false

structure LikS (w0 : World) (A : Option Addr) (l : List (BitVec 256)) (w : World) : Prop where
  below : Below w0.heap.size w0 w
  row : LRow w A l
theorem LikS.later {w0 w w' : World} {A : Option Addr} {l : List (BitVec 256)} (h : LikS w0 A l w) (hb : Below w.heap.size w w') : LikS w0 A l w' := ⟨h.below.trans (hb.mono h.below.size), h.row.later hb⟩
def LikL (w0 : World) (A : Option Addr) (l : List (BitVec 256)) (c d : Nat) (i : Value) (w : World) : Prop := ∃ k, k ≤ l.length ∧ i = .int .i64 k ∧ likeB (l.take k) c d = true ∧ LikS w0 A l w
theorem like_take {l : List (BitVec 256)} {c d k : Nat} (hk : k < l.length) (h : likeB (l.take k) c d = true) : likeB (l.take (k + 1)) c d = ((l.getD k 0).getLsbD c == (l.getD k 0).getLsbD d) := by
  have hg : l.getD k 0 = l[k] := by simp [hk]
  rw [List.take_succ_eq_append_getElem hk, like_append, h, hg]
  unfold likeB; simp
theorem like_false {l : List (BitVec 256)} {c d k : Nat} (hk : k < l.length) (h : ((l.getD k 0).getLsbD c == (l.getD k 0).getLsbD d) = false) : likeB l c d = false := by
  have hg : l.getD k 0 = l[k] := by simp [hk]
  cases hl : likeB l c d with
  | false => rfl
  | true =>
    have := like_iff.1 hl l[k] (List.getElem_mem hk)
    rw [hg, this] at h
    simp at h

end Go.Proofs.YtgehepiphdphjaaDoor
