/- The document's parts of layer 2: of each head the bytes that are like it. -/
import Derived.Test.YtgehepiphdphjaaDoorSplitRHeads
namespace Go.Proofs.YtgehepiphdphjaaDoor
open Go Go.RowKit
set_option linter.unusedVariables false

theorem grown_setCell (w : World) (g i : Nat) (v : Value) : w.grownBy (w.setCell ⟨g, i, none⟩ v) (some g) :=
  ⟨rfl, rfl, rfl, by simp [World.setCell], fun k _ hk => Below.heap_setCell _ _ _ _ (fun e => hk (by rw [e]))⟩
theorem OwnC.set_ne {w : World} {base g i : Nat} {v u : Value} {l : List (BitVec 256)} (h : OwnC w base v l) (hne : v.ownBlock ≠ some g) : OwnC (w.setCell ⟨g, i, none⟩ u) base v l :=
  World.ownsRow.kept h (grown_setCell w g i u) (.inr hne)
theorem parts_take {l : List (BitVec 256)} {k : Nat} (hk : k < (headsL l).length) : (partsL l).take (k + 1) = (partsL l).take k ++ [cellB l ((headsL l).getD k 0)] := by
  have h2 : k < (partsL l).length := by rw [parts_length]; exact hk
  rw [List.take_succ_eq_append_getElem h2]
  have e1 : (headsL l).getD k 0 = (headsL l)[k] := by simp [hk]
  have e2 : (partsL l)[k] = cellB l (headsL l)[k] := List.getElem_map (cellB l) (l := headsL l) (i := k)
  rw [e1, e2]

def RPL (l : List (BitVec 256)) (wB : World) (v i : Value) (w : World) : Prop := ∃ k : Nat, k ≤ (headsL l).length ∧ i = .int .i64 k ∧ OwnC w wB.heap.size v ((partsL l).take k) ∧ Below wB.heap.size wB w
def RPI (l cur : List (BitVec 256)) (wB : World) (gb h : Nat) (v c : Value) (w : World) : Prop := ∃ k : Nat, k ≤ 256 ∧ c = .int .i64 k ∧ OwnC w wB.heap.size v cur ∧ Below wB.heap.size wB w ∧ BRow w gb (fun i => if i < k then likeB l h i else false)

end Go.Proofs.YtgehepiphdphjaaDoor
