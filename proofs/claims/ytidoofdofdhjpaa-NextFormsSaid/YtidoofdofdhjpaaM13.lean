/- Classes, split into parts: the parts of a list, by which bytes the classes tell apart. -/
import Derived.Test.YtidoofdofdhjpaaM12
import Derived.Test.YtidoofdofdhjpaaM01
import Derived.Test.YtidoofdofdhjpaaM02
import Derived.Test.YtidoofdofdhjpaaM03
import Derived.Deep.Cut
namespace Go.Proofs.Ytidoofdofdhjpaa
set_option linter.unusedVariables false

/-! ### a class more -/
end Go.Proofs.Ytidoofdofdhjpaa
/- The stable sort of package slices, over a row of classes: what it leaves is the same row, sorted by key, those of one key as they came; nothing else turns. -/
namespace Go.Proofs.Ytidoofdofdhjpaa
open Go Go.RowKit
set_option linter.unusedVariables false

/-- Block b holds n classes, one behind the other, from its first cell on. -/
structure CRow (w : World) (b n : Nat) (f : Nat → BitVec 256) : Prop where
  lt : b < w.heap.size
  cell : ∀ i, i < n → ∀ j, j < 4 → w.cell? ⟨b, i * 4 + j, none⟩ = some (.int .u64 (wd (f i) j))
  fro : ∀ o, w.frozen? ⟨b, o, none⟩ = false

/-- Nothing but block b has turned, of what was there. -/
structure But (b : Nat) (w w' : World) : Prop where
  os : w'.os = w.os
  tape : w'.tape = w.tape
  output : w'.output = w.output
  size : w.heap.size ≤ w'.heap.size
  block : ∀ k, k < w.heap.size → k ≠ b → w'.heap[k]? = w.heap[k]?
theorem But.refl (b : Nat) (w : World) : But b w w := ⟨rfl, rfl, rfl, Nat.le_refl _, fun _ _ _ => rfl⟩
theorem But.trans {b : Nat} {w w1 w2 : World} (h : But b w w1) (k : But b w1 w2) : But b w w2 :=
  ⟨k.os.trans h.os, k.tape.trans h.tape, k.output.trans h.output, Nat.le_trans h.size k.size, fun i hi hn => (k.block i (Nat.lt_of_lt_of_le hi h.size) hn).trans (h.block i hi hn)⟩
theorem But.below {b B : Nat} {w w' : World} (h : But b w w') (hB : B ≤ b) (hw : b ≤ w.heap.size) : Below B w w' := ⟨h.os, h.tape, h.output, h.size, fun k hk => h.block k (by omega) (by omega)⟩
theorem But.setCell (b : Nat) (w : World) (o : Nat) (v : Value) : But b w (w.setCell ⟨b, o, none⟩ v) :=
  ⟨rfl, rfl, rfl, by simp [World.setCell], fun k _ hk => Below.heap_setCell _ _ _ _ hk⟩

section
variable {w w' : World} {b n : Nat} {f : Nat → BitVec 256}
theorem CRow.later (h : CRow w b n f) (hb : Below w.heap.size w w') : CRow w' b n f :=
  ⟨Nat.lt_of_lt_of_le h.lt hb.size, fun i hi j hj => (hb.cell (p := ⟨b, i * 4 + j, none⟩) h.lt).trans (h.cell i hi j hj), fun o => (hb.frozen (p := ⟨b, o, none⟩) h.lt).trans (h.fro o)⟩
theorem CRow.drew (h : CRow w b n f) : CRow w.drew b n f := h.later (Below.refl _ _).drew
theorem But.drew (h : But b w w') : But b w w'.drew := ⟨h.os, h.tape, h.output, h.size, h.block⟩
theorem CRow.cells (h : CRow w b n f) (i : Nat) (hi : i < n) : w.cell? ⟨b, i * 4, none⟩ = some (.int .u64 (wd (f i) 0)) ∧ w.cell? ⟨b, i * 4 + 1, none⟩ = some (.int .u64 (wd (f i) 1)) ∧ w.cell? ⟨b, i * 4 + 2, none⟩ = some (.int .u64 (wd (f i) 2)) ∧ w.cell? ⟨b, i * 4 + 3, none⟩ = some (.int .u64 (wd (f i) 3)) :=
  ⟨h.cell i hi 0 (by omega), h.cell i hi 1 (by omega), h.cell i hi 2 (by omega), h.cell i hi 3 (by omega)⟩
end

/-- Four cells from o on. -/
def putAt (w : World) (b o : Nat) (t : BitVec 256) : World :=
  (((w.setCell ⟨b, o, none⟩ (.int .u64 (wd t 0))).setCell ⟨b, o + 1, none⟩ (.int .u64 (wd t 1))).setCell ⟨b, o + 2, none⟩ (.int .u64 (wd t 2))).setCell ⟨b, o + 3, none⟩ (.int .u64 (wd t 3))
theorem But.putAt (b : Nat) (w : World) (o : Nat) (t : BitVec 256) : But b w (putAt w b o t) :=
  (((But.setCell b w o _).trans (But.setCell b _ (o + 1) _)).trans (But.setCell b _ (o + 2) _)).trans (But.setCell b _ (o + 3) _)
theorem cell_setCell (w : World) (b o o' : Nat) (v u : Value) (h : w.cell? ⟨b, o, none⟩ = some u) : (w.setCell ⟨b, o, none⟩ v).cell? ⟨b, o', none⟩ = if o' = o then some v else w.cell? ⟨b, o', none⟩ := by
  by_cases e : o' = o
  · subst e; rw [if_pos rfl]; exact World.cell?_setCell_same' _ _ _ (by rw [h]; rfl)
  · rw [if_neg e]
    refine World.cell?_setCell_other (h := ?_) ..
    intro h; cases h; exact e rfl
theorem CRow.putAt {w : World} {b n : Nat} {f : Nat → BitVec 256} (h : CRow w b n f) (i : Nat) (hi : i < n) (t : BitVec 256) : CRow (putAt w b (i * 4) t) b n (fun x => if x = i then t else f x) := by
  obtain ⟨c0, c1, c2, c3⟩ := h.cells i hi
  refine ⟨Nat.lt_of_lt_of_le h.lt (But.putAt b w _ t).size, fun x hx j hj => ?_, fun o => ?_⟩
  · unfold Go.Proofs.Ytidoofdofdhjpaa.putAt
    have h1 := cell_setCell w b (i * 4) (i * 4 + 1) (.int .u64 (wd t 0)) _ c0
    rw [if_neg (by omega), c1] at h1
    have h2 := cell_setCell (w.setCell ⟨b, i * 4, none⟩ (.int .u64 (wd t 0))) b (i * 4 + 1) (i * 4 + 2) (.int .u64 (wd t 1)) _ h1
    rw [if_neg (by omega), cell_setCell _ _ _ _ _ _ c0, if_neg (by omega), c2] at h2
    have h3 := cell_setCell ((w.setCell ⟨b, i * 4, none⟩ (.int .u64 (wd t 0))).setCell ⟨b, i * 4 + 1, none⟩ (.int .u64 (wd t 1))) b (i * 4 + 2) (i * 4 + 3) (.int .u64 (wd t 2)) _ h2
    rw [if_neg (by omega), cell_setCell _ _ _ _ _ _ h1, if_neg (by omega), cell_setCell _ _ _ _ _ _ c0, if_neg (by omega), c3] at h3
    rw [cell_setCell _ _ _ _ _ _ h3, cell_setCell _ _ _ _ _ _ h2, cell_setCell _ _ _ _ _ _ h1, cell_setCell _ _ _ _ _ _ c0]
    by_cases e : x = i
    · subst e
      rw [if_pos rfl]
      rcases (by omega : j = 0 ∨ j = 1 ∨ j = 2 ∨ j = 3) with rfl | rfl | rfl | rfl
      · rw [if_neg (by omega), if_neg (by omega), if_neg (by omega), if_pos (by omega)]
      · rw [if_neg (by omega), if_neg (by omega), if_pos (by omega)]
      · rw [if_neg (by omega), if_pos (by omega)]
      · rw [if_pos (by omega)]
    · rw [if_neg (by omega), if_neg (by omega), if_neg (by omega), if_neg (by omega), if_neg e]; exact h.cell x hx j hj
  · unfold Go.Proofs.Ytidoofdofdhjpaa.putAt
    simp only [World.frozen?_setCell]
    exact h.fro o

theorem CRow.swap {w : World} {b n : Nat} {L : Nat → BitVec 256} {d : Nat → Nat} (h : CRow w b n (fun i => L (d i))) (i j : Nat) (hi : i < n) (hj : j < n) :
    CRow (Go.Proofs.Ytidoofdofdhjpaa.putAt (Go.Proofs.Ytidoofdofdhjpaa.putAt w b (i * 4) (L (d j))) b (j * 4) (L (d i))) b n (fun x => L (swap d i j x)) := by
  have := (h.putAt i hi (L (d j))).putAt j hj (L (d i))
  refine ⟨this.lt, fun x hx k hk => ?_, this.fro⟩
  rw [this.cell x hx k hk]
  unfold Go.Proofs.Ytidoofdofdhjpaa.swap
  by_cases e1 : x = i
  · by_cases e2 : x = j
    · rw [if_pos e2, if_pos e1, ← e1, e2]
    · rw [if_neg e2, if_pos e1, if_pos e1]
  · by_cases e2 : x = j
    · rw [if_pos e2, if_neg e1, if_pos e2]
    · rw [if_neg e2, if_neg e1, if_neg e1, if_neg e2]
theorem But.swap (b : Nat) (w : World) (o o' : Nat) (s t : BitVec 256) : But b w (Go.Proofs.Ytidoofdofdhjpaa.putAt (Go.Proofs.Ytidoofdofdhjpaa.putAt w b o s) b o' t) := (But.putAt b w o s).trans (But.putAt b _ o' t)

/-! ### swapRangeCmpFunc -/
/-! ### rotateCmpFunc -/
end Go.Proofs.Ytidoofdofdhjpaa
/- insertionSortCmpFunc and symMergeCmpFunc over a row of classes, in the order by least bytes. -/
namespace Go.Proofs.Ytidoofdofdhjpaa
open Go Go.RowKit
set_option linter.unusedVariables false

end Go.Proofs.Ytidoofdofdhjpaa
/- symMergeCmpFunc over a row of classes: two sorted halves become one. -/
namespace Go.Proofs.Ytidoofdofdhjpaa
open Go Go.RowKit
set_option linter.unusedVariables false

end Go.Proofs.Ytidoofdofdhjpaa
