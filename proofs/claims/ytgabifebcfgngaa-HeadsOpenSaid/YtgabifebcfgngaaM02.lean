/- The contracts of package class (and of math/bits as it uses it): each call answers the set that the document names, and nothing that was there turns. -/
import Derived.Test.YtgabifebcfgngaaM01
import Derived.Test.YtgabifebcfgngaaProg
import Derived.WalkKit
import Derived.ProofKit
import Derived.Outline
import Derived.Handy
import Derived.BigRegion
import Derived.Lib.Hide
import Derived.ChangeKeysEq
namespace Go.Proofs.Ytgabifebcfgngaa
open Go Go.RowKit
set_option linter.unusedVariables false

/-- It answers v, and of what was there nothing turns. -/
def Ans (w : World) (v : Value) (e : Ending) (w' : World) : Prop := e = .returned v ∧ Below w.heap.size w w'

/-- It answers v, and turns nothing at all. -/
def Pure (w : World) (v : Value) (e : Ending) (w' : World) : Prop := e = .returned v ∧ w = w'

/-! ### Has -/
/-! ### Join, Both, Not -/
/-! ### math/bits -/
/-! ### Add -/
/-- A row of bytes in memory, read from its beginning on. -/
def Row8 (w : World) (a : Option Addr) (l : List Nat) : Prop :=
  (∀ c ∈ l, c < 256) ∧ l.length ≤ 9223372036854775807 ∧ ∀ i, i < l.length → ∃ b off, a = some ⟨b, off, none⟩ ∧ b < w.heap.size ∧ w.cell? ⟨b, off + i, none⟩ = some (.int .u8 ((l.getD i 0 : Nat) : Int))

/-! ### Of -/
/-- Block b holds these cells, none of them frozen. -/
def Blk (w : World) (b : Nat) (vs : Array Value) (t : TypeId) : Prop := w.heap[b]? = some (.cells vs t)
section
variable {w w' : World} {b : Nat} {vs : Array Value} {t : TypeId}
theorem Blk.lt (h : Blk w b vs t) : b < w.heap.size := by
  unfold Blk at h
  rcases Nat.lt_or_ge b w.heap.size with l | l
  · exact l
  · rw [Array.getElem?_eq_none l] at h; cases h
theorem Blk.cell (h : Blk w b vs t) (o : Nat) : w.cell? ⟨b, o, none⟩ = vs[o]? := by unfold Blk at h; simp [World.cell?, h]
theorem Blk.frozen (h : Blk w b vs t) (o : Nat) : w.frozen? ⟨b, o, none⟩ = false := by unfold Blk at h; simp [World.frozen?, h]
theorem Blk.below (h : Blk w b vs t) {B : Nat} (hb : Below B w w') (l : b < B) : Blk w' b vs t := (hb.block b l).trans h
theorem Blk.later (h : Blk w b vs t) (hb : Below w.heap.size w w') : Blk w' b vs t := h.below hb h.lt
theorem Blk.setCell (h : Blk w b vs t) (o : Nat) (v : Value) : Blk (w.setCell ⟨b, o, none⟩ v) b (vs.setIfInBounds o v) t := by
  unfold Blk at *
  simp [World.setCell, Array.getElem?_modify, h]
theorem Blk.setCell_ne (h : Blk w b vs t) {a : Addr} (hne : a.block ≠ b) (v : Value) : Blk (w.setCell a v) b vs t := by
  unfold Blk at *
  simp only [World.setCell, Array.getElem?_modify]
  rw [if_neg hne, h]
theorem Blk.alloc (h : Blk w b vs t) (o : Obj) : Blk (w.alloc o) b vs t := by
  have := h.lt
  unfold Blk at *
  rw [← h]; exact Below.heap_alloc w o b this
theorem Blk.new (w : World) (vs : Array Value) (t : TypeId) : Blk (w.alloc (.cells vs t)) w.heap.size vs t := by
  unfold Blk
  show (w.heap.push _)[w.heap.size]? = _
  simp
theorem Blk.new' {w : World} {b : Nat} (h : b = w.heap.size) (vs : Array Value) (t : TypeId) : Blk (w.alloc (.cells vs t)) b vs t := h ▸ Blk.new w vs t
end

def cells4 (S : BitVec 256) : Array Value := #[.int .u64 (wd S 0), .int .u64 (wd S 1), .int .u64 (wd S 2), .int .u64 (wd S 3)]

theorem Blk.cells {w : World} {b : Nat} {S : BitVec 256} {t : TypeId} (h : Blk w b (cells4 S) t) :
    w.cell? ⟨b, 0, none⟩ = some (.int .u64 (wd S 0)) ∧ w.cell? ⟨b, 1, none⟩ = some (.int .u64 (wd S 1)) ∧ w.cell? ⟨b, 2, none⟩ = some (.int .u64 (wd S 2)) ∧ w.cell? ⟨b, 3, none⟩ = some (.int .u64 (wd S 3)) :=
  ⟨h.cell 0, h.cell 1, h.cell 2, h.cell 3⟩

/-! ### Count -/
/-! ### Least -/
/-! ### == and != of classes -/
theorem beq_words (x y : BitVec 256) : (decide (wd x 0 = wd y 0) && (decide (wd x 1 = wd y 1) && (decide (wd x 2 = wd y 2) && decide (wd x 3 = wd y 3)))) = (x == y) := by
  rw [Bool.eq_iff_iff]
  simp only [Bool.and_eq_true, decide_eq_true_eq, beq_iff_eq]
  exact ⟨fun ⟨a, b, c, d⟩ => ext_wd a b c d, fun h => by subst h; exact ⟨rfl, rfl, rfl, rfl⟩⟩
theorem equalIn_u64 (d : Nat) (x y : Int) (w : World) : (Op.equalIn (d + 1) 44 (.int .u64 x) (.int .u64 y)).run Try.prog w = .ok (x == y) w := by
  simp [Op.equalIn, go_sem]
end Go.Proofs.Ytgabifebcfgngaa
