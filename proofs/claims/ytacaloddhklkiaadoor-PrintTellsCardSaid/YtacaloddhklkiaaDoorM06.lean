/- Boxes of ten cells. -/
import Derived.Test.YtacaloddhklkiaaDoorM05
namespace Go.Proofs.YtacaloddhklkiaaDoor
open Go Go.RowKit
set_option linter.unusedVariables false

/-- A node's cells. -/
def ndC (n : Nd) : Array Value := #[.int .i64 n.kind, .int .i64 n.a, .int .i64 n.b, .int .i64 n.lo, .int .i64 n.hi, .int .u64 (wd n.cls 0), .int .u64 (wd n.cls 1), .int .u64 (wd n.cls 2), .int .u64 (wd n.cls 3), .string (bs n.text)]
def z10 : Array Value := #[.int .i64 0, .int .i64 0, .int .i64 0, .int .i64 0, .int .i64 0, .int .u64 0, .int .u64 0, .int .u64 0, .int .u64 0, .string ⟨#[]⟩]
theorem Blk.put10 {w : World} {b : Nat} {t : TypeId} {vs : Array Value} (h : Blk w b vs t) {o : Nat} (ho : o < vs.size) (v : Value) : (w.setCell ⟨b, o, none⟩ v).cell? ⟨b, o, none⟩ = some v := by
  rw [(h.setCell o v).cell o]; simp [ho]
section
variable {w : World} {b : Nat} {t : TypeId} {c0 c1 c2 c3 c4 c5 c6 c7 c8 c9 : Value}
/-- What is stored is read. -/
theorem ten (h : Blk w b #[c0, c1, c2, c3, c4, c5, c6, c7, c8, c9] t) :
    (∀ v0 : Value, (w.setCell ⟨b, 0, none⟩ v0).cell? ⟨b, 0, none⟩ = some v0) ∧ (∀ v0 v1 : Value, ((w.setCell ⟨b, 0, none⟩ v0).setCell ⟨b, 1, none⟩ v1).cell? ⟨b, 1, none⟩ = some v1) ∧ (∀ v0 v1 v2 : Value, (((w.setCell ⟨b, 0, none⟩ v0).setCell ⟨b, 1, none⟩ v1).setCell ⟨b, 2, none⟩ v2).cell? ⟨b, 2, none⟩ = some v2) ∧ (∀ v0 v1 v2 v3 : Value, ((((w.setCell ⟨b, 0, none⟩ v0).setCell ⟨b, 1, none⟩ v1).setCell ⟨b, 2, none⟩ v2).setCell ⟨b, 3, none⟩ v3).cell? ⟨b, 3, none⟩ = some v3) ∧ (∀ v0 v1 v2 v3 v4 : Value, (((((w.setCell ⟨b, 0, none⟩ v0).setCell ⟨b, 1, none⟩ v1).setCell ⟨b, 2, none⟩ v2).setCell ⟨b, 3, none⟩ v3).setCell ⟨b, 4, none⟩ v4).cell? ⟨b, 4, none⟩ = some v4) ∧ (∀ v0 v1 v2 v3 v4 v5 : Value, ((((((w.setCell ⟨b, 0, none⟩ v0).setCell ⟨b, 1, none⟩ v1).setCell ⟨b, 2, none⟩ v2).setCell ⟨b, 3, none⟩ v3).setCell ⟨b, 4, none⟩ v4).setCell ⟨b, 5, none⟩ v5).cell? ⟨b, 5, none⟩ = some v5) ∧ (∀ v0 v1 v2 v3 v4 v5 v6 : Value, (((((((w.setCell ⟨b, 0, none⟩ v0).setCell ⟨b, 1, none⟩ v1).setCell ⟨b, 2, none⟩ v2).setCell ⟨b, 3, none⟩ v3).setCell ⟨b, 4, none⟩ v4).setCell ⟨b, 5, none⟩ v5).setCell ⟨b, 6, none⟩ v6).cell? ⟨b, 6, none⟩ = some v6) ∧ (∀ v0 v1 v2 v3 v4 v5 v6 v7 : Value, ((((((((w.setCell ⟨b, 0, none⟩ v0).setCell ⟨b, 1, none⟩ v1).setCell ⟨b, 2, none⟩ v2).setCell ⟨b, 3, none⟩ v3).setCell ⟨b, 4, none⟩ v4).setCell ⟨b, 5, none⟩ v5).setCell ⟨b, 6, none⟩ v6).setCell ⟨b, 7, none⟩ v7).cell? ⟨b, 7, none⟩ = some v7) ∧ (∀ v0 v1 v2 v3 v4 v5 v6 v7 v8 : Value, (((((((((w.setCell ⟨b, 0, none⟩ v0).setCell ⟨b, 1, none⟩ v1).setCell ⟨b, 2, none⟩ v2).setCell ⟨b, 3, none⟩ v3).setCell ⟨b, 4, none⟩ v4).setCell ⟨b, 5, none⟩ v5).setCell ⟨b, 6, none⟩ v6).setCell ⟨b, 7, none⟩ v7).setCell ⟨b, 8, none⟩ v8).cell? ⟨b, 8, none⟩ = some v8) ∧ (∀ v0 v1 v2 v3 v4 v5 v6 v7 v8 v9 : Value, ((((((((((w.setCell ⟨b, 0, none⟩ v0).setCell ⟨b, 1, none⟩ v1).setCell ⟨b, 2, none⟩ v2).setCell ⟨b, 3, none⟩ v3).setCell ⟨b, 4, none⟩ v4).setCell ⟨b, 5, none⟩ v5).setCell ⟨b, 6, none⟩ v6).setCell ⟨b, 7, none⟩ v7).setCell ⟨b, 8, none⟩ v8).setCell ⟨b, 9, none⟩ v9).cell? ⟨b, 9, none⟩ = some v9) :=
  ⟨fun v0 => (h).put10 (by simp) v0, fun v0 v1 => ((h).setCell 0 v0).put10 (by simp) v1, fun v0 v1 v2 => (((h).setCell 0 v0).setCell 1 v1).put10 (by simp) v2, fun v0 v1 v2 v3 => ((((h).setCell 0 v0).setCell 1 v1).setCell 2 v2).put10 (by simp) v3, fun v0 v1 v2 v3 v4 => (((((h).setCell 0 v0).setCell 1 v1).setCell 2 v2).setCell 3 v3).put10 (by simp) v4, fun v0 v1 v2 v3 v4 v5 => ((((((h).setCell 0 v0).setCell 1 v1).setCell 2 v2).setCell 3 v3).setCell 4 v4).put10 (by simp) v5, fun v0 v1 v2 v3 v4 v5 v6 => (((((((h).setCell 0 v0).setCell 1 v1).setCell 2 v2).setCell 3 v3).setCell 4 v4).setCell 5 v5).put10 (by simp) v6, fun v0 v1 v2 v3 v4 v5 v6 v7 => ((((((((h).setCell 0 v0).setCell 1 v1).setCell 2 v2).setCell 3 v3).setCell 4 v4).setCell 5 v5).setCell 6 v6).put10 (by simp) v7, fun v0 v1 v2 v3 v4 v5 v6 v7 v8 => (((((((((h).setCell 0 v0).setCell 1 v1).setCell 2 v2).setCell 3 v3).setCell 4 v4).setCell 5 v5).setCell 6 v6).setCell 7 v7).put10 (by simp) v8, fun v0 v1 v2 v3 v4 v5 v6 v7 v8 v9 => ((((((((((h).setCell 0 v0).setCell 1 v1).setCell 2 v2).setCell 3 v3).setCell 4 v4).setCell 5 v5).setCell 6 v6).setCell 7 v7).setCell 8 v8).put10 (by simp) v9⟩
theorem ten_cells (h : Blk w b #[c0, c1, c2, c3, c4, c5, c6, c7, c8, c9] t) :
    w.cell? ⟨b, 0, none⟩ = some c0 ∧ w.cell? ⟨b, 1, none⟩ = some c1 ∧ w.cell? ⟨b, 2, none⟩ = some c2 ∧ w.cell? ⟨b, 3, none⟩ = some c3 ∧ w.cell? ⟨b, 4, none⟩ = some c4 ∧ w.cell? ⟨b, 5, none⟩ = some c5 ∧ w.cell? ⟨b, 6, none⟩ = some c6 ∧ w.cell? ⟨b, 7, none⟩ = some c7 ∧ w.cell? ⟨b, 8, none⟩ = some c8 ∧ w.cell? ⟨b, 9, none⟩ = some c9 :=
  ⟨h.cell 0, h.cell 1, h.cell 2, h.cell 3, h.cell 4, h.cell 5, h.cell 6, h.cell 7, h.cell 8, h.cell 9⟩
theorem ten_blk (h : Blk w b #[c0, c1, c2, c3, c4, c5, c6, c7, c8, c9] t) (v0 v1 v2 v3 v4 v5 v6 v7 v8 v9 : Value) : Blk ((((((((((w.setCell ⟨b, 0, none⟩ v0).setCell ⟨b, 1, none⟩ v1).setCell ⟨b, 2, none⟩ v2).setCell ⟨b, 3, none⟩ v3).setCell ⟨b, 4, none⟩ v4).setCell ⟨b, 5, none⟩ v5).setCell ⟨b, 6, none⟩ v6).setCell ⟨b, 7, none⟩ v7).setCell ⟨b, 8, none⟩ v8).setCell ⟨b, 9, none⟩ v9) b #[v0, v1, v2, v3, v4, v5, v6, v7, v8, v9] t := by
  have h1 : Blk (w.setCell ⟨b, 0, none⟩ v0) b #[v0, c1, c2, c3, c4, c5, c6, c7, c8, c9] t := h.setCell 0 v0
  have h2 : Blk ((w.setCell ⟨b, 0, none⟩ v0).setCell ⟨b, 1, none⟩ v1) b #[v0, v1, c2, c3, c4, c5, c6, c7, c8, c9] t := h1.setCell 1 v1
  have h3 : Blk (((w.setCell ⟨b, 0, none⟩ v0).setCell ⟨b, 1, none⟩ v1).setCell ⟨b, 2, none⟩ v2) b #[v0, v1, v2, c3, c4, c5, c6, c7, c8, c9] t := h2.setCell 2 v2
  have h4 : Blk ((((w.setCell ⟨b, 0, none⟩ v0).setCell ⟨b, 1, none⟩ v1).setCell ⟨b, 2, none⟩ v2).setCell ⟨b, 3, none⟩ v3) b #[v0, v1, v2, v3, c4, c5, c6, c7, c8, c9] t := h3.setCell 3 v3
  have h5 : Blk (((((w.setCell ⟨b, 0, none⟩ v0).setCell ⟨b, 1, none⟩ v1).setCell ⟨b, 2, none⟩ v2).setCell ⟨b, 3, none⟩ v3).setCell ⟨b, 4, none⟩ v4) b #[v0, v1, v2, v3, v4, c5, c6, c7, c8, c9] t := h4.setCell 4 v4
  have h6 : Blk ((((((w.setCell ⟨b, 0, none⟩ v0).setCell ⟨b, 1, none⟩ v1).setCell ⟨b, 2, none⟩ v2).setCell ⟨b, 3, none⟩ v3).setCell ⟨b, 4, none⟩ v4).setCell ⟨b, 5, none⟩ v5) b #[v0, v1, v2, v3, v4, v5, c6, c7, c8, c9] t := h5.setCell 5 v5
  have h7 : Blk (((((((w.setCell ⟨b, 0, none⟩ v0).setCell ⟨b, 1, none⟩ v1).setCell ⟨b, 2, none⟩ v2).setCell ⟨b, 3, none⟩ v3).setCell ⟨b, 4, none⟩ v4).setCell ⟨b, 5, none⟩ v5).setCell ⟨b, 6, none⟩ v6) b #[v0, v1, v2, v3, v4, v5, v6, c7, c8, c9] t := h6.setCell 6 v6
  have h8 : Blk ((((((((w.setCell ⟨b, 0, none⟩ v0).setCell ⟨b, 1, none⟩ v1).setCell ⟨b, 2, none⟩ v2).setCell ⟨b, 3, none⟩ v3).setCell ⟨b, 4, none⟩ v4).setCell ⟨b, 5, none⟩ v5).setCell ⟨b, 6, none⟩ v6).setCell ⟨b, 7, none⟩ v7) b #[v0, v1, v2, v3, v4, v5, v6, v7, c8, c9] t := h7.setCell 7 v7
  have h9 : Blk (((((((((w.setCell ⟨b, 0, none⟩ v0).setCell ⟨b, 1, none⟩ v1).setCell ⟨b, 2, none⟩ v2).setCell ⟨b, 3, none⟩ v3).setCell ⟨b, 4, none⟩ v4).setCell ⟨b, 5, none⟩ v5).setCell ⟨b, 6, none⟩ v6).setCell ⟨b, 7, none⟩ v7).setCell ⟨b, 8, none⟩ v8) b #[v0, v1, v2, v3, v4, v5, v6, v7, v8, c9] t := h8.setCell 8 v8
  have h10 : Blk ((((((((((w.setCell ⟨b, 0, none⟩ v0).setCell ⟨b, 1, none⟩ v1).setCell ⟨b, 2, none⟩ v2).setCell ⟨b, 3, none⟩ v3).setCell ⟨b, 4, none⟩ v4).setCell ⟨b, 5, none⟩ v5).setCell ⟨b, 6, none⟩ v6).setCell ⟨b, 7, none⟩ v7).setCell ⟨b, 8, none⟩ v8).setCell ⟨b, 9, none⟩ v9) b #[v0, v1, v2, v3, v4, v5, v6, v7, v8, v9] t := h9.setCell 9 v9
  exact h10
end
theorem below10 {B : Nat} {a w : World} (h : Below B a w) {b : Nat} (hb : B ≤ b) (v0 v1 v2 v3 v4 v5 v6 v7 v8 v9 : Value) : Below B a ((((((((((w.setCell ⟨b, 0, none⟩ v0).setCell ⟨b, 1, none⟩ v1).setCell ⟨b, 2, none⟩ v2).setCell ⟨b, 3, none⟩ v3).setCell ⟨b, 4, none⟩ v4).setCell ⟨b, 5, none⟩ v5).setCell ⟨b, 6, none⟩ v6).setCell ⟨b, 7, none⟩ v7).setCell ⟨b, 8, none⟩ v8).setCell ⟨b, 9, none⟩ v9) := ((((((((((h).setCell (p := ⟨b, 0, none⟩) hb v0).setCell (p := ⟨b, 1, none⟩) hb v1).setCell (p := ⟨b, 2, none⟩) hb v2).setCell (p := ⟨b, 3, none⟩) hb v3).setCell (p := ⟨b, 4, none⟩) hb v4).setCell (p := ⟨b, 5, none⟩) hb v5).setCell (p := ⟨b, 6, none⟩) hb v6).setCell (p := ⟨b, 7, none⟩) hb v7).setCell (p := ⟨b, 8, none⟩) hb v8).setCell (p := ⟨b, 9, none⟩) hb v9
/-- A box for a node that was just made. -/
structure Box10 (w : World) (w' : World) : Prop where
  bel : Below w.heap.size w w'
  blk : Blk w' w.heap.size z10 43
theorem Box10.new (w : World) : Box10 w (w.alloc (.cells #[.int .i64 0, .int .i64 0, .int .i64 0, .int .i64 0, .int .i64 0, .int .u64 0, .int .u64 0, .int .u64 0, .int .u64 0, .string ⟨#[]⟩] 43)) := ⟨(Below.refl _ _).alloc (Nat.le_refl _) _, Blk.new _ _ _⟩
theorem Box10.later {w w1 w2 : World} (h : Box10 w w1) (hb : Below w1.heap.size w1 w2) : Box10 w w2 := ⟨h.bel.trans (hb.mono h.bel.size), h.blk.later hb⟩
end Go.Proofs.YtacaloddhklkiaaDoor
/- Nodes turned to values of types of their own: walked. -/
namespace Go.Proofs.YtacaloddhklkiaaDoor
open Go Go.RowKit
set_option linter.unusedVariables false
set_option linter.unusedSimpArgs false

end Go.Proofs.YtacaloddhklkiaaDoor
/- The node of a value of a type of its own: walked. -/
namespace Go.Proofs.YtacaloddhklkiaaDoor
open Go Go.RowKit
set_option linter.unusedVariables false
set_option linter.unusedSimpArgs false

end Go.Proofs.YtacaloddhklkiaaDoor
/- Nodes moved: walked. -/
namespace Go.Proofs.YtacaloddhklkiaaDoor
open Go Go.RowKit
set_option linter.unusedVariables false
set_option linter.unusedSimpArgs false

structure MvB (w0 : World) (vs : Array Value) (w : World) : Prop where
  bel : Below w0.heap.size w0 w
  src : Blk w w0.heap.size vs 43
  res : Blk w (w0.heap.size + 1) z10 43
theorem MvB.later {w0 w w' : World} {vs : Array Value} (h : MvB w0 vs w) (hb : Below w.heap.size w w') : MvB w0 vs w' := ⟨h.bel.trans (hb.mono h.bel.size), h.src.later hb, h.res.later hb⟩
theorem MvB.set {w0 w : World} {vs : Array Value} (h : MvB w0 vs w) (o : Nat) (v : Value) : MvB w0 (vs.setIfInBounds o v) (w.setCell ⟨w0.heap.size, o, none⟩ v) :=
  ⟨h.bel.setCell (p := ⟨w0.heap.size, o, none⟩) (Nat.le_refl _) v, h.src.setCell o v, h.res.setCell_ne (a := ⟨w0.heap.size, o, none⟩) (by show w0.heap.size ≠ _; omega) v⟩
theorem MvB.new (w : World) (vs : Array Value) : MvB w vs ((w.alloc (.cells vs 43)).alloc (.cells #[.int .i64 0, .int .i64 0, .int .i64 0, .int .i64 0, .int .i64 0, .int .u64 0, .int .u64 0, .int .u64 0, .int .u64 0, .string ⟨#[]⟩] 43)) :=
  ⟨((Below.refl _ _).alloc (Nat.le_refl _) _).alloc (by simp) _, (Blk.new w vs _).alloc _, by have := Blk.new (w.alloc (.cells vs 43)) z10 43; simpa [z10] using this⟩
end Go.Proofs.YtacaloddhklkiaaDoor
