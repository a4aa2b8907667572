/- Boxes of ten cells. -/
import Derived.Test.YtcgjmnhmhiddkaaGreatDoorM04
import Derived.Lib.OthersKept
namespace Go.Proofs.YtcgjmnhmhiddkaaGreatDoor
open Go Go.RowKit
set_option linter.unusedVariables false
def ndC (n : Nd) : Array Value := #[.int .i64 n.kind, .int .i64 n.a, .int .i64 n.b, .int .i64 n.lo, .int .i64 n.hi, .int .u64 (wd n.cls 0), .int .u64 (wd n.cls 1), .int .u64 (wd n.cls 2), .int .u64 (wd n.cls 3), .string (bs n.text)]
def z10 : Array Value := #[.int .i64 0, .int .i64 0, .int .i64 0, .int .i64 0, .int .i64 0, .int .u64 0, .int .u64 0, .int .u64 0, .int .u64 0, .string ⟨#[]⟩]
theorem Blk.put10 {w : World} {b : Nat} {t : TypeId} {vs : Array Value} (h : Blk w b vs t) {o : Nat} (ho : o < vs.size) (v : Value) : (w.setCell ⟨b, o, none⟩ v).cell? ⟨b, o, none⟩ = some v := by
  rw [(h.setCell o v).cell o]; simp [ho]
section
variable {w : World} {b : Nat} {t : TypeId} {c0 c1 c2 c3 c4 c5 c6 c7 c8 c9 : Value}
theorem ten (h : Blk w b #[c0, c1, c2, c3, c4, c5, c6, c7, c8, c9] t) :
    (∀ v0 : Value, (w.setCell ⟨b, 0, none⟩ v0).cell? ⟨b, 0, none⟩ = some v0) ∧ (∀ v0 v1 : Value, ((w.setCell ⟨b, 0, none⟩ v0).setCell ⟨b, 1, none⟩ v1).cell? ⟨b, 1, none⟩ = some v1) ∧ (∀ v0 v1 v2 : Value, (((w.setCell ⟨b, 0, none⟩ v0).setCell ⟨b, 1, none⟩ v1).setCell ⟨b, 2, none⟩ v2).cell? ⟨b, 2, none⟩ = some v2) ∧ (∀ v0 v1 v2 v3 : Value, ((((w.setCell ⟨b, 0, none⟩ v0).setCell ⟨b, 1, none⟩ v1).setCell ⟨b, 2, none⟩ v2).setCell ⟨b, 3, none⟩ v3).cell? ⟨b, 3, none⟩ = some v3) ∧ (∀ v0 v1 v2 v3 v4 : Value, (((((w.setCell ⟨b, 0, none⟩ v0).setCell ⟨b, 1, none⟩ v1).setCell ⟨b, 2, none⟩ v2).setCell ⟨b, 3, none⟩ v3).setCell ⟨b, 4, none⟩ v4).cell? ⟨b, 4, none⟩ = some v4) ∧ (∀ v0 v1 v2 v3 v4 v5 : Value, ((((((w.setCell ⟨b, 0, none⟩ v0).setCell ⟨b, 1, none⟩ v1).setCell ⟨b, 2, none⟩ v2).setCell ⟨b, 3, none⟩ v3).setCell ⟨b, 4, none⟩ v4).setCell ⟨b, 5, none⟩ v5).cell? ⟨b, 5, none⟩ = some v5) ∧ (∀ v0 v1 v2 v3 v4 v5 v6 : Value, (((((((w.setCell ⟨b, 0, none⟩ v0).setCell ⟨b, 1, none⟩ v1).setCell ⟨b, 2, none⟩ v2).setCell ⟨b, 3, none⟩ v3).setCell ⟨b, 4, none⟩ v4).setCell ⟨b, 5, none⟩ v5).setCell ⟨b, 6, none⟩ v6).cell? ⟨b, 6, none⟩ = some v6) ∧ (∀ v0 v1 v2 v3 v4 v5 v6 v7 : Value, ((((((((w.setCell ⟨b, 0, none⟩ v0).setCell ⟨b, 1, none⟩ v1).setCell ⟨b, 2, none⟩ v2).setCell ⟨b, 3, none⟩ v3).setCell ⟨b, 4, none⟩ v4).setCell ⟨b, 5, none⟩ v5).setCell ⟨b, 6, none⟩ v6).setCell ⟨b, 7, none⟩ v7).cell? ⟨b, 7, none⟩ = some v7) ∧ (∀ v0 v1 v2 v3 v4 v5 v6 v7 v8 : Value, (((((((((w.setCell ⟨b, 0, none⟩ v0).setCell ⟨b, 1, none⟩ v1).setCell ⟨b, 2, none⟩ v2).setCell ⟨b, 3, none⟩ v3).setCell ⟨b, 4, none⟩ v4).setCell ⟨b, 5, none⟩ v5).setCell ⟨b, 6, none⟩ v6).setCell ⟨b, 7, none⟩ v7).setCell ⟨b, 8, none⟩ v8).cell? ⟨b, 8, none⟩ = some v8) ∧ (∀ v0 v1 v2 v3 v4 v5 v6 v7 v8 v9 : Value, ((((((((((w.setCell ⟨b, 0, none⟩ v0).setCell ⟨b, 1, none⟩ v1).setCell ⟨b, 2, none⟩ v2).setCell ⟨b, 3, none⟩ v3).setCell ⟨b, 4, none⟩ v4).setCell ⟨b, 5, none⟩ v5).setCell ⟨b, 6, none⟩ v6).setCell ⟨b, 7, none⟩ v7).setCell ⟨b, 8, none⟩ v8).setCell ⟨b, 9, none⟩ v9).cell? ⟨b, 9, none⟩ = some v9) :=
  ⟨fun v0 => (h).put10 (by simp) v0, fun v0 v1 => ((h).setCell 0 v0).put10 (by simp) v1, fun v0 v1 v2 => (((h).setCell 0 v0).setCell 1 v1).put10 (by simp) v2, fun v0 v1 v2 v3 => ((((h).setCell 0 v0).setCell 1 v1).setCell 2 v2).put10 (by simp) v3, fun v0 v1 v2 v3 v4 => (((((h).setCell 0 v0).setCell 1 v1).setCell 2 v2).setCell 3 v3).put10 (by simp) v4, fun v0 v1 v2 v3 v4 v5 => ((((((h).setCell 0 v0).setCell 1 v1).setCell 2 v2).setCell 3 v3).setCell 4 v4).put10 (by simp) v5, fun v0 v1 v2 v3 v4 v5 v6 => (((((((h).setCell 0 v0).setCell 1 v1).setCell 2 v2).setCell 3 v3).setCell 4 v4).setCell 5 v5).put10 (by simp) v6, fun v0 v1 v2 v3 v4 v5 v6 v7 => ((((((((h).setCell 0 v0).setCell 1 v1).setCell 2 v2).setCell 3 v3).setCell 4 v4).setCell 5 v5).setCell 6 v6).put10 (by simp) v7, fun v0 v1 v2 v3 v4 v5 v6 v7 v8 => (((((((((h).setCell 0 v0).setCell 1 v1).setCell 2 v2).setCell 3 v3).setCell 4 v4).setCell 5 v5).setCell 6 v6).setCell 7 v7).put10 (by simp) v8, fun v0 v1 v2 v3 v4 v5 v6 v7 v8 v9 => ((((((((((h).setCell 0 v0).setCell 1 v1).setCell 2 v2).setCell 3 v3).setCell 4 v4).setCell 5 v5).setCell 6 v6).setCell 7 v7).setCell 8 v8).put10 (by simp) v9⟩
theorem ten_cells (h : Blk w b #[c0, c1, c2, c3, c4, c5, c6, c7, c8, c9] t) :
    w.cell? ⟨b, 0, none⟩ = some c0 ∧ w.cell? ⟨b, 1, none⟩ = some c1 ∧ w.cell? ⟨b, 2, none⟩ = some c2 ∧ w.cell? ⟨b, 3, none⟩ = some c3 ∧ w.cell? ⟨b, 4, none⟩ = some c4 ∧ w.cell? ⟨b, 5, none⟩ = some c5 ∧ w.cell? ⟨b, 6, none⟩ = some c6 ∧ w.cell? ⟨b, 7, none⟩ = some c7 ∧ w.cell? ⟨b, 8, none⟩ = some c8 ∧ w.cell? ⟨b, 9, none⟩ = some c9 :=
  ⟨h.cell 0, h.cell 1, h.cell 2, h.cell 3, h.cell 4, h.cell 5, h.cell 6, h.cell 7, h.cell 8, h.cell 9⟩
end
theorem below10 {B : Nat} {a w : World} (h : Below B a w) {b : Nat} (hb : B ≤ b) (v0 v1 v2 v3 v4 v5 v6 v7 v8 v9 : Value) : Below B a ((((((((((w.setCell ⟨b, 0, none⟩ v0).setCell ⟨b, 1, none⟩ v1).setCell ⟨b, 2, none⟩ v2).setCell ⟨b, 3, none⟩ v3).setCell ⟨b, 4, none⟩ v4).setCell ⟨b, 5, none⟩ v5).setCell ⟨b, 6, none⟩ v6).setCell ⟨b, 7, none⟩ v7).setCell ⟨b, 8, none⟩ v8).setCell ⟨b, 9, none⟩ v9) := ((((((((((h).setCell (p := ⟨b, 0, none⟩) hb v0).setCell (p := ⟨b, 1, none⟩) hb v1).setCell (p := ⟨b, 2, none⟩) hb v2).setCell (p := ⟨b, 3, none⟩) hb v3).setCell (p := ⟨b, 4, none⟩) hb v4).setCell (p := ⟨b, 5, none⟩) hb v5).setCell (p := ⟨b, 6, none⟩) hb v6).setCell (p := ⟨b, 7, none⟩) hb v7).setCell (p := ⟨b, 8, none⟩) hb v8).setCell (p := ⟨b, 9, none⟩) hb v9
set_option linter.unusedSimpArgs false
def anyV (k a b lo hi c0 c1 c2 c3 : Int) (s : ByteArray) : Value :=
  if k = 1 then .iface 122 (.agg #[])
  else if k = 2 then .iface 124 (.agg #[.int .u64 c0, .int .u64 c1, .int .u64 c2, .int .u64 c3])
  else if k = 3 then .iface 126 (.agg #[.string s])
  else if k = 6 ∨ k = 8 ∨ k = 9 then .iface 128 (.agg #[.int .i64 k, .int .i64 a])
  else if k = 7 then .iface 131 (.agg #[.int .i64 a, .int .i64 lo, .int .i64 hi])
  else if k = 4 ∨ k = 5 then .iface 133 (.agg #[.int .i64 k, .int .i64 a, .int .i64 b])
  else .nilIface
set_option maxHeartbeats 4000000 in
set_option maxRecDepth 100000 in
theorem turned_raw (k a b lo hi c0 c1 c2 c3 : Int) (s : ByteArray) (w : World) :
    Calls Tryz.prog 64 #[.agg #[.int .i64 k, .int .i64 a, .int .i64 b, .int .i64 lo, .int .i64 hi, .int .u64 c0, .int .u64 c1, .int .u64 c2, .int .u64 c3, .string s]] w (Ans w (anyV k a b lo hi c0 c1 c2 c3 s)) := by
  obtain ⟨V, hV⟩ : ∃ V, V = anyV k a b lo hi c0 c1 c2 c3 s := ⟨_, rfl⟩
  rw [← hV]
  unfold anyV at hV
  by_cases h1 : k = 1
  · subst h1
    rw [if_pos rfl] at hV
    subst hV
    go_enter Tryz.func64, Tryz.ntmps64
    go_wp2
    go_ret
    exact ⟨rfl, (Below.refl _ _).alloc (Nat.le_refl _) _⟩
  by_cases h2 : k = 2
  · subst h2
    rw [if_neg (by decide), if_pos rfl] at hV
    subst hV
    go_enter Tryz.func64, Tryz.ntmps64
    go_wp2
    go_ret
    exact ⟨rfl, (Below.refl _ _).alloc (Nat.le_refl _) _⟩
  by_cases h3 : k = 3
  · subst h3
    rw [if_neg (by decide), if_neg (by decide), if_pos rfl] at hV
    subst hV
    go_enter Tryz.func64, Tryz.ntmps64
    go_wp2
    go_ret
    exact ⟨rfl, (Below.refl _ _).alloc (Nat.le_refl _) _⟩
  rw [if_neg h1, if_neg h2, if_neg h3] at hV
  by_cases h6 : k = 6 ∨ k = 8 ∨ k = 9
  · rw [if_pos h6] at hV
    subst hV
    rcases h6 with rfl | rfl | rfl
    all_goals
      clear h1 h2 h3
      go_enter Tryz.func64, Tryz.ntmps64
      go_wp2
      go_ret
      exact ⟨rfl, (Below.refl _ _).alloc (Nat.le_refl _) _⟩
  rw [if_neg h6] at hV
  by_cases h7 : k = 7
  · rw [if_pos h7] at hV
    subst hV
    subst h7
    clear h1 h2 h3 h6
    go_enter Tryz.func64, Tryz.ntmps64
    go_wp2
    go_ret
    exact ⟨rfl, (Below.refl _ _).alloc (Nat.le_refl _) _⟩
  rw [if_neg h7] at hV
  by_cases h4 : k = 4 ∨ k = 5
  · rw [if_pos h4] at hV
    subst hV
    rcases h4 with rfl | rfl
    all_goals
      clear h1 h2 h3 h6 h7
      go_enter Tryz.func64, Tryz.ntmps64
      go_wp2
      go_ret
      exact ⟨rfl, (Below.refl _ _).alloc (Nat.le_refl _) _⟩
  rw [if_neg h4] at hV
  subst hV
  have g1 : (k == 1) = false := by rw [beq_eq_false_iff_ne]; omega
  have g2 : (k == 2) = false := by rw [beq_eq_false_iff_ne]; omega
  have g3 : (k == 3) = false := by rw [beq_eq_false_iff_ne]; omega
  have g4 : (k == 4) = false := by rw [beq_eq_false_iff_ne]; omega
  have g5 : (k == 5) = false := by rw [beq_eq_false_iff_ne]; omega
  have g6 : (k == 6) = false := by rw [beq_eq_false_iff_ne]; omega
  have g7 : (k == 7) = false := by rw [beq_eq_false_iff_ne]; omega
  have g8 : (k == 8) = false := by rw [beq_eq_false_iff_ne]; omega
  have g9 : (k == 9) = false := by rw [beq_eq_false_iff_ne]; omega
  clear h1 h2 h3 h6 h7 h4
  go_enter Tryz.func64, Tryz.ntmps64
  go_wp2
  go_ret
  exact ⟨rfl, (Below.refl _ _).alloc (Nat.le_refl _) _⟩
theorem as_empty_one (v : Value) (w : World) : (Instr.typeAssert (.iface 122 v) 20 128 true).run Tryz.prog w = .ok (.tuple #[.agg #[.int .i64 0, .int .i64 0], .bool false]) w := by kernel_rfl
theorem as_empty_times (v : Value) (w : World) : (Instr.typeAssert (.iface 122 v) 20 131 true).run Tryz.prog w = .ok (.tuple #[.agg #[.int .i64 0, .int .i64 0, .int .i64 0], .bool false]) w := by kernel_rfl
theorem as_empty_two (v : Value) (w : World) : (Instr.typeAssert (.iface 122 v) 20 133 true).run Tryz.prog w = .ok (.tuple #[.agg #[.int .i64 0, .int .i64 0, .int .i64 0], .bool false]) w := by kernel_rfl
theorem as_set_one (v : Value) (w : World) : (Instr.typeAssert (.iface 124 v) 20 128 true).run Tryz.prog w = .ok (.tuple #[.agg #[.int .i64 0, .int .i64 0], .bool false]) w := by kernel_rfl
theorem as_set_times (v : Value) (w : World) : (Instr.typeAssert (.iface 124 v) 20 131 true).run Tryz.prog w = .ok (.tuple #[.agg #[.int .i64 0, .int .i64 0, .int .i64 0], .bool false]) w := by kernel_rfl
theorem as_set_two (v : Value) (w : World) : (Instr.typeAssert (.iface 124 v) 20 133 true).run Tryz.prog w = .ok (.tuple #[.agg #[.int .i64 0, .int .i64 0, .int .i64 0], .bool false]) w := by kernel_rfl
theorem as_text_one (v : Value) (w : World) : (Instr.typeAssert (.iface 126 v) 20 128 true).run Tryz.prog w = .ok (.tuple #[.agg #[.int .i64 0, .int .i64 0], .bool false]) w := by kernel_rfl
theorem as_text_times (v : Value) (w : World) : (Instr.typeAssert (.iface 126 v) 20 131 true).run Tryz.prog w = .ok (.tuple #[.agg #[.int .i64 0, .int .i64 0, .int .i64 0], .bool false]) w := by kernel_rfl
theorem as_text_two (v : Value) (w : World) : (Instr.typeAssert (.iface 126 v) 20 133 true).run Tryz.prog w = .ok (.tuple #[.agg #[.int .i64 0, .int .i64 0, .int .i64 0], .bool false]) w := by kernel_rfl
theorem as_one_one (v : Value) (w : World) : (Instr.typeAssert (.iface 128 v) 20 128 true).run Tryz.prog w = .ok (.tuple #[v, .bool true]) w := by kernel_rfl
theorem as_one_times (v : Value) (w : World) : (Instr.typeAssert (.iface 128 v) 20 131 true).run Tryz.prog w = .ok (.tuple #[.agg #[.int .i64 0, .int .i64 0, .int .i64 0], .bool false]) w := by kernel_rfl
theorem as_one_two (v : Value) (w : World) : (Instr.typeAssert (.iface 128 v) 20 133 true).run Tryz.prog w = .ok (.tuple #[.agg #[.int .i64 0, .int .i64 0, .int .i64 0], .bool false]) w := by kernel_rfl
theorem as_times_one (v : Value) (w : World) : (Instr.typeAssert (.iface 131 v) 20 128 true).run Tryz.prog w = .ok (.tuple #[.agg #[.int .i64 0, .int .i64 0], .bool false]) w := by kernel_rfl
theorem as_times_times (v : Value) (w : World) : (Instr.typeAssert (.iface 131 v) 20 131 true).run Tryz.prog w = .ok (.tuple #[v, .bool true]) w := by kernel_rfl
theorem as_times_two (v : Value) (w : World) : (Instr.typeAssert (.iface 131 v) 20 133 true).run Tryz.prog w = .ok (.tuple #[.agg #[.int .i64 0, .int .i64 0, .int .i64 0], .bool false]) w := by kernel_rfl
theorem as_two_one (v : Value) (w : World) : (Instr.typeAssert (.iface 133 v) 20 128 true).run Tryz.prog w = .ok (.tuple #[.agg #[.int .i64 0, .int .i64 0], .bool false]) w := by kernel_rfl
theorem as_two_times (v : Value) (w : World) : (Instr.typeAssert (.iface 133 v) 20 131 true).run Tryz.prog w = .ok (.tuple #[.agg #[.int .i64 0, .int .i64 0, .int .i64 0], .bool false]) w := by kernel_rfl
theorem as_two_two (v : Value) (w : World) : (Instr.typeAssert (.iface 133 v) 20 133 true).run Tryz.prog w = .ok (.tuple #[v, .bool true]) w := by kernel_rfl
theorem as_nil_one (w : World) : (Instr.typeAssert .nilIface 20 128 true).run Tryz.prog w = .ok (.tuple #[.agg #[.int .i64 0, .int .i64 0], .bool false]) w := by kernel_rfl
theorem as_nil_times (w : World) : (Instr.typeAssert .nilIface 20 131 true).run Tryz.prog w = .ok (.tuple #[.agg #[.int .i64 0, .int .i64 0, .int .i64 0], .bool false]) w := by kernel_rfl
theorem as_nil_two (w : World) : (Instr.typeAssert .nilIface 20 133 true).run Tryz.prog w = .ok (.tuple #[.agg #[.int .i64 0, .int .i64 0, .int .i64 0], .bool false]) w := by kernel_rfl
structure MvB (w0 : World) (vs : Array Value) (w : World) : Prop where
  bel : Below w0.heap.size w0 w
  src : Blk w w0.heap.size vs 44
  res : Blk w (w0.heap.size + 1) z10 44
theorem MvB.later {w0 w w' : World} {vs : Array Value} (h : MvB w0 vs w) (hb : Below w.heap.size w w') : MvB w0 vs w' := ⟨h.bel.trans (hb.mono h.bel.size), h.src.later hb, h.res.later hb⟩
theorem MvB.set {w0 w : World} {vs : Array Value} (h : MvB w0 vs w) (o : Nat) (v : Value) : MvB w0 (vs.setIfInBounds o v) (w.setCell ⟨w0.heap.size, o, none⟩ v) :=
  ⟨h.bel.setCell (p := ⟨w0.heap.size, o, none⟩) (Nat.le_refl _) v, h.src.setCell o v, h.res.setCell_ne (a := ⟨w0.heap.size, o, none⟩) (by show w0.heap.size ≠ _; omega) v⟩
theorem MvB.new (w : World) (vs : Array Value) : MvB w vs ((w.alloc (.cells vs 44)).alloc (.cells #[.int .i64 0, .int .i64 0, .int .i64 0, .int .i64 0, .int .i64 0, .int .u64 0, .int .u64 0, .int .u64 0, .int .u64 0, .string ⟨#[]⟩] 44)) :=
  ⟨((Below.refl _ _).alloc (Nat.le_refl _) _).alloc (by simp) _, (Blk.new w vs _).alloc _, by have := Blk.new (w.alloc (.cells vs 44)) z10 44; simpa [z10] using this⟩
theorem turned_empty (a b lo hi c0 c1 c2 c3 : Int) (s : ByteArray) (w : World) : Calls Tryz.prog 64 #[.agg #[.int .i64 1, .int .i64 a, .int .i64 b, .int .i64 lo, .int .i64 hi, .int .u64 c0, .int .u64 c1, .int .u64 c2, .int .u64 c3, .string s]] w (Ans w (.iface 122 (.agg #[]))) := by
  have h := turned_raw 1 a b lo hi c0 c1 c2 c3 s w
  have e : anyV 1 a b lo hi c0 c1 c2 c3 s = .iface 122 (.agg #[]) := by unfold anyV; simp
  rw [e] at h; exact h
theorem turned_set (a b lo hi c0 c1 c2 c3 : Int) (s : ByteArray) (w : World) : Calls Tryz.prog 64 #[.agg #[.int .i64 2, .int .i64 a, .int .i64 b, .int .i64 lo, .int .i64 hi, .int .u64 c0, .int .u64 c1, .int .u64 c2, .int .u64 c3, .string s]] w (Ans w (.iface 124 (.agg #[.int .u64 c0, .int .u64 c1, .int .u64 c2, .int .u64 c3]))) := by
  have h := turned_raw 2 a b lo hi c0 c1 c2 c3 s w
  have e : anyV 2 a b lo hi c0 c1 c2 c3 s = .iface 124 (.agg #[.int .u64 c0, .int .u64 c1, .int .u64 c2, .int .u64 c3]) := by unfold anyV; simp
  rw [e] at h; exact h
theorem turned_text (a b lo hi c0 c1 c2 c3 : Int) (s : ByteArray) (w : World) : Calls Tryz.prog 64 #[.agg #[.int .i64 3, .int .i64 a, .int .i64 b, .int .i64 lo, .int .i64 hi, .int .u64 c0, .int .u64 c1, .int .u64 c2, .int .u64 c3, .string s]] w (Ans w (.iface 126 (.agg #[.string s]))) := by
  have h := turned_raw 3 a b lo hi c0 c1 c2 c3 s w
  have e : anyV 3 a b lo hi c0 c1 c2 c3 s = .iface 126 (.agg #[.string s]) := by unfold anyV; simp
  rw [e] at h; exact h
theorem turned_one (k a b lo hi c0 c1 c2 c3 : Int) (s : ByteArray) (hk : k = 6 ∨ k = 8 ∨ k = 9) (w : World) : Calls Tryz.prog 64 #[.agg #[.int .i64 k, .int .i64 a, .int .i64 b, .int .i64 lo, .int .i64 hi, .int .u64 c0, .int .u64 c1, .int .u64 c2, .int .u64 c3, .string s]] w (Ans w (.iface 128 (.agg #[.int .i64 k, .int .i64 a]))) := by
  have h := turned_raw k a b lo hi c0 c1 c2 c3 s w
  have e : anyV k a b lo hi c0 c1 c2 c3 s = .iface 128 (.agg #[.int .i64 k, .int .i64 a]) := by unfold anyV; rcases hk with rfl | rfl | rfl <;> simp
  rw [e] at h; exact h
theorem turned_times (a b lo hi c0 c1 c2 c3 : Int) (s : ByteArray) (w : World) : Calls Tryz.prog 64 #[.agg #[.int .i64 7, .int .i64 a, .int .i64 b, .int .i64 lo, .int .i64 hi, .int .u64 c0, .int .u64 c1, .int .u64 c2, .int .u64 c3, .string s]] w (Ans w (.iface 131 (.agg #[.int .i64 a, .int .i64 lo, .int .i64 hi]))) := by
  have h := turned_raw 7 a b lo hi c0 c1 c2 c3 s w
  have e : anyV 7 a b lo hi c0 c1 c2 c3 s = .iface 131 (.agg #[.int .i64 a, .int .i64 lo, .int .i64 hi]) := by unfold anyV; simp
  rw [e] at h; exact h
theorem turned_two (k a b lo hi c0 c1 c2 c3 : Int) (s : ByteArray) (hk : k = 4 ∨ k = 5) (w : World) : Calls Tryz.prog 64 #[.agg #[.int .i64 k, .int .i64 a, .int .i64 b, .int .i64 lo, .int .i64 hi, .int .u64 c0, .int .u64 c1, .int .u64 c2, .int .u64 c3, .string s]] w (Ans w (.iface 133 (.agg #[.int .i64 k, .int .i64 a, .int .i64 b]))) := by
  have h := turned_raw k a b lo hi c0 c1 c2 c3 s w
  have e : anyV k a b lo hi c0 c1 c2 c3 s = .iface 133 (.agg #[.int .i64 k, .int .i64 a, .int .i64 b]) := by unfold anyV; rcases hk with rfl | rfl <;> simp
  rw [e] at h; exact h
theorem turned_nil (k a b lo hi c0 c1 c2 c3 : Int) (s : ByteArray) (h4 : ¬ (4 ≤ k ∧ k ≤ 9)) (h1 : k ≠ 1) (h2 : k ≠ 2) (h3 : k ≠ 3) (w : World) : Calls Tryz.prog 64 #[.agg #[.int .i64 k, .int .i64 a, .int .i64 b, .int .i64 lo, .int .i64 hi, .int .u64 c0, .int .u64 c1, .int .u64 c2, .int .u64 c3, .string s]] w (Ans w (.nilIface)) := by
  have h := turned_raw k a b lo hi c0 c1 c2 c3 s w
  have e : anyV k a b lo hi c0 c1 c2 c3 s = .nilIface := by unfold anyV; rw [if_neg h1, if_neg h2, if_neg h3, if_neg (by omega), if_neg (by omega), if_neg (by omega)]
  rw [e] at h; exact h
set_option maxHeartbeats 8000000 in
set_option maxRecDepth 100000 in
theorem moved_empty (a b lo hi c0 c1 c2 c3 d : Int) (s : ByteArray) (hs : s.size ≤ 281474976710656) (w : World) : Calls Tryz.prog 186 #[.agg #[.int .i64 1, .int .i64 a, .int .i64 b, .int .i64 lo, .int .i64 hi, .int .u64 c0, .int .u64 c1, .int .u64 c2, .int .u64 c3, .string s], .int .i64 d] w (Ans w (.agg #[.int .i64 1, .int .i64 a, .int .i64 b, .int .i64 lo, .int .i64 hi, .int .u64 c0, .int .u64 c1, .int .u64 c2, .int .u64 c3, .string s])) := by
  have hone := as_empty_one
  have htimes := as_empty_times
  have htwo := as_empty_two
  have TU := Lib.hid (fun w => turned_empty a b lo hi c0 c1 c2 c3 s w)
  go_enter Tryz.func186, Tryz.ntmps186
  go_wp2_with fail
  refine (TU.out _).mono ?_; rintro e w1 ⟨rfl, hb1⟩
  have H1 := Lib.hid ((MvB.new w #[.int .i64 1, .int .i64 a, .int .i64 b, .int .i64 lo, .int .i64 hi, .int .u64 c0, .int .u64 c1, .int .u64 c2, .int .u64 c3, .string s]).later hb1)
  clear hb1 TU
  have g1 := H1.out.src
  have ef1 := g1.frozen
  obtain ⟨e0, e1, e2, e3, e4, e5, e6, e7, e8, e9⟩ := ten_cells g1
  clear g1
  go_wp2_with fail
  refine (clone_any _ _ hs).mono ?_; rintro e wc ⟨rfl, hbc⟩
  have HC := Lib.hid (H1.out.later hbc)
  clear hbc e0 e1 e2 e3 e4 e5 e6 e7 e8 e9 ef1
  have g := HC.out.src
  have ef := g.frozen
  obtain ⟨e0, e1, e2, e3, e4, e5, e6, e7, e8, e9⟩ := ten_cells g
  clear g
  go_upto_region 8 with (fail)
  have HD : Hid (MvB w #[.int .i64 1, .int .i64 a, .int .i64 b, .int .i64 lo, .int .i64 hi, .int .u64 c0, .int .u64 c1, .int .u64 c2, .int .u64 c3, .string s] _) := HC.out.set 9 (.string s)
  generalize wc.setCell ⟨w.heap.size, 9, none⟩ (.string s) = wd at *
  clear e0 e1 e2 e3 e4 e5 e6 e7 e8 e9 ef
  have g := HD.out.src
  obtain ⟨e0, e1, e2, e3, e4, e5, e6, e7, e8, e9⟩ := ten_cells g
  clear g
  have hk := HD.out.res
  unfold z10 at hk
  have ef := hk.frozen
  obtain ⟨r0, r1, r2, r3, r4, r5, r6, r7, r8, r9⟩ := ten_cells hk
  obtain ⟨s0, s1, s2, s3, s4, s5, s6, s7, s8, s9⟩ := ten hk
  clear hk
  go_wp2
  exact bodyPost_ret (v := .agg #[.int .i64 1, .int .i64 a, .int .i64 b, .int .i64 lo, .int .i64 hi, .int .u64 c0, .int .u64 c1, .int .u64 c2, .int .u64 c3, .string s]) (by simp [results, Tryz.results186, go_sem, s0, s1, s2, s3, s4, s5, s6, s7, s8, s9]) rfl ⟨rfl, below10 HD.out.bel (Nat.le_succ _) _ _ _ _ _ _ _ _ _ _⟩
set_option maxHeartbeats 8000000 in
set_option maxRecDepth 100000 in
theorem moved_set (a b lo hi c0 c1 c2 c3 d : Int) (s : ByteArray) (hs : s.size ≤ 281474976710656) (w : World) : Calls Tryz.prog 186 #[.agg #[.int .i64 2, .int .i64 a, .int .i64 b, .int .i64 lo, .int .i64 hi, .int .u64 c0, .int .u64 c1, .int .u64 c2, .int .u64 c3, .string s], .int .i64 d] w (Ans w (.agg #[.int .i64 2, .int .i64 a, .int .i64 b, .int .i64 lo, .int .i64 hi, .int .u64 c0, .int .u64 c1, .int .u64 c2, .int .u64 c3, .string s])) := by
  have hone := as_set_one
  have htimes := as_set_times
  have htwo := as_set_two
  have TU := Lib.hid (fun w => turned_set a b lo hi c0 c1 c2 c3 s w)
  go_enter Tryz.func186, Tryz.ntmps186
  go_wp2_with fail
  refine (TU.out _).mono ?_; rintro e w1 ⟨rfl, hb1⟩
  have H1 := Lib.hid ((MvB.new w #[.int .i64 2, .int .i64 a, .int .i64 b, .int .i64 lo, .int .i64 hi, .int .u64 c0, .int .u64 c1, .int .u64 c2, .int .u64 c3, .string s]).later hb1)
  clear hb1 TU
  have g1 := H1.out.src
  have ef1 := g1.frozen
  obtain ⟨e0, e1, e2, e3, e4, e5, e6, e7, e8, e9⟩ := ten_cells g1
  clear g1
  go_wp2_with fail
  refine (clone_any _ _ hs).mono ?_; rintro e wc ⟨rfl, hbc⟩
  have HC := Lib.hid (H1.out.later hbc)
  clear hbc e0 e1 e2 e3 e4 e5 e6 e7 e8 e9 ef1
  have g := HC.out.src
  have ef := g.frozen
  obtain ⟨e0, e1, e2, e3, e4, e5, e6, e7, e8, e9⟩ := ten_cells g
  clear g
  go_upto_region 8 with (fail)
  have HD : Hid (MvB w #[.int .i64 2, .int .i64 a, .int .i64 b, .int .i64 lo, .int .i64 hi, .int .u64 c0, .int .u64 c1, .int .u64 c2, .int .u64 c3, .string s] _) := HC.out.set 9 (.string s)
  generalize wc.setCell ⟨w.heap.size, 9, none⟩ (.string s) = wd at *
  clear e0 e1 e2 e3 e4 e5 e6 e7 e8 e9 ef
  have g := HD.out.src
  obtain ⟨e0, e1, e2, e3, e4, e5, e6, e7, e8, e9⟩ := ten_cells g
  clear g
  have hk := HD.out.res
  unfold z10 at hk
  have ef := hk.frozen
  obtain ⟨r0, r1, r2, r3, r4, r5, r6, r7, r8, r9⟩ := ten_cells hk
  obtain ⟨s0, s1, s2, s3, s4, s5, s6, s7, s8, s9⟩ := ten hk
  clear hk
  go_wp2
  exact bodyPost_ret (v := .agg #[.int .i64 2, .int .i64 a, .int .i64 b, .int .i64 lo, .int .i64 hi, .int .u64 c0, .int .u64 c1, .int .u64 c2, .int .u64 c3, .string s]) (by simp [results, Tryz.results186, go_sem, s0, s1, s2, s3, s4, s5, s6, s7, s8, s9]) rfl ⟨rfl, below10 HD.out.bel (Nat.le_succ _) _ _ _ _ _ _ _ _ _ _⟩
set_option maxHeartbeats 8000000 in
set_option maxRecDepth 100000 in
theorem moved_text (a b lo hi c0 c1 c2 c3 d : Int) (s : ByteArray) (hs : s.size ≤ 281474976710656) (w : World) : Calls Tryz.prog 186 #[.agg #[.int .i64 3, .int .i64 a, .int .i64 b, .int .i64 lo, .int .i64 hi, .int .u64 c0, .int .u64 c1, .int .u64 c2, .int .u64 c3, .string s], .int .i64 d] w (Ans w (.agg #[.int .i64 3, .int .i64 a, .int .i64 b, .int .i64 lo, .int .i64 hi, .int .u64 c0, .int .u64 c1, .int .u64 c2, .int .u64 c3, .string s])) := by
  have hone := as_text_one
  have htimes := as_text_times
  have htwo := as_text_two
  have TU := Lib.hid (fun w => turned_text a b lo hi c0 c1 c2 c3 s w)
  go_enter Tryz.func186, Tryz.ntmps186
  go_wp2_with fail
  refine (TU.out _).mono ?_; rintro e w1 ⟨rfl, hb1⟩
  have H1 := Lib.hid ((MvB.new w #[.int .i64 3, .int .i64 a, .int .i64 b, .int .i64 lo, .int .i64 hi, .int .u64 c0, .int .u64 c1, .int .u64 c2, .int .u64 c3, .string s]).later hb1)
  clear hb1 TU
  have g1 := H1.out.src
  have ef1 := g1.frozen
  obtain ⟨e0, e1, e2, e3, e4, e5, e6, e7, e8, e9⟩ := ten_cells g1
  clear g1
  go_wp2_with fail
  refine (clone_any _ _ hs).mono ?_; rintro e wc ⟨rfl, hbc⟩
  have HC := Lib.hid (H1.out.later hbc)
  clear hbc e0 e1 e2 e3 e4 e5 e6 e7 e8 e9 ef1
  have g := HC.out.src
  have ef := g.frozen
  obtain ⟨e0, e1, e2, e3, e4, e5, e6, e7, e8, e9⟩ := ten_cells g
  clear g
  go_upto_region 8 with (fail)
  have HD : Hid (MvB w #[.int .i64 3, .int .i64 a, .int .i64 b, .int .i64 lo, .int .i64 hi, .int .u64 c0, .int .u64 c1, .int .u64 c2, .int .u64 c3, .string s] _) := HC.out.set 9 (.string s)
  generalize wc.setCell ⟨w.heap.size, 9, none⟩ (.string s) = wd at *
  clear e0 e1 e2 e3 e4 e5 e6 e7 e8 e9 ef
  have g := HD.out.src
  obtain ⟨e0, e1, e2, e3, e4, e5, e6, e7, e8, e9⟩ := ten_cells g
  clear g
  have hk := HD.out.res
  unfold z10 at hk
  have ef := hk.frozen
  obtain ⟨r0, r1, r2, r3, r4, r5, r6, r7, r8, r9⟩ := ten_cells hk
  obtain ⟨s0, s1, s2, s3, s4, s5, s6, s7, s8, s9⟩ := ten hk
  clear hk
  go_wp2
  exact bodyPost_ret (v := .agg #[.int .i64 3, .int .i64 a, .int .i64 b, .int .i64 lo, .int .i64 hi, .int .u64 c0, .int .u64 c1, .int .u64 c2, .int .u64 c3, .string s]) (by simp [results, Tryz.results186, go_sem, s0, s1, s2, s3, s4, s5, s6, s7, s8, s9]) rfl ⟨rfl, below10 HD.out.bel (Nat.le_succ _) _ _ _ _ _ _ _ _ _ _⟩
set_option maxHeartbeats 8000000 in
set_option maxRecDepth 100000 in
theorem moved_one (k a b lo hi c0 c1 c2 c3 d : Int) (s : ByteArray) (hk : k = 6 ∨ k = 8 ∨ k = 9) (ha : IntKind.i64.wrap (a + d) = a + d) (hs : s.size ≤ 281474976710656) (w : World) : Calls Tryz.prog 186 #[.agg #[.int .i64 k, .int .i64 a, .int .i64 b, .int .i64 lo, .int .i64 hi, .int .u64 c0, .int .u64 c1, .int .u64 c2, .int .u64 c3, .string s], .int .i64 d] w (Ans w (.agg #[.int .i64 k, .int .i64 (a + d), .int .i64 b, .int .i64 lo, .int .i64 hi, .int .u64 c0, .int .u64 c1, .int .u64 c2, .int .u64 c3, .string s])) := by
  have hone := as_one_one
  have htimes := as_one_times
  have htwo := as_one_two
  have HWA := Lib.hid ha
  clear ha
  have TU := Lib.hid (fun w => turned_one k a b lo hi c0 c1 c2 c3 s hk w)
  clear hk
  go_enter Tryz.func186, Tryz.ntmps186
  go_wp2_with fail
  refine (TU.out _).mono ?_; rintro e w1 ⟨rfl, hb1⟩
  have H1 := Lib.hid ((MvB.new w #[.int .i64 k, .int .i64 a, .int .i64 b, .int .i64 lo, .int .i64 hi, .int .u64 c0, .int .u64 c1, .int .u64 c2, .int .u64 c3, .string s]).later hb1)
  clear hb1 TU
  have g1 := H1.out.src
  have ef1 := g1.frozen
  obtain ⟨e0, e1, e2, e3, e4, e5, e6, e7, e8, e9⟩ := ten_cells g1
  clear g1
  have hwa := HWA.out
  go_upto_region 7 with (fail)
  have H2 : Hid (MvB w #[.int .i64 k, .int .i64 (a + d), .int .i64 b, .int .i64 lo, .int .i64 hi, .int .u64 c0, .int .u64 c1, .int .u64 c2, .int .u64 c3, .string s] _) := H1.out.set 1 (.int .i64 (a + d))
  generalize w1.setCell ⟨w.heap.size, 1, none⟩ (.int .i64 (a + d)) = w2 at *
  clear e0 e1 e2 e3 e4 e5 e6 e7 e8 e9 ef1 hwa
  have g2 := H2.out.src
  have ef2 := g2.frozen
  obtain ⟨e0, e1, e2, e3, e4, e5, e6, e7, e8, e9⟩ := ten_cells g2
  clear g2
  go_wp2_with fail
  refine (clone_any _ _ hs).mono ?_; rintro e wc ⟨rfl, hbc⟩
  have HC := Lib.hid (H2.out.later hbc)
  clear hbc e0 e1 e2 e3 e4 e5 e6 e7 e8 e9 ef2
  have g := HC.out.src
  have ef := g.frozen
  obtain ⟨e0, e1, e2, e3, e4, e5, e6, e7, e8, e9⟩ := ten_cells g
  clear g
  go_upto_region 8 with (fail)
  have HD : Hid (MvB w #[.int .i64 k, .int .i64 (a + d), .int .i64 b, .int .i64 lo, .int .i64 hi, .int .u64 c0, .int .u64 c1, .int .u64 c2, .int .u64 c3, .string s] _) := HC.out.set 9 (.string s)
  generalize wc.setCell ⟨w.heap.size, 9, none⟩ (.string s) = wd at *
  clear e0 e1 e2 e3 e4 e5 e6 e7 e8 e9 ef
  have g := HD.out.src
  obtain ⟨e0, e1, e2, e3, e4, e5, e6, e7, e8, e9⟩ := ten_cells g
  clear g
  have hk := HD.out.res
  unfold z10 at hk
  have ef := hk.frozen
  obtain ⟨r0, r1, r2, r3, r4, r5, r6, r7, r8, r9⟩ := ten_cells hk
  obtain ⟨s0, s1, s2, s3, s4, s5, s6, s7, s8, s9⟩ := ten hk
  clear hk
  go_wp2
  exact bodyPost_ret (v := .agg #[.int .i64 k, .int .i64 (a + d), .int .i64 b, .int .i64 lo, .int .i64 hi, .int .u64 c0, .int .u64 c1, .int .u64 c2, .int .u64 c3, .string s]) (by simp [results, Tryz.results186, go_sem, s0, s1, s2, s3, s4, s5, s6, s7, s8, s9]) rfl ⟨rfl, below10 HD.out.bel (Nat.le_succ _) _ _ _ _ _ _ _ _ _ _⟩
set_option maxHeartbeats 8000000 in
set_option maxRecDepth 100000 in
theorem moved_times (a b lo hi c0 c1 c2 c3 d : Int) (s : ByteArray) (ha : IntKind.i64.wrap (a + d) = a + d) (hs : s.size ≤ 281474976710656) (w : World) : Calls Tryz.prog 186 #[.agg #[.int .i64 7, .int .i64 a, .int .i64 b, .int .i64 lo, .int .i64 hi, .int .u64 c0, .int .u64 c1, .int .u64 c2, .int .u64 c3, .string s], .int .i64 d] w (Ans w (.agg #[.int .i64 7, .int .i64 (a + d), .int .i64 b, .int .i64 lo, .int .i64 hi, .int .u64 c0, .int .u64 c1, .int .u64 c2, .int .u64 c3, .string s])) := by
  have hone := as_times_one
  have htimes := as_times_times
  have htwo := as_times_two
  have HWA := Lib.hid ha
  clear ha
  have TU := Lib.hid (fun w => turned_times a b lo hi c0 c1 c2 c3 s w)
  go_enter Tryz.func186, Tryz.ntmps186
  go_wp2_with fail
  refine (TU.out _).mono ?_; rintro e w1 ⟨rfl, hb1⟩
  have H1 := Lib.hid ((MvB.new w #[.int .i64 7, .int .i64 a, .int .i64 b, .int .i64 lo, .int .i64 hi, .int .u64 c0, .int .u64 c1, .int .u64 c2, .int .u64 c3, .string s]).later hb1)
  clear hb1 TU
  have g1 := H1.out.src
  have ef1 := g1.frozen
  obtain ⟨e0, e1, e2, e3, e4, e5, e6, e7, e8, e9⟩ := ten_cells g1
  clear g1
  have hwa := HWA.out
  go_upto_region 7 with (fail)
  have H2 : Hid (MvB w #[.int .i64 7, .int .i64 (a + d), .int .i64 b, .int .i64 lo, .int .i64 hi, .int .u64 c0, .int .u64 c1, .int .u64 c2, .int .u64 c3, .string s] _) := H1.out.set 1 (.int .i64 (a + d))
  generalize w1.setCell ⟨w.heap.size, 1, none⟩ (.int .i64 (a + d)) = w2 at *
  clear e0 e1 e2 e3 e4 e5 e6 e7 e8 e9 ef1 hwa
  have g2 := H2.out.src
  have ef2 := g2.frozen
  obtain ⟨e0, e1, e2, e3, e4, e5, e6, e7, e8, e9⟩ := ten_cells g2
  clear g2
  go_wp2_with fail
  refine (clone_any _ _ hs).mono ?_; rintro e wc ⟨rfl, hbc⟩
  have HC := Lib.hid (H2.out.later hbc)
  clear hbc e0 e1 e2 e3 e4 e5 e6 e7 e8 e9 ef2
  have g := HC.out.src
  have ef := g.frozen
  obtain ⟨e0, e1, e2, e3, e4, e5, e6, e7, e8, e9⟩ := ten_cells g
  clear g
  go_upto_region 8 with (fail)
  have HD : Hid (MvB w #[.int .i64 7, .int .i64 (a + d), .int .i64 b, .int .i64 lo, .int .i64 hi, .int .u64 c0, .int .u64 c1, .int .u64 c2, .int .u64 c3, .string s] _) := HC.out.set 9 (.string s)
  generalize wc.setCell ⟨w.heap.size, 9, none⟩ (.string s) = wd at *
  clear e0 e1 e2 e3 e4 e5 e6 e7 e8 e9 ef
  have g := HD.out.src
  obtain ⟨e0, e1, e2, e3, e4, e5, e6, e7, e8, e9⟩ := ten_cells g
  clear g
  have hk := HD.out.res
  unfold z10 at hk
  have ef := hk.frozen
  obtain ⟨r0, r1, r2, r3, r4, r5, r6, r7, r8, r9⟩ := ten_cells hk
  obtain ⟨s0, s1, s2, s3, s4, s5, s6, s7, s8, s9⟩ := ten hk
  clear hk
  go_wp2
  exact bodyPost_ret (v := .agg #[.int .i64 7, .int .i64 (a + d), .int .i64 b, .int .i64 lo, .int .i64 hi, .int .u64 c0, .int .u64 c1, .int .u64 c2, .int .u64 c3, .string s]) (by simp [results, Tryz.results186, go_sem, s0, s1, s2, s3, s4, s5, s6, s7, s8, s9]) rfl ⟨rfl, below10 HD.out.bel (Nat.le_succ _) _ _ _ _ _ _ _ _ _ _⟩
set_option maxHeartbeats 8000000 in
set_option maxRecDepth 100000 in
theorem moved_two (k a b lo hi c0 c1 c2 c3 d : Int) (s : ByteArray) (hk : k = 4 ∨ k = 5) (ha : IntKind.i64.wrap (a + d) = a + d) (hb : IntKind.i64.wrap (b + d) = b + d) (hs : s.size ≤ 281474976710656) (w : World) : Calls Tryz.prog 186 #[.agg #[.int .i64 k, .int .i64 a, .int .i64 b, .int .i64 lo, .int .i64 hi, .int .u64 c0, .int .u64 c1, .int .u64 c2, .int .u64 c3, .string s], .int .i64 d] w (Ans w (.agg #[.int .i64 k, .int .i64 (a + d), .int .i64 (b + d), .int .i64 lo, .int .i64 hi, .int .u64 c0, .int .u64 c1, .int .u64 c2, .int .u64 c3, .string s])) := by
  have hone := as_two_one
  have htimes := as_two_times
  have htwo := as_two_two
  have HWA := Lib.hid ha
  clear ha
  have HWB := Lib.hid hb
  clear hb
  have TU := Lib.hid (fun w => turned_two k a b lo hi c0 c1 c2 c3 s hk w)
  clear hk
  go_enter Tryz.func186, Tryz.ntmps186
  go_wp2_with fail
  refine (TU.out _).mono ?_; rintro e w1 ⟨rfl, hb1⟩
  have H1 := Lib.hid ((MvB.new w #[.int .i64 k, .int .i64 a, .int .i64 b, .int .i64 lo, .int .i64 hi, .int .u64 c0, .int .u64 c1, .int .u64 c2, .int .u64 c3, .string s]).later hb1)
  clear hb1 TU
  have g1 := H1.out.src
  have ef1 := g1.frozen
  obtain ⟨e0, e1, e2, e3, e4, e5, e6, e7, e8, e9⟩ := ten_cells g1
  clear g1
  have hwa := HWA.out
  go_upto_region 6 with (fail)
  have H2 : Hid (MvB w #[.int .i64 k, .int .i64 (a + d), .int .i64 b, .int .i64 lo, .int .i64 hi, .int .u64 c0, .int .u64 c1, .int .u64 c2, .int .u64 c3, .string s] _) := H1.out.set 1 (.int .i64 (a + d))
  generalize w1.setCell ⟨w.heap.size, 1, none⟩ (.int .i64 (a + d)) = w2 at *
  clear e0 e1 e2 e3 e4 e5 e6 e7 e8 e9 ef1 hwa
  have g2 := H2.out.src
  have ef2 := g2.frozen
  obtain ⟨e0, e1, e2, e3, e4, e5, e6, e7, e8, e9⟩ := ten_cells g2
  clear g2
  have hwb := HWB.out
  go_upto_region 7 with (fail)
  have H3 : Hid (MvB w #[.int .i64 k, .int .i64 (a + d), .int .i64 (b + d), .int .i64 lo, .int .i64 hi, .int .u64 c0, .int .u64 c1, .int .u64 c2, .int .u64 c3, .string s] _) := H2.out.set 2 (.int .i64 (b + d))
  generalize w2.setCell ⟨w.heap.size, 2, none⟩ (.int .i64 (b + d)) = w3 at *
  clear e0 e1 e2 e3 e4 e5 e6 e7 e8 e9 ef2 hwb
  have g3 := H3.out.src
  have ef3 := g3.frozen
  obtain ⟨e0, e1, e2, e3, e4, e5, e6, e7, e8, e9⟩ := ten_cells g3
  clear g3
  go_wp2_with fail
  refine (clone_any _ _ hs).mono ?_; rintro e wc ⟨rfl, hbc⟩
  have HC := Lib.hid (H3.out.later hbc)
  clear hbc e0 e1 e2 e3 e4 e5 e6 e7 e8 e9 ef3
  have g := HC.out.src
  have ef := g.frozen
  obtain ⟨e0, e1, e2, e3, e4, e5, e6, e7, e8, e9⟩ := ten_cells g
  clear g
  go_upto_region 8 with (fail)
  have HD : Hid (MvB w #[.int .i64 k, .int .i64 (a + d), .int .i64 (b + d), .int .i64 lo, .int .i64 hi, .int .u64 c0, .int .u64 c1, .int .u64 c2, .int .u64 c3, .string s] _) := HC.out.set 9 (.string s)
  generalize wc.setCell ⟨w.heap.size, 9, none⟩ (.string s) = wd at *
  clear e0 e1 e2 e3 e4 e5 e6 e7 e8 e9 ef
  have g := HD.out.src
  obtain ⟨e0, e1, e2, e3, e4, e5, e6, e7, e8, e9⟩ := ten_cells g
  clear g
  have hk := HD.out.res
  unfold z10 at hk
  have ef := hk.frozen
  obtain ⟨r0, r1, r2, r3, r4, r5, r6, r7, r8, r9⟩ := ten_cells hk
  obtain ⟨s0, s1, s2, s3, s4, s5, s6, s7, s8, s9⟩ := ten hk
  clear hk
  go_wp2
  exact bodyPost_ret (v := .agg #[.int .i64 k, .int .i64 (a + d), .int .i64 (b + d), .int .i64 lo, .int .i64 hi, .int .u64 c0, .int .u64 c1, .int .u64 c2, .int .u64 c3, .string s]) (by simp [results, Tryz.results186, go_sem, s0, s1, s2, s3, s4, s5, s6, s7, s8, s9]) rfl ⟨rfl, below10 HD.out.bel (Nat.le_succ _) _ _ _ _ _ _ _ _ _ _⟩
set_option maxHeartbeats 8000000 in
set_option maxRecDepth 100000 in
theorem moved_nil (k a b lo hi c0 c1 c2 c3 d : Int) (s : ByteArray) (h4 : ¬ (4 ≤ k ∧ k ≤ 9)) (h1 : k ≠ 1) (h2 : k ≠ 2) (h3 : k ≠ 3) (hs : s.size ≤ 281474976710656) (w : World) : Calls Tryz.prog 186 #[.agg #[.int .i64 k, .int .i64 a, .int .i64 b, .int .i64 lo, .int .i64 hi, .int .u64 c0, .int .u64 c1, .int .u64 c2, .int .u64 c3, .string s], .int .i64 d] w (Ans w (.agg #[.int .i64 k, .int .i64 a, .int .i64 b, .int .i64 lo, .int .i64 hi, .int .u64 c0, .int .u64 c1, .int .u64 c2, .int .u64 c3, .string s])) := by
  have hone := as_nil_one
  have htimes := as_nil_times
  have htwo := as_nil_two
  have TU := Lib.hid (fun w => turned_nil k a b lo hi c0 c1 c2 c3 s h4 h1 h2 h3 w)
  clear h4 h1 h2 h3
  go_enter Tryz.func186, Tryz.ntmps186
  go_wp2_with fail
  refine (TU.out _).mono ?_; rintro e w1 ⟨rfl, hb1⟩
  have H1 := Lib.hid ((MvB.new w #[.int .i64 k, .int .i64 a, .int .i64 b, .int .i64 lo, .int .i64 hi, .int .u64 c0, .int .u64 c1, .int .u64 c2, .int .u64 c3, .string s]).later hb1)
  clear hb1 TU
  have g1 := H1.out.src
  have ef1 := g1.frozen
  obtain ⟨e0, e1, e2, e3, e4, e5, e6, e7, e8, e9⟩ := ten_cells g1
  clear g1
  go_wp2_with fail
  refine (clone_any _ _ hs).mono ?_; rintro e wc ⟨rfl, hbc⟩
  have HC := Lib.hid (H1.out.later hbc)
  clear hbc e0 e1 e2 e3 e4 e5 e6 e7 e8 e9 ef1
  have g := HC.out.src
  have ef := g.frozen
  obtain ⟨e0, e1, e2, e3, e4, e5, e6, e7, e8, e9⟩ := ten_cells g
  clear g
  go_upto_region 8 with (fail)
  have HD : Hid (MvB w #[.int .i64 k, .int .i64 a, .int .i64 b, .int .i64 lo, .int .i64 hi, .int .u64 c0, .int .u64 c1, .int .u64 c2, .int .u64 c3, .string s] _) := HC.out.set 9 (.string s)
  generalize wc.setCell ⟨w.heap.size, 9, none⟩ (.string s) = wd at *
  clear e0 e1 e2 e3 e4 e5 e6 e7 e8 e9 ef
  have g := HD.out.src
  obtain ⟨e0, e1, e2, e3, e4, e5, e6, e7, e8, e9⟩ := ten_cells g
  clear g
  have hk := HD.out.res
  unfold z10 at hk
  have ef := hk.frozen
  obtain ⟨r0, r1, r2, r3, r4, r5, r6, r7, r8, r9⟩ := ten_cells hk
  obtain ⟨s0, s1, s2, s3, s4, s5, s6, s7, s8, s9⟩ := ten hk
  clear hk
  go_wp2
  exact bodyPost_ret (v := .agg #[.int .i64 k, .int .i64 a, .int .i64 b, .int .i64 lo, .int .i64 hi, .int .u64 c0, .int .u64 c1, .int .u64 c2, .int .u64 c3, .string s]) (by simp [results, Tryz.results186, go_sem, s0, s1, s2, s3, s4, s5, s6, s7, s8, s9]) rfl ⟨rfl, below10 HD.out.bel (Nat.le_succ _) _ _ _ _ _ _ _ _ _ _⟩
def digI (c : UInt8) : Int := match digV c with
  | some x => (x : Int)
  | none => -1
def digTab : List UInt8 := [48, 49, 50, 51, 52, 53, 54, 55, 56, 57, 97, 98, 99, 100, 101, 102]
theorem dig_idx (c : UInt8) : Lib.indexByte digTab c = digI c := by
  have key : ∀ n, n < 256 → Lib.indexByte digTab (UInt8.ofNat n) = digI (UInt8.ofNat n) := by decide +kernel
  have := key c.toNat c.toNat_lt
  simpa using this
theorem idxdig_any (c : UInt8) (w : World) :
    Calls Tryz.prog 174 #[.string ⟨#[48, 49, 50, 51, 52, 53, 54, 55, 56, 57, 97, 98, 99, 100, 101, 102]⟩, .int .u8 (c.toNat : Int)] w (Pure w (.int .i64 (digI c))) := by
  refine (idx_any _ _ w).mono fun e w' ⟨he, hw⟩ => ⟨?_, hw⟩
  rw [he, ← dig_idx]; simp; rfl
theorem digI_some {c : UInt8} {x : Nat} (h : digV c = some x) : digI c = (x : Int) := by unfold digI; rw [h]
theorem digI_none {c : UInt8} (h : digV c = none) : digI c = -1 := by unfold digI; rw [h]
def hexR (l : List UInt8) : Value := match hexV l with
  | some x => .tuple #[.int .u8 (x : Int), .bool true]
  | none => .tuple #[.int .u8 0, .bool false]
set_option maxHeartbeats 4000000 in
set_option maxRecDepth 100000 in
theorem hex2_any (s : ByteArray) (a b : UInt8) (w : World) (h0 : 0 < s.size) (h1 : 1 < s.size) (h2 : ((s.size : Int) != 2) = false) (ea : s[0]'h0 = a) (eb : s[1]'h1 = b) (v : Value) (hv : hexR [a, b] = v) :
    Calls Tryz.prog 165 #[.string s] w (Pure w v) := by
  cases ha : digV a with
  | none =>
    have HI := Lib.hid (digI_none ha)
    have HR : Hid (v = .tuple #[.int .u8 0, .bool false]) := by rw [← hv]; unfold Hid hexR hexV; simp only [ha]
    clear ha hv
    go_enter Tryz.func165, Tryz.ntmps165
    go_wp2_with fail
    refine (idxdig_any a _).mono ?_; rintro e w' ⟨rfl, rfl⟩; rw [HI.out]
    cases hb : digV b with
    | none =>
      have HJ := Lib.hid (digI_none hb)
      clear hb
      go_wp2_with fail
      refine (idxdig_any b _).mono ?_; rintro e w' ⟨rfl, rfl⟩; rw [HJ.out]
      go_wp2
      go_ret2
      exact ⟨by rw [HR.out]; rfl, rfl⟩
    | some y =>
      have HJ := Lib.hid (digI_some hb)
      clear hb
      go_wp2_with fail
      refine (idxdig_any b _).mono ?_; rintro e w' ⟨rfl, rfl⟩; rw [HJ.out]
      go_wp2
      go_ret2
      exact ⟨by rw [HR.out]; rfl, rfl⟩
  | some x =>
    have HI := Lib.hid (digI_some ha)
    have hx := digV_lt ha
    have hx0 : ¬ ((x : Int) < 0) := by omega
    cases hb : digV b with
    | none =>
      have HJ := Lib.hid (digI_none hb)
      have HR : Hid (v = .tuple #[.int .u8 0, .bool false]) := by rw [← hv]; unfold Hid hexR hexV; simp only [ha, hb]
      clear ha hb hv
      go_enter Tryz.func165, Tryz.ntmps165
      go_wp2_with fail
      refine (idxdig_any a _).mono ?_; rintro e w' ⟨rfl, rfl⟩; rw [HI.out]
      go_wp2_with fail
      refine (idxdig_any b _).mono ?_; rintro e w' ⟨rfl, rfl⟩; rw [HJ.out]
      go_wp2
      go_ret2
      exact ⟨by rw [HR.out]; rfl, rfl⟩
    | some y =>
      have HJ := Lib.hid (digI_some hb)
      have hy := digV_lt hb
      have hy0 : ¬ ((y : Int) < 0) := by omega
      have HR : Hid (v = .tuple #[.int .u8 ((16 * x + y : Nat) : Int), .bool true]) := by rw [← hv]; unfold Hid hexR hexV; simp only [ha, hb]
      have hb1 : (0 : Int) ≤ 16 * (x : Int) + (y : Int) := by omega
      have hb2 : 16 * (x : Int) + (y : Int) ≤ 255 := by omega
      have hb3 : (0 : Int) ≤ 16 * (x : Int) := by omega
      have hb4 : 16 * (x : Int) ≤ 255 := by omega
      clear ha hb hv
      go_enter Tryz.func165, Tryz.ntmps165
      go_wp2_with fail
      refine (idxdig_any a _).mono ?_; rintro e w' ⟨rfl, rfl⟩; rw [HI.out]
      go_wp2_with fail
      refine (idxdig_any b _).mono ?_; rintro e w' ⟨rfl, rfl⟩; rw [HJ.out]
      go_wp2
      go_ret2
      exact ⟨by rw [HR.out]; simp; done, rfl⟩
set_option maxHeartbeats 4000000 in
set_option maxRecDepth 100000 in
theorem hexlen_any (s : ByteArray) (w : World) (h2 : ((s.size : Int) != 2) = true) :
    Calls Tryz.prog 165 #[.string s] w (Pure w (.tuple #[.int .u8 0, .bool false])) := by
  go_enter Tryz.func165, Tryz.ntmps165
  go_wp2
  go_ret2
  exact ⟨rfl, rfl⟩
theorem hex_any (l : List UInt8) (w : World) : Calls Tryz.prog 165 #[.string (bs l)] w (Pure w (hexR l)) := by
  by_cases h : l.length = 2
  · match l, h with
    | [a, b], _ => exact hex2_any (bs [a, b]) a b w (by rw [bs_size]; simp) (by rw [bs_size]; simp) rfl rfl rfl _ rfl
  · have hr : hexR l = .tuple #[.int .u8 0, .bool false] := by
      unfold hexR hexV
      split
      · rename_i x hx; split at hx
        · simp at h
        · cases hx
      · rfl
    rw [hr]
    exact hexlen_any _ w (by rw [bs_size, bne_iff_ne]; omega)
def itemR (l : List UInt8) : Value := match itemV l with
  | some s => .tuple #[cls s, .bool true]
  | none => .tuple #[cls 0#256, .bool false]
theorem hexR_some {l : List UInt8} {x : Nat} (h : hexV l = some x) : hexR l = .tuple #[.int .u8 (x : Int), .bool true] := by unfold hexR; rw [h]
theorem hexR_none {l : List UInt8} (h : hexV l = none) : hexR l = .tuple #[.int .u8 0, .bool false] := by unfold hexR; rw [h]
def z4 : Array Value := #[.int .u64 0, .int .u64 0, .int .u64 0, .int .u64 0]
theorem z4_eq : z4 = cells4 0#256 := by
  have z0 : wd 0#256 0 = 0 := by decide
  have z1 : wd 0#256 1 = 0 := by decide
  have z2 : wd 0#256 2 = 0 := by decide
  have z3 : wd 0#256 3 = 0 := by decide
  unfold cells4 z4; rw [z0, z1, z2, z3]; rfl
theorem cls_zero : cls 0#256 = .agg #[.int .u64 0, .int .u64 0, .int .u64 0, .int .u64 0] := by
  have z0 : wd 0#256 0 = 0 := by decide
  have z1 : wd 0#256 1 = 0 := by decide
  have z2 : wd 0#256 2 = 0 := by decide
  have z3 : wd 0#256 3 = 0 := by decide
  unfold cls; rw [z0, z1, z2, z3]; rfl
theorem item_cases (l : List UInt8) (a b : List UInt8) (hp : (cutAt 45 l).getD (l, l) = (a, b)) :
    (hexV a = none ∧ itemR l = .tuple #[cls 0#256, .bool false]) ∨ (∃ x, hexV a = some x ∧ hexV b = none ∧ itemR l = .tuple #[cls 0#256, .bool false]) ∨
    (∃ x y, hexV a = some x ∧ hexV b = some y ∧ y < x ∧ itemR l = .tuple #[cls 0#256, .bool false]) ∨ (∃ x y, hexV a = some x ∧ hexV b = some y ∧ x ≤ y ∧ itemR l = .tuple #[cls (rowB x y), .bool true]) := by
  have hi : itemV l = match hexV a, hexV b with
    | some x, some y => if x ≤ y then some (rowB x y) else none
    | _, _ => none := by unfold itemV; rw [hp]; rfl
  cases ha : hexV a with
  | none => left; exact ⟨rfl, by unfold itemR; rw [hi, ha]⟩
  | some x =>
    right
    cases hb : hexV b with
    | none => left; exact ⟨x, rfl, rfl, by unfold itemR; rw [hi, ha, hb]⟩
    | some y =>
      right
      by_cases h : x ≤ y
      · right; exact ⟨x, y, rfl, rfl, h, by unfold itemR; rw [hi, ha, hb]; simp only [if_pos h]⟩
      · left; exact ⟨x, y, rfl, rfl, by omega, by unfold itemR; rw [hi, ha, hb]; simp only [if_neg h]⟩
theorem z_cells {w : World} {b : Nat} {t : TypeId} (h : Blk w b z4 t) :
    w.cell? ⟨b, 0, none⟩ = some (.int .u64 0) ∧ w.cell? ⟨b, 1, none⟩ = some (.int .u64 0) ∧ w.cell? ⟨b, 2, none⟩ = some (.int .u64 0) ∧ w.cell? ⟨b, 3, none⟩ = some (.int .u64 0) :=
  ⟨h.cell 0, h.cell 1, h.cell 2, h.cell 3⟩
theorem four {w : World} {b : Nat} {t : TypeId} (h : Blk w b z4 t) :
    (∀ v, (w.setCell ⟨b, 0, none⟩ v).cell? ⟨b, 0, none⟩ = some v) ∧ (∀ u v, ((w.setCell ⟨b, 0, none⟩ u).setCell ⟨b, 1, none⟩ v).cell? ⟨b, 1, none⟩ = some v) ∧
    (∀ x u v, (((w.setCell ⟨b, 0, none⟩ x).setCell ⟨b, 1, none⟩ u).setCell ⟨b, 2, none⟩ v).cell? ⟨b, 2, none⟩ = some v) ∧
    (∀ y x u v, ((((w.setCell ⟨b, 0, none⟩ y).setCell ⟨b, 1, none⟩ x).setCell ⟨b, 2, none⟩ u).setCell ⟨b, 3, none⟩ v).cell? ⟨b, 3, none⟩ = some v) :=
  ⟨fun v => (h.setCell 0 v).cell 0, fun u v => ((h.setCell 0 u).setCell 1 v).cell 1, fun x u v => (((h.setCell 0 x).setCell 1 u).setCell 2 v).cell 2, fun y x u v => ((((h.setCell 0 y).setCell 1 x).setCell 2 u).setCell 3 v).cell 3⟩
structure Box4 (w : World) (w' : World) : Prop where
  bel : Below w.heap.size w w'
  blk : Blk w' w.heap.size z4 42
theorem Box4.new (w : World) : Box4 w (w.alloc (.cells #[.int .u64 0, .int .u64 0, .int .u64 0, .int .u64 0] 42)) := ⟨(Below.refl _ _).alloc (Nat.le_refl _) _, Blk.new _ _ _⟩
theorem Box4.later {w w1 w2 : World} (h : Box4 w w1) (hb : Below w1.heap.size w1 w2) : Box4 w w2 := ⟨h.bel.trans (hb.mono h.bel.size), h.blk.later hb⟩
set_option maxHeartbeats 4000000 in
set_option maxRecDepth 100000 in
theorem item_any (l : List UInt8) (w : World) (hl : l.length ≤ 1073741824) : Calls Tryz.prog 151 #[.string (bs l)] w (Ans w (itemR l)) := by
  have hsz : (bs l).size ≤ 4294967296 := by rw [bs_size]; omega
  cases hc : cutAt 45 l with
  | none =>
    have hp : (cutAt 45 l).getD (l, l) = (l, l) := by rw [hc]; rfl
    have HC : Hid (cutAt 45 (bs l).data.toList = none) := hc
    clear hc
    go_enter Tryz.func151, Tryz.ntmps151
    go_wp2_with fail
    refine (cut_miss _ _ _ HC.out).mono ?_; rintro e w2 ⟨rfl, hb2⟩
    have HX0 := Lib.hid ((Box4.new w).later hb2)
    clear hb2
    rcases item_cases l l l hp with ⟨h1, h2⟩ | ⟨x, h1, h2, h3⟩ | ⟨x, y, h1, h2, h3, h4⟩ | ⟨x, y, h1, h2, h3, h4⟩
    · have HX := Lib.hid (hexR_none h1)
      obtain ⟨v, hv⟩ : ∃ v, hexV l = v := ⟨_, rfl⟩
      clear h1
      go_wp2_with fail
      refine (hex_any l _).mono ?_; rintro e w' ⟨rfl, rfl⟩; rw [HX.out]
      have HR := Lib.hid h2
      clear h2 hp
      cases v with
      | none =>
        have HY := Lib.hid (hexR_none hv)
        clear hv
        go_wp2_with fail
        refine (hex_any l _).mono ?_; rintro e w' ⟨rfl, rfl⟩; rw [HY.out]
        have hk := HX0.out.blk
        obtain ⟨e0, e1, e2, e3⟩ := z_cells hk
        have ef := hk.frozen
        obtain ⟨s0, s1, s2, s3⟩ := four hk
        clear hk
        go_wp2
        exact bodyPost_ret (v := .tuple #[.agg #[.int .u64 0, .int .u64 0, .int .u64 0, .int .u64 0], .bool false]) (by simp [results, Tryz.results151, go_sem, s0, s1, s2, s3]) rfl ⟨by rw [HR.out, cls_zero], by have h := HX0.out.bel; exact (((h.setCell (p := ⟨w.heap.size, 0, none⟩) (Nat.le_refl _) _).setCell (p := ⟨w.heap.size, 1, none⟩) (Nat.le_refl _) _).setCell (p := ⟨w.heap.size, 2, none⟩) (Nat.le_refl _) _).setCell (p := ⟨w.heap.size, 3, none⟩) (Nat.le_refl _) _⟩
      | some y =>
        have HY := Lib.hid (hexR_some hv)
        clear hv
        go_wp2_with fail
        refine (hex_any l _).mono ?_; rintro e w' ⟨rfl, rfl⟩; rw [HY.out]
        have hk := HX0.out.blk
        obtain ⟨e0, e1, e2, e3⟩ := z_cells hk
        have ef := hk.frozen
        obtain ⟨s0, s1, s2, s3⟩ := four hk
        clear hk
        go_wp2
        exact bodyPost_ret (v := .tuple #[.agg #[.int .u64 0, .int .u64 0, .int .u64 0, .int .u64 0], .bool false]) (by simp [results, Tryz.results151, go_sem, s0, s1, s2, s3]) rfl ⟨by rw [HR.out, cls_zero], by have h := HX0.out.bel; exact (((h.setCell (p := ⟨w.heap.size, 0, none⟩) (Nat.le_refl _) _).setCell (p := ⟨w.heap.size, 1, none⟩) (Nat.le_refl _) _).setCell (p := ⟨w.heap.size, 2, none⟩) (Nat.le_refl _) _).setCell (p := ⟨w.heap.size, 3, none⟩) (Nat.le_refl _) _⟩
    · have HX := Lib.hid (hexR_some h1)
      have HY := Lib.hid (hexR_none h2)
      have HR := Lib.hid h3
      clear h1 h2 h3 hp
      go_wp2_with fail
      refine (hex_any l _).mono ?_; rintro e w' ⟨rfl, rfl⟩; rw [HX.out]
      go_wp2_with fail
      refine (hex_any l _).mono ?_; rintro e w' ⟨rfl, rfl⟩; rw [HY.out]
      have hk := HX0.out.blk
      obtain ⟨e0, e1, e2, e3⟩ := z_cells hk
      have ef := hk.frozen
      obtain ⟨s0, s1, s2, s3⟩ := four hk
      clear hk
      go_wp2
      exact bodyPost_ret (v := .tuple #[.agg #[.int .u64 0, .int .u64 0, .int .u64 0, .int .u64 0], .bool false]) (by simp [results, Tryz.results151, go_sem, s0, s1, s2, s3]) rfl ⟨by rw [HR.out, cls_zero], by have h := HX0.out.bel; exact (((h.setCell (p := ⟨w.heap.size, 0, none⟩) (Nat.le_refl _) _).setCell (p := ⟨w.heap.size, 1, none⟩) (Nat.le_refl _) _).setCell (p := ⟨w.heap.size, 2, none⟩) (Nat.le_refl _) _).setCell (p := ⟨w.heap.size, 3, none⟩) (Nat.le_refl _) _⟩
    · have HX := Lib.hid (hexR_some h1)
      have HY := Lib.hid (hexR_some h2)
      have HR := Lib.hid h4
      have hxy : ((y : Int) < (x : Int)) := by omega
      clear h1 h2 h4 hp h3
      go_wp2_with fail
      refine (hex_any l _).mono ?_; rintro e w' ⟨rfl, rfl⟩; rw [HX.out]
      go_wp2_with fail
      refine (hex_any l _).mono ?_; rintro e w' ⟨rfl, rfl⟩; rw [HY.out]
      have hk := HX0.out.blk
      obtain ⟨e0, e1, e2, e3⟩ := z_cells hk
      have ef := hk.frozen
      obtain ⟨s0, s1, s2, s3⟩ := four hk
      clear hk
      go_wp2
      exact bodyPost_ret (v := .tuple #[.agg #[.int .u64 0, .int .u64 0, .int .u64 0, .int .u64 0], .bool false]) (by simp [results, Tryz.results151, go_sem, s0, s1, s2, s3]) rfl ⟨by rw [HR.out, cls_zero], by have h := HX0.out.bel; exact (((h.setCell (p := ⟨w.heap.size, 0, none⟩) (Nat.le_refl _) _).setCell (p := ⟨w.heap.size, 1, none⟩) (Nat.le_refl _) _).setCell (p := ⟨w.heap.size, 2, none⟩) (Nat.le_refl _) _).setCell (p := ⟨w.heap.size, 3, none⟩) (Nat.le_refl _) _⟩
    · have HR := Lib.hid h4
      have HX := Lib.hid (hexR_some h1)
      have HY := Lib.hid (hexR_some h2)
      have lx := hexV_lt h1
      have ly := hexV_lt h2
      clear h1 h2 h4 hp
      go_wp2_with fail
      refine (hex_any l _).mono ?_; rintro e w' ⟨rfl, rfl⟩; rw [HX.out]
      go_wp2_with fail
      refine (hex_any l _).mono ?_; rintro e w' ⟨rfl, rfl⟩; rw [HY.out]
      have hxy : ¬ ((y : Int) < (x : Int)) := by omega
      go_wp2_with fail
      refine (of_any x y lx ly _).mono ?_; rintro e w3 ⟨rfl, hb3⟩
      have HX1 := Lib.hid (HX0.out.later hb3)
      have hk := HX1.out.blk
      obtain ⟨e0, e1, e2, e3⟩ := z_cells hk
      have ef := hk.frozen
      obtain ⟨s0, s1, s2, s3⟩ := four hk
      clear hk hb3
      unfold cls at HR ⊢
      generalize rowB x y = R at *
      go_wp2
      exact bodyPost_ret (v := .tuple #[.agg #[.int .u64 (wd R 0), .int .u64 (wd R 1), .int .u64 (wd R 2), .int .u64 (wd R 3)], .bool true]) (by simp [results, Tryz.results151, go_sem, s0, s1, s2, s3]) rfl ⟨by rw [HR.out], by have h := HX1.out.bel; exact (((h.setCell (p := ⟨w.heap.size, 0, none⟩) (Nat.le_refl _) _).setCell (p := ⟨w.heap.size, 1, none⟩) (Nat.le_refl _) _).setCell (p := ⟨w.heap.size, 2, none⟩) (Nat.le_refl _) _).setCell (p := ⟨w.heap.size, 3, none⟩) (Nat.le_refl _) _⟩
  | some p =>
    obtain ⟨a, b⟩ := p
    have hp : (cutAt 45 l).getD (l, l) = (a, b) := by rw [hc]; rfl
    have HC : Hid (cutAt 45 (bs l).data.toList = some (a, b)) := hc
    clear hc
    go_enter Tryz.func151, Tryz.ntmps151
    go_wp2_with fail
    refine (cut_hit _ _ _ _ _ HC.out hsz).mono ?_; rintro e w2 ⟨rfl, hb2⟩
    have HX0 := Lib.hid ((Box4.new w).later hb2)
    clear hb2
    rcases item_cases l a b hp with ⟨h1, h2⟩ | ⟨x, h1, h2, h3⟩ | ⟨x, y, h1, h2, h3, h4⟩ | ⟨x, y, h1, h2, h3, h4⟩
    · have HX := Lib.hid (hexR_none h1)
      obtain ⟨v, hv⟩ : ∃ v, hexV b = v := ⟨_, rfl⟩
      clear h1
      go_wp2_with fail
      refine (hex_any a _).mono ?_; rintro e w' ⟨rfl, rfl⟩; rw [HX.out]
      have HR := Lib.hid h2
      clear h2 hp
      cases v with
      | none =>
        have HY := Lib.hid (hexR_none hv)
        clear hv
        go_wp2_with fail
        refine (hex_any b _).mono ?_; rintro e w' ⟨rfl, rfl⟩; rw [HY.out]
        have hk := HX0.out.blk
        obtain ⟨e0, e1, e2, e3⟩ := z_cells hk
        have ef := hk.frozen
        obtain ⟨s0, s1, s2, s3⟩ := four hk
        clear hk
        go_wp2
        exact bodyPost_ret (v := .tuple #[.agg #[.int .u64 0, .int .u64 0, .int .u64 0, .int .u64 0], .bool false]) (by simp [results, Tryz.results151, go_sem, s0, s1, s2, s3]) rfl ⟨by rw [HR.out, cls_zero], by have h := HX0.out.bel; exact (((h.setCell (p := ⟨w.heap.size, 0, none⟩) (Nat.le_refl _) _).setCell (p := ⟨w.heap.size, 1, none⟩) (Nat.le_refl _) _).setCell (p := ⟨w.heap.size, 2, none⟩) (Nat.le_refl _) _).setCell (p := ⟨w.heap.size, 3, none⟩) (Nat.le_refl _) _⟩
      | some y =>
        have HY := Lib.hid (hexR_some hv)
        clear hv
        go_wp2_with fail
        refine (hex_any b _).mono ?_; rintro e w' ⟨rfl, rfl⟩; rw [HY.out]
        have hk := HX0.out.blk
        obtain ⟨e0, e1, e2, e3⟩ := z_cells hk
        have ef := hk.frozen
        obtain ⟨s0, s1, s2, s3⟩ := four hk
        clear hk
        go_wp2
        exact bodyPost_ret (v := .tuple #[.agg #[.int .u64 0, .int .u64 0, .int .u64 0, .int .u64 0], .bool false]) (by simp [results, Tryz.results151, go_sem, s0, s1, s2, s3]) rfl ⟨by rw [HR.out, cls_zero], by have h := HX0.out.bel; exact (((h.setCell (p := ⟨w.heap.size, 0, none⟩) (Nat.le_refl _) _).setCell (p := ⟨w.heap.size, 1, none⟩) (Nat.le_refl _) _).setCell (p := ⟨w.heap.size, 2, none⟩) (Nat.le_refl _) _).setCell (p := ⟨w.heap.size, 3, none⟩) (Nat.le_refl _) _⟩
    · have HX := Lib.hid (hexR_some h1)
      have HY := Lib.hid (hexR_none h2)
      have HR := Lib.hid h3
      clear h1 h2 h3 hp
      go_wp2_with fail
      refine (hex_any a _).mono ?_; rintro e w' ⟨rfl, rfl⟩; rw [HX.out]
      go_wp2_with fail
      refine (hex_any b _).mono ?_; rintro e w' ⟨rfl, rfl⟩; rw [HY.out]
      have hk := HX0.out.blk
      obtain ⟨e0, e1, e2, e3⟩ := z_cells hk
      have ef := hk.frozen
      obtain ⟨s0, s1, s2, s3⟩ := four hk
      clear hk
      go_wp2
      exact bodyPost_ret (v := .tuple #[.agg #[.int .u64 0, .int .u64 0, .int .u64 0, .int .u64 0], .bool false]) (by simp [results, Tryz.results151, go_sem, s0, s1, s2, s3]) rfl ⟨by rw [HR.out, cls_zero], by have h := HX0.out.bel; exact (((h.setCell (p := ⟨w.heap.size, 0, none⟩) (Nat.le_refl _) _).setCell (p := ⟨w.heap.size, 1, none⟩) (Nat.le_refl _) _).setCell (p := ⟨w.heap.size, 2, none⟩) (Nat.le_refl _) _).setCell (p := ⟨w.heap.size, 3, none⟩) (Nat.le_refl _) _⟩
    · have HX := Lib.hid (hexR_some h1)
      have HY := Lib.hid (hexR_some h2)
      have HR := Lib.hid h4
      have hxy : ((y : Int) < (x : Int)) := by omega
      clear h1 h2 h4 hp h3
      go_wp2_with fail
      refine (hex_any a _).mono ?_; rintro e w' ⟨rfl, rfl⟩; rw [HX.out]
      go_wp2_with fail
      refine (hex_any b _).mono ?_; rintro e w' ⟨rfl, rfl⟩; rw [HY.out]
      have hk := HX0.out.blk
      obtain ⟨e0, e1, e2, e3⟩ := z_cells hk
      have ef := hk.frozen
      obtain ⟨s0, s1, s2, s3⟩ := four hk
      clear hk
      go_wp2
      exact bodyPost_ret (v := .tuple #[.agg #[.int .u64 0, .int .u64 0, .int .u64 0, .int .u64 0], .bool false]) (by simp [results, Tryz.results151, go_sem, s0, s1, s2, s3]) rfl ⟨by rw [HR.out, cls_zero], by have h := HX0.out.bel; exact (((h.setCell (p := ⟨w.heap.size, 0, none⟩) (Nat.le_refl _) _).setCell (p := ⟨w.heap.size, 1, none⟩) (Nat.le_refl _) _).setCell (p := ⟨w.heap.size, 2, none⟩) (Nat.le_refl _) _).setCell (p := ⟨w.heap.size, 3, none⟩) (Nat.le_refl _) _⟩
    · have HR := Lib.hid h4
      have HX := Lib.hid (hexR_some h1)
      have HY := Lib.hid (hexR_some h2)
      have lx := hexV_lt h1
      have ly := hexV_lt h2
      clear h1 h2 h4 hp
      go_wp2_with fail
      refine (hex_any a _).mono ?_; rintro e w' ⟨rfl, rfl⟩; rw [HX.out]
      go_wp2_with fail
      refine (hex_any b _).mono ?_; rintro e w' ⟨rfl, rfl⟩; rw [HY.out]
      have hxy : ¬ ((y : Int) < (x : Int)) := by omega
      go_wp2_with fail
      refine (of_any x y lx ly _).mono ?_; rintro e w3 ⟨rfl, hb3⟩
      have HX1 := Lib.hid (HX0.out.later hb3)
      have hk := HX1.out.blk
      obtain ⟨e0, e1, e2, e3⟩ := z_cells hk
      have ef := hk.frozen
      obtain ⟨s0, s1, s2, s3⟩ := four hk
      clear hk hb3
      unfold cls at HR ⊢
      generalize rowB x y = R at *
      go_wp2
      exact bodyPost_ret (v := .tuple #[.agg #[.int .u64 (wd R 0), .int .u64 (wd R 1), .int .u64 (wd R 2), .int .u64 (wd R 3)], .bool true]) (by simp [results, Tryz.results151, go_sem, s0, s1, s2, s3]) rfl ⟨by rw [HR.out], by have h := HX1.out.bel; exact (((h.setCell (p := ⟨w.heap.size, 0, none⟩) (Nat.le_refl _) _).setCell (p := ⟨w.heap.size, 1, none⟩) (Nat.le_refl _) _).setCell (p := ⟨w.heap.size, 2, none⟩) (Nat.le_refl _) _).setCell (p := ⟨w.heap.size, 3, none⟩) (Nat.le_refl _) _⟩
theorem pieces_len (c : UInt8) : ∀ (l p : List UInt8), p ∈ pieces c l → p.length ≤ l.length := by
  intro l
  suffices h : (piecesA c l).1.length ≤ l.length ∧ ∀ p ∈ (piecesA c l).2, p.length ≤ l.length by
    intro p hp
    unfold pieces at hp
    rcases List.mem_cons.1 hp with rfl | hp
    · exact h.1
    · exact h.2 p hp
  induction l with
  | nil => simp [piecesA]
  | cons x l ih =>
    obtain ⟨i1, i2⟩ := ih
    unfold piecesA
    by_cases e : x = c
    · simp only [if_pos e]
      refine ⟨by simp, fun p hp => ?_⟩
      rcases List.mem_cons.1 hp with rfl | hp
      · simp; omega
      · have := i2 p hp; simp; omega
    · simp only [if_neg e]
      refine ⟨by simpa using i1, fun p hp => ?_⟩
      have := i2 p hp; simp; omega
def optR (o : Option (BitVec 256)) : Value := match o with
  | some s => .tuple #[cls s, .bool true]
  | none => .tuple #[cls 0#256, .bool false]
set_option maxHeartbeats 4000000 in
set_option maxRecDepth 100000 in
theorem items_empty (w : World) : Calls Tryz.prog 133 #[.string ⟨#[]⟩] w (Ans w (optR (some 0#256))) := by
  have HR : Hid (optR (some 0#256) = .tuple #[cls 0#256, .bool true]) := rfl
  go_enter Tryz.func133, Tryz.ntmps133
  go_wp2
  exact bodyPost_ret (v := .tuple #[.agg #[.int .u64 0, .int .u64 0, .int .u64 0, .int .u64 0], .bool true]) (by simp [results, Tryz.results133, go_sem]) rfl ⟨by rw [HR.out, cls_zero], by go_grown⟩
structure ItmS (w : World) (B : Nat) (ps : List (List UInt8)) (k : Nat) (S : BitVec 256) (wr : World) : Prop where
  bel : Below w.heap.size w wr
  res : Blk wr w.heap.size z4 42
  acc : Blk wr (w.heap.size + 1) (cells4 S) 42
  row : Blk wr B ((ps.map fun p => Value.string (bs p)).toArray) 9
  sum : itemsV 0#256 ps = itemsV S (ps.drop k)
theorem ItmS.later {w : World} {B : Nat} {ps : List (List UInt8)} {k : Nat} {S : BitVec 256} {w1 w2 : World} (h : ItmS w B ps k S w1) (hb : Below w1.heap.size w1 w2) : ItmS w B ps k S w2 :=
  ⟨h.bel.trans (hb.mono h.bel.size), h.res.later hb, h.acc.later hb, h.row.later hb, h.sum⟩
def ItmR (w : World) (B : Nat) (ps : List (List UInt8)) (i : Value) (wr : World) : Prop := ∃ (k : Nat) (S : BitVec 256), k ≤ ps.length ∧ i = .int .i64 (k : Int) ∧ ItmS w B ps k S wr
theorem four' {w : World} {b : Nat} {S : BitVec 256} {t : TypeId} (h : Blk w b (cells4 S) t) :
    (∀ v, (w.setCell ⟨b, 0, none⟩ v).cell? ⟨b, 0, none⟩ = some v) ∧ (∀ u v, ((w.setCell ⟨b, 0, none⟩ u).setCell ⟨b, 1, none⟩ v).cell? ⟨b, 1, none⟩ = some v) ∧
    (∀ x u v, (((w.setCell ⟨b, 0, none⟩ x).setCell ⟨b, 1, none⟩ u).setCell ⟨b, 2, none⟩ v).cell? ⟨b, 2, none⟩ = some v) ∧
    (∀ y x u v, ((((w.setCell ⟨b, 0, none⟩ y).setCell ⟨b, 1, none⟩ x).setCell ⟨b, 2, none⟩ u).setCell ⟨b, 3, none⟩ v).cell? ⟨b, 3, none⟩ = some v) :=
  ⟨fun v => (h.setCell 0 v).cell 0, fun u v => ((h.setCell 0 u).setCell 1 v).cell 1, fun x u v => (((h.setCell 0 x).setCell 1 u).setCell 2 v).cell 2, fun y x u v => ((((h.setCell 0 y).setCell 1 x).setCell 2 u).setCell 3 v).cell 3⟩
set_option maxHeartbeats 4000000 in
set_option maxRecDepth 100000 in
theorem items_some (l : List UInt8) (w : World) (hl : l.length ≤ 1073741824) (hne : (bs l).toList.isEmpty = false) :
    Calls Tryz.prog 133 #[.string (bs l)] w (Ans w (optR (itemsV 0#256 (pieces 44 l)))) := by
  have hpl := pieces_count 44 l
  have hcl := count_le 44 l
  have hpc : ∀ p ∈ pieces 44 l, p.length ≤ 1073741824 := fun p hp => by have := pieces_len 44 l p hp; omega
  have HPC := Lib.hid hpc
  have hn : (pieces 44 l).length ≤ 1073741825 := by omega
  clear hpl hcl hpc
  go_enter Tryz.func133, Tryz.ntmps133
  go_wp2_with fail
  refine (split_any l 44 _ hl).mono ?_; rintro e w2 ⟨rfl, hbk, hb2⟩
  have HS : Hid (ItmS w (w.heap.size + 1 + 1) (pieces 44 l) 0 0#256 w2) := by
    have h1 : Below w.heap.size w ((w.alloc (.cells #[.int .u64 0, .int .u64 0, .int .u64 0, .int .u64 0] 42)).alloc (.cells #[.int .u64 0, .int .u64 0, .int .u64 0, .int .u64 0] 42)) := by go_grown
    refine ⟨h1.trans (hb2.mono h1.size), ((Blk.new _ _ _).alloc _).later hb2, ?_, by simpa using hbk, rfl⟩
    have := (Blk.new' (by simp) z4 42 : Blk ((w.alloc (.cells #[.int .u64 0, .int .u64 0, .int .u64 0, .int .u64 0] 42)).alloc (.cells z4 42)) (w.heap.size + 1) z4 _)
    rw [z4_eq] at this
    exact (show Blk _ _ _ _ from (by rw [← z4_eq] at this ⊢; exact this)).later hb2
  clear hbk hb2
  generalize pieces 44 l = ps at *
  go_wp2
  go_loopw [15] (ItmR w (w.heap.size + 1 + 1) ps) (fun i _ => ps.length - (intOf i).toNat)
  case atStart => exact ⟨0, 0#256, Nat.zero_le _, rfl, HS.out⟩
  case round =>
    obtain ⟨k, S, hk, rfl, hs⟩ := hrel
    have HI := Lib.hid hs
    by_cases hlt : k < ps.length
    · have hltz : (k : Int) < (ps.length : Int) := by omega
      have hcell : wr.cell? ⟨w.heap.size + 1 + 1, k, none⟩ = some (.string (bs (ps.getD k []))) := by rw [hs.row.cell k]; simp [hlt]
      have hdr : ps.drop k = ps.getD k [] :: ps.drop (k + 1) := by rw [List.drop_eq_getElem_cons hlt]; simp [hlt]
      have hm : ps.getD k [] ∈ ps := by simp [hlt]
      have hpk := HPC.out _ hm
      have HD := Lib.hid hdr
      clear hs hdr hm
      generalize ps.getD k [] = p at *
      cases hv : itemV p with
      | none =>
        have HV := Lib.hid hv
        have HIR : Hid (itemR p = .tuple #[cls 0#256, .bool false]) := by unfold Hid itemR; rw [hv]
        have HR : Hid (optR (itemsV 0#256 ps) = .tuple #[cls 0#256, .bool false]) := by unfold Hid; rw [HI.out.sum, HD.out, itemsV, hv]; rfl
        clear hv
        go_wp2_with fail
        refine (item_any p _ hpk).mono ?_; rintro e w3 ⟨rfl, hb3⟩
        rw [HIR.out, cls_zero]
        have HI3 := Lib.hid ((HI.out.later hb3).later ((Below.refl _ _).alloc (Nat.le_refl _) (.cells #[.int .u64 0, .int .u64 0, .int .u64 0, .int .u64 0] 42)))
        have hz3 := (HI.out.later hb3).res.lt
        clear hb3 hcell
        have hk3 := HI3.out.res
        obtain ⟨e0, e1, e2, e3⟩ := z_cells hk3
        have ef := hk3.frozen
        obtain ⟨s0, s1, s2, s3⟩ := four hk3
        clear hk3
        go_upto_region 8 with (fail)
        generalize w3.alloc (.cells #[.int .u64 0, .int .u64 0, .int .u64 0, .int .u64 0] 42) = w4 at *
        go_wp2
        exact bodyPost_ret (v := .tuple #[.agg #[.int .u64 0, .int .u64 0, .int .u64 0, .int .u64 0], .bool false]) (by simp [results, Tryz.results133, go_sem, s0, s1, s2, s3]) rfl ⟨by rw [HR.out, cls_zero], by have h := HI3.out.bel; exact (((h.setCell (p := ⟨w.heap.size, 0, none⟩) (Nat.le_refl _) _).setCell (p := ⟨w.heap.size, 1, none⟩) (Nat.le_refl _) _).setCell (p := ⟨w.heap.size, 2, none⟩) (Nat.le_refl _) _).setCell (p := ⟨w.heap.size, 3, none⟩) (Nat.le_refl _) _⟩
      | some t =>
        have HIR : Hid (itemR p = .tuple #[cls t, .bool true]) := by unfold Hid itemR; rw [hv]
        have HSM : Hid (itemsV 0#256 ps = itemsV (S ||| t) (ps.drop (k + 1))) := by unfold Hid; rw [HI.out.sum, HD.out, itemsV, hv]
        clear hv
        go_wp2_with fail
        refine (item_any p _ hpk).mono ?_; rintro e w3 ⟨rfl, hb3⟩
        rw [HIR.out]
        unfold cls
        have HI3 := Lib.hid ((HI.out.later hb3).later ((Below.refl _ _).alloc (Nat.le_refl _) (.cells (cells4 t) 42)))
        have HBT := Lib.hid (Blk.new w3 (cells4 t) 42)
        clear hb3 hcell
        go_upto_region 8 with (fail)
        unfold cells4 at HI3 HBT
        generalize w3.alloc (.cells #[.int .u64 (wd t 0), .int .u64 (wd t 1), .int .u64 (wd t 2), .int .u64 (wd t 3)] 42) = w4 at *
        generalize w3.heap.size = bt at *
        have ht := HBT.out.cells
        have ha := HI3.out.acc.cells
        go_wp2_with fail
        refine (join_any S t _).mono ?_; rintro e w5 ⟨rfl, hb5⟩
        have HI5 := Lib.hid (HI3.out.later hb5)
        clear ht ha hb5
        have hk5 := HI5.out.acc
        have ef := hk5.frozen
        have ea := hk5.cells
        obtain ⟨s0, s1, s2, s3⟩ := four' hk5
        clear hk5
        unfold cls
        go_wp2
        go_roundw
        case rel =>
          have h5 := HI5.out
          refine ⟨k + 1, S ||| t, by omega, by go_num, ?_, ?_, h5.acc.set4 (S ||| t), ?_, HSM.out⟩
          · have h := h5.bel
            exact (((h.setCell (p := ⟨w.heap.size + 1, 0, none⟩) (Nat.le_succ _) _).setCell (p := ⟨w.heap.size + 1, 1, none⟩) (Nat.le_succ _) _).setCell (p := ⟨w.heap.size + 1, 2, none⟩) (Nat.le_succ _) _).setCell (p := ⟨w.heap.size + 1, 3, none⟩) (Nat.le_succ _) _
          · have hne : ∀ o, (⟨w.heap.size + 1, o, none⟩ : Addr).block ≠ w.heap.size := fun o => by simp
            exact (((h5.res.setCell_ne (hne 0) _).setCell_ne (hne 1) _).setCell_ne (hne 2) _).setCell_ne (hne 3) _
          · have hne : ∀ o, (⟨w.heap.size + 1, o, none⟩ : Addr).block ≠ w.heap.size + 1 + 1 := fun o => by simp
            exact (((h5.row.setCell_ne (hne 0) _).setCell_ne (hne 1) _).setCell_ne (hne 2) _).setCell_ne (hne 3) _
        case measure => simp [intOf]; omega
    · obtain rfl : k = ps.length := by omega
      have HR : Hid (optR (itemsV 0#256 ps) = .tuple #[cls S, .bool true]) := by unfold Hid; rw [hs.sum, List.drop_length, itemsV]; rfl
      have ha := hs.acc.cells
      have hk0 := hs.res
      have ef := hk0.frozen
      obtain ⟨s0, s1, s2, s3⟩ := four hk0
      obtain ⟨e0, e1, e2, e3⟩ := z_cells hk0
      clear hk0 hs
      go_wp2
      exact bodyPost_ret (v := .tuple #[.agg #[.int .u64 (wd S 0), .int .u64 (wd S 1), .int .u64 (wd S 2), .int .u64 (wd S 3)], .bool true]) (by simp [results, Tryz.results133, go_sem, s0, s1, s2, s3]) rfl ⟨by rw [HR.out, cls], by have h := HI.out.bel; exact (((h.setCell (p := ⟨w.heap.size, 0, none⟩) (Nat.le_refl _) _).setCell (p := ⟨w.heap.size, 1, none⟩) (Nat.le_refl _) _).setCell (p := ⟨w.heap.size, 2, none⟩) (Nat.le_refl _) _).setCell (p := ⟨w.heap.size, 3, none⟩) (Nat.le_refl _) _⟩
theorem items_any (l : List UInt8) (w : World) (hl : l.length ≤ 1073741824) : Calls Tryz.prog 133 #[.string (bs l)] w (Ans w (optR (listV l))) := by
  match l with
  | [] => exact items_empty w
  | a :: l => exact items_some (a :: l) w hl (by rw [Lib.toList_data, bs_data]; rfl)
end Go.Proofs.YtcgjmnhmhiddkaaGreatDoor
