/- Boxes of ten cells. -/
import Derived.Test.YtpbadglfegcdjaaGreatDoorM05
namespace Go.Proofs.YtpbadglfegcdjaaGreatDoor
open Go Go.RowKit
set_option linter.unusedVariables false

/-- A node's cells. -/
def ndC (n : Nd) : Array Value := #[.int .i64 n.kind, .int .i64 n.a, .int .i64 n.b, .int .i64 n.lo, .int .i64 n.hi, .int .u64 (wd n.cls 0), .int .u64 (wd n.cls 1), .int .u64 (wd n.cls 2), .int .u64 (wd n.cls 3), .string (bs n.text)]
def z10 : Array Value := #[.int .i64 0, .int .i64 0, .int .i64 0, .int .i64 0, .int .i64 0, .int .u64 0, .int .u64 0, .int .u64 0, .int .u64 0, .string ⟨#[]⟩]
theorem Blk.put10 {w : World} {b : Nat} {t : TypeId} {vs : Array Value} (h : Blk w b vs t) {o : Nat} (ho : o < vs.size) (v : Value) : (w.setCell ⟨b, o, none⟩ v).cell? ⟨b, o, none⟩ = some v := by
  rw [(h.setCell o v).cell o]; simp [ho]
section
variable {w : World} {b : Nat} {t : TypeId} {c0 c1 c2 c3 c4 c5 c6 c7 c8 c9 : Value}
/-- What is stored is read. -/
theorem ten (h : Blk w b #[c0, c1, c2, c3, c4, c5, c6, c7, c8, c9] t) :
    (∀ v0 : Value, (w.setCell ⟨b, 0, none⟩ v0).cell? ⟨b, 0, none⟩ = some v0) ∧ (∀ v0 v1 : Value, ((w.setCell ⟨b, 0, none⟩ v0).setCell ⟨b, 1, none⟩ v1).cell? ⟨b, 1, none⟩ = some v1) ∧ (∀ v0 v1 v2 : Value, (((w.setCell ⟨b, 0, none⟩ v0).setCell ⟨b, 1, none⟩ v1).setCell ⟨b, 2, none⟩ v2).cell? ⟨b, 2, none⟩ = some v2) ∧ (∀ v0 v1 v2 v3 : Value, ((((w.setCell ⟨b, 0, none⟩ v0).setCell ⟨b, 1, none⟩ v1).setCell ⟨b, 2, none⟩ v2).setCell ⟨b, 3, none⟩ v3).cell? ⟨b, 3, none⟩ = some v3) ∧ (∀ v0 v1 v2 v3 v4 : Value, (((((w.setCell ⟨b, 0, none⟩ v0).setCell ⟨b, 1, none⟩ v1).setCell ⟨b, 2, none⟩ v2).setCell ⟨b, 3, none⟩ v3).setCell ⟨b, 4, none⟩ v4).cell? ⟨b, 4, none⟩ = some v4) ∧ (∀ v0 v1 v2 v3 v4 v5 : Value, ((((((w.setCell ⟨b, 0, none⟩ v0).setCell ⟨b, 1, none⟩ v1).setCell ⟨b, 2, none⟩ v2).setCell ⟨b, 3, none⟩ v3).setCell ⟨b, 4, none⟩ v4).setCell ⟨b, 5, none⟩ v5).cell? ⟨b, 5, none⟩ = some v5) ∧ (∀ v0 v1 v2 v3 v4 v5 v6 : Value, (((((((w.setCell ⟨b, 0, none⟩ v0).setCell ⟨b, 1, none⟩ v1).setCell ⟨b, 2, none⟩ v2).setCell ⟨b, 3, none⟩ v3).setCell ⟨b, 4, none⟩ v4).setCell ⟨b, 5, none⟩ v5).setCell ⟨b, 6, none⟩ v6).cell? ⟨b, 6, none⟩ = some v6) ∧ (∀ v0 v1 v2 v3 v4 v5 v6 v7 : Value, ((((((((w.setCell ⟨b, 0, none⟩ v0).setCell ⟨b, 1, none⟩ v1).setCell ⟨b, 2, none⟩ v2).setCell ⟨b, 3, none⟩ v3).setCell ⟨b, 4, none⟩ v4).setCell ⟨b, 5, none⟩ v5).setCell ⟨b, 6, none⟩ v6).setCell ⟨b, 7, none⟩ v7).cell? ⟨b, 7, none⟩ = some v7) ∧ (∀ v0 v1 v2 v3 v4 v5 v6 v7 v8 : Value, (((((((((w.setCell ⟨b, 0, none⟩ v0).setCell ⟨b, 1, none⟩ v1).setCell ⟨b, 2, none⟩ v2).setCell ⟨b, 3, none⟩ v3).setCell ⟨b, 4, none⟩ v4).setCell ⟨b, 5, none⟩ v5).setCell ⟨b, 6, none⟩ v6).setCell ⟨b, 7, none⟩ v7).setCell ⟨b, 8, none⟩ v8).cell? ⟨b, 8, none⟩ = some v8) ∧ (∀ v0 v1 v2 v3 v4 v5 v6 v7 v8 v9 : Value, ((((((((((w.setCell ⟨b, 0, none⟩ v0).setCell ⟨b, 1, none⟩ v1).setCell ⟨b, 2, none⟩ v2).setCell ⟨b, 3, none⟩ v3).setCell ⟨b, 4, none⟩ v4).setCell ⟨b, 5, none⟩ v5).setCell ⟨b, 6, none⟩ v6).setCell ⟨b, 7, none⟩ v7).setCell ⟨b, 8, none⟩ v8).setCell ⟨b, 9, none⟩ v9).cell? ⟨b, 9, none⟩ = some v9) :=
  ⟨fun v0 => (h).put10 (by simp) v0, fun v0 v1 => ((h).setCell 0 v0).put10 (by simp) v1, fun v0 v1 v2 => (((h).setCell 0 v0).setCell 1 v1).put10 (by simp) v2, fun v0 v1 v2 v3 => ((((h).setCell 0 v0).setCell 1 v1).setCell 2 v2).put10 (by simp) v3, fun v0 v1 v2 v3 v4 => (((((h).setCell 0 v0).setCell 1 v1).setCell 2 v2).setCell 3 v3).put10 (by simp) v4, fun v0 v1 v2 v3 v4 v5 => ((((((h).setCell 0 v0).setCell 1 v1).setCell 2 v2).setCell 3 v3).setCell 4 v4).put10 (by simp) v5, fun v0 v1 v2 v3 v4 v5 v6 => (((((((h).setCell 0 v0).setCell 1 v1).setCell 2 v2).setCell 3 v3).setCell 4 v4).setCell 5 v5).put10 (by simp) v6, fun v0 v1 v2 v3 v4 v5 v6 v7 => ((((((((h).setCell 0 v0).setCell 1 v1).setCell 2 v2).setCell 3 v3).setCell 4 v4).setCell 5 v5).setCell 6 v6).put10 (by simp) v7, fun v0 v1 v2 v3 v4 v5 v6 v7 v8 => (((((((((h).setCell 0 v0).setCell 1 v1).setCell 2 v2).setCell 3 v3).setCell 4 v4).setCell 5 v5).setCell 6 v6).setCell 7 v7).put10 (by simp) v8, fun v0 v1 v2 v3 v4 v5 v6 v7 v8 v9 => ((((((((((h).setCell 0 v0).setCell 1 v1).setCell 2 v2).setCell 3 v3).setCell 4 v4).setCell 5 v5).setCell 6 v6).setCell 7 v7).setCell 8 v8).put10 (by simp) v9⟩
theorem ten_cells (h : Blk w b #[c0, c1, c2, c3, c4, c5, c6, c7, c8, c9] t) :
    w.cell? ⟨b, 0, none⟩ = some c0 ∧ w.cell? ⟨b, 1, none⟩ = some c1 ∧ w.cell? ⟨b, 2, none⟩ = some c2 ∧ w.cell? ⟨b, 3, none⟩ = some c3 ∧ w.cell? ⟨b, 4, none⟩ = some c4 ∧ w.cell? ⟨b, 5, none⟩ = some c5 ∧ w.cell? ⟨b, 6, none⟩ = some c6 ∧ w.cell? ⟨b, 7, none⟩ = some c7 ∧ w.cell? ⟨b, 8, none⟩ = some c8 ∧ w.cell? ⟨b, 9, none⟩ = some c9 :=
  ⟨h.cell 0, h.cell 1, h.cell 2, h.cell 3, h.cell 4, h.cell 5, h.cell 6, h.cell 7, h.cell 8, h.cell 9⟩
theorem ten_blk (h : Blk w b #[c0, c1, c2, c3, c4, c5, c6, c7, c8, c9] t) (v0 v1 v2 v3 v4 v5 v6 v7 v8 v9 : Value) : Blk ((((((((((w.setCell ⟨b, 0, none⟩ v0).setCell ⟨b, 1, none⟩ v1).setCell ⟨b, 2, none⟩ v2).setCell ⟨b, 3, none⟩ v3).setCell ⟨b, 4, none⟩ v4).setCell ⟨b, 5, none⟩ v5).setCell ⟨b, 6, none⟩ v6).setCell ⟨b, 7, none⟩ v7).setCell ⟨b, 8, none⟩ v8).setCell ⟨b, 9, none⟩ v9) b #[v0, v1, v2, v3, v4, v5, v6, v7, v8, v9] t := by
  have h1 : Blk (w.setCell ⟨b, 0, none⟩ v0) b #[v0, c1, c2, c3, c4, c5, c6, c7, c8, c9] t := h.setCell 0 v0
  have h2 : Blk ((w.setCell ⟨b, 0, none⟩ v0).setCell ⟨b, 1, none⟩ v1) b #[v0, v1, c2, c3, c4, c5, c6, c7, c8, c9] t := h1.setCell 1 v1
  have h3 : Blk (((w.setCell ⟨b, 0, none⟩ v0).setCell ⟨b, 1, none⟩ v1).setCell ⟨b, 2, none⟩ v2) b #[v0, v1, v2, c3, c4, c5, c6, c7, c8, c9] t := h2.setCell 2 v2
  have h4 : Blk ((((w.setCell ⟨b, 0, none⟩ v0).setCell ⟨b, 1, none⟩ v1).setCell ⟨b, 2, none⟩ v2).setCell ⟨b, 3, none⟩ v3) b #[v0, v1, v2, v3, c4, c5, c6, c7, c8, c9] t := h3.setCell 3 v3
  have h5 : Blk (((((w.setCell ⟨b, 0, none⟩ v0).setCell ⟨b, 1, none⟩ v1).setCell ⟨b, 2, none⟩ v2).setCell ⟨b, 3, none⟩ v3).setCell ⟨b, 4, none⟩ v4) b #[v0, v1, v2, v3, v4, c5, c6, c7, c8, c9] t := h4.setCell 4 v4
  have h6 : Blk ((((((w.setCell ⟨b, 0, none⟩ v0).setCell ⟨b, 1, none⟩ v1).setCell ⟨b, 2, none⟩ v2).setCell ⟨b, 3, none⟩ v3).setCell ⟨b, 4, none⟩ v4).setCell ⟨b, 5, none⟩ v5) b #[v0, v1, v2, v3, v4, v5, c6, c7, c8, c9] t := h5.setCell 5 v5
  have h7 : Blk (((((((w.setCell ⟨b, 0, none⟩ v0).setCell ⟨b, 1, none⟩ v1).setCell ⟨b, 2, none⟩ v2).setCell ⟨b, 3, none⟩ v3).setCell ⟨b, 4, none⟩ v4).setCell ⟨b, 5, none⟩ v5).setCell ⟨b, 6, none⟩ v6) b #[v0, v1, v2, v3, v4, v5, v6, c7, c8, c9] t := h6.setCell 6 v6
  have h8 : Blk ((((((((w.setCell ⟨b, 0, none⟩ v0).setCell ⟨b, 1, none⟩ v1).setCell ⟨b, 2, none⟩ v2).setCell ⟨b, 3, none⟩ v3).setCell ⟨b, 4, none⟩ v4).setCell ⟨b, 5, none⟩ v5).setCell ⟨b, 6, none⟩ v6).setCell ⟨b, 7, none⟩ v7) b #[v0, v1, v2, v3, v4, v5, v6, v7, c8, c9] t := h7.setCell 7 v7
  have h9 : Blk (((((((((w.setCell ⟨b, 0, none⟩ v0).setCell ⟨b, 1, none⟩ v1).setCell ⟨b, 2, none⟩ v2).setCell ⟨b, 3, none⟩ v3).setCell ⟨b, 4, none⟩ v4).setCell ⟨b, 5, none⟩ v5).setCell ⟨b, 6, none⟩ v6).setCell ⟨b, 7, none⟩ v7).setCell ⟨b, 8, none⟩ v8) b #[v0, v1, v2, v3, v4, v5, v6, v7, v8, c9] t := h8.setCell 8 v8
  have h10 : Blk ((((((((((w.setCell ⟨b, 0, none⟩ v0).setCell ⟨b, 1, none⟩ v1).setCell ⟨b, 2, none⟩ v2).setCell ⟨b, 3, none⟩ v3).setCell ⟨b, 4, none⟩ v4).setCell ⟨b, 5, none⟩ v5).setCell ⟨b, 6, none⟩ v6).setCell ⟨b, 7, none⟩ v7).setCell ⟨b, 8, none⟩ v8).setCell ⟨b, 9, none⟩ v9) b #[v0, v1, v2, v3, v4, v5, v6, v7, v8, v9] t := h9.setCell 9 v9
  exact h10
end
theorem below10 {B : Nat} {a w : World} (h : Below B a w) {b : Nat} (hb : B ≤ b) (v0 v1 v2 v3 v4 v5 v6 v7 v8 v9 : Value) : Below B a ((((((((((w.setCell ⟨b, 0, none⟩ v0).setCell ⟨b, 1, none⟩ v1).setCell ⟨b, 2, none⟩ v2).setCell ⟨b, 3, none⟩ v3).setCell ⟨b, 4, none⟩ v4).setCell ⟨b, 5, none⟩ v5).setCell ⟨b, 6, none⟩ v6).setCell ⟨b, 7, none⟩ v7).setCell ⟨b, 8, none⟩ v8).setCell ⟨b, 9, none⟩ v9) := ((((((((((h).setCell (p := ⟨b, 0, none⟩) hb v0).setCell (p := ⟨b, 1, none⟩) hb v1).setCell (p := ⟨b, 2, none⟩) hb v2).setCell (p := ⟨b, 3, none⟩) hb v3).setCell (p := ⟨b, 4, none⟩) hb v4).setCell (p := ⟨b, 5, none⟩) hb v5).setCell (p := ⟨b, 6, none⟩) hb v6).setCell (p := ⟨b, 7, none⟩) hb v7).setCell (p := ⟨b, 8, none⟩) hb v8).setCell (p := ⟨b, 9, none⟩) hb v9
/-- A box for a node that was just made. -/
structure Box10 (w : World) (w' : World) : Prop where
  bel : Below w.heap.size w w'
  blk : Blk w' w.heap.size z10 43
theorem Box10.new (w : World) : Box10 w (w.alloc (.cells #[.int .i64 0, .int .i64 0, .int .i64 0, .int .i64 0, .int .i64 0, .int .u64 0, .int .u64 0, .int .u64 0, .int .u64 0, .string ⟨#[]⟩] 43)) := ⟨(Below.refl _ _).alloc (Nat.le_refl _) _, Blk.new _ _ _⟩
theorem Box10.later {w w1 w2 : World} (h : Box10 w w1) (hb : Below w1.heap.size w1 w2) : Box10 w w2 := ⟨h.bel.trans (hb.mono h.bel.size), h.blk.later hb⟩
end Go.Proofs.YtpbadglfegcdjaaGreatDoor
/- Nodes turned to values of types of their own: walked. -/
namespace Go.Proofs.YtpbadglfegcdjaaGreatDoor
open Go Go.RowKit
set_option linter.unusedVariables false
set_option linter.unusedSimpArgs false

/-- The node as a value of its kind's type. -/
def anyV (k a b lo hi c0 c1 c2 c3 : Int) (s : ByteArray) : Value :=
  if k = 1 then .iface 177 (.agg #[])
  else if k = 2 then .iface 179 (.agg #[.int .u64 c0, .int .u64 c1, .int .u64 c2, .int .u64 c3])
  else if k = 3 then .iface 181 (.agg #[.string s])
  else if k = 6 ∨ k = 8 ∨ k = 9 then .iface 171 (.agg #[.int .i64 k, .int .i64 a])
  else if k = 7 then .iface 173 (.agg #[.int .i64 a, .int .i64 lo, .int .i64 hi])
  else if k = 4 ∨ k = 5 then .iface 175 (.agg #[.int .i64 k, .int .i64 a, .int .i64 b])
  else .nilIface
set_option maxHeartbeats 4000000 in
set_option maxRecDepth 100000 in
theorem turned_raw (k a b lo hi c0 c1 c2 c3 : Int) (s : ByteArray) (w : World) :
    Calls Tryz.prog 130 #[.agg #[.int .i64 k, .int .i64 a, .int .i64 b, .int .i64 lo, .int .i64 hi, .int .u64 c0, .int .u64 c1, .int .u64 c2, .int .u64 c3, .string s]] w (Ans w (anyV k a b lo hi c0 c1 c2 c3 s)) := by
  obtain ⟨V, hV⟩ : ∃ V, V = anyV k a b lo hi c0 c1 c2 c3 s := ⟨_, rfl⟩
  rw [← hV]
  unfold anyV at hV
  by_cases h1 : k = 1
  · subst h1
    rw [if_pos rfl] at hV
    subst hV
    go_enter Tryz.func130, Tryz.ntmps130
    go_wp2
    go_ret
    exact ⟨rfl, (Below.refl _ _).alloc (Nat.le_refl _) _⟩
  by_cases h2 : k = 2
  · subst h2
    rw [if_neg (by decide), if_pos rfl] at hV
    subst hV
    go_enter Tryz.func130, Tryz.ntmps130
    go_wp2
    go_ret
    exact ⟨rfl, (Below.refl _ _).alloc (Nat.le_refl _) _⟩
  by_cases h3 : k = 3
  · subst h3
    rw [if_neg (by decide), if_neg (by decide), if_pos rfl] at hV
    subst hV
    go_enter Tryz.func130, Tryz.ntmps130
    go_wp2
    go_ret
    exact ⟨rfl, (Below.refl _ _).alloc (Nat.le_refl _) _⟩
  rw [if_neg h1, if_neg h2, if_neg h3] at hV
  by_cases h6 : k = 6 ∨ k = 8 ∨ k = 9
  · rw [if_pos h6] at hV
    subst hV
    rcases h6 with rfl | rfl | rfl
    all_goals
      clear h1 h2 h3
      go_enter Tryz.func130, Tryz.ntmps130
      go_wp2
      go_ret
      exact ⟨rfl, (Below.refl _ _).alloc (Nat.le_refl _) _⟩
  rw [if_neg h6] at hV
  by_cases h7 : k = 7
  · rw [if_pos h7] at hV
    subst hV
    subst h7
    clear h1 h2 h3 h6
    go_enter Tryz.func130, Tryz.ntmps130
    go_wp2
    go_ret
    exact ⟨rfl, (Below.refl _ _).alloc (Nat.le_refl _) _⟩
  rw [if_neg h7] at hV
  by_cases h4 : k = 4 ∨ k = 5
  · rw [if_pos h4] at hV
    subst hV
    rcases h4 with rfl | rfl
    all_goals
      clear h1 h2 h3 h6 h7
      go_enter Tryz.func130, Tryz.ntmps130
      go_wp2
      go_ret
      exact ⟨rfl, (Below.refl _ _).alloc (Nat.le_refl _) _⟩
  rw [if_neg h4] at hV
  subst hV
  have g1 : (k == 1) = false := by rw [beq_eq_false_iff_ne]; omega
  have g2 : (k == 2) = false := by rw [beq_eq_false_iff_ne]; omega
  have g3 : (k == 3) = false := by rw [beq_eq_false_iff_ne]; omega
  have g4 : (k == 4) = false := by rw [beq_eq_false_iff_ne]; omega
  have g5 : (k == 5) = false := by rw [beq_eq_false_iff_ne]; omega
  have g6 : (k == 6) = false := by rw [beq_eq_false_iff_ne]; omega
  have g7 : (k == 7) = false := by rw [beq_eq_false_iff_ne]; omega
  have g8 : (k == 8) = false := by rw [beq_eq_false_iff_ne]; omega
  have g9 : (k == 9) = false := by rw [beq_eq_false_iff_ne]; omega
  clear h1 h2 h3 h6 h7 h4
  go_enter Tryz.func130, Tryz.ntmps130
  go_wp2
  go_ret
  exact ⟨rfl, (Below.refl _ _).alloc (Nat.le_refl _) _⟩
end Go.Proofs.YtpbadglfegcdjaaGreatDoor
/- The node of a value of a type of its own: walked. -/
namespace Go.Proofs.YtpbadglfegcdjaaGreatDoor
open Go Go.RowKit
set_option linter.unusedVariables false
set_option linter.unusedSimpArgs false

theorem as_empty_empty (v : Value) (w : World) : (Instr.typeAssert (.iface 177 v) 20 177 true).run Tryz.prog w = .ok (.tuple #[v, .bool true]) w := by kernel_rfl
theorem as_empty_set (v : Value) (w : World) : (Instr.typeAssert (.iface 177 v) 20 179 true).run Tryz.prog w = .ok (.tuple #[.agg #[.int .u64 0, .int .u64 0, .int .u64 0, .int .u64 0], .bool false]) w := by kernel_rfl
theorem as_empty_text (v : Value) (w : World) : (Instr.typeAssert (.iface 177 v) 20 181 true).run Tryz.prog w = .ok (.tuple #[.agg #[.string ByteArray.empty], .bool false]) w := by kernel_rfl
theorem as_empty_one (v : Value) (w : World) : (Instr.typeAssert (.iface 177 v) 20 171 true).run Tryz.prog w = .ok (.tuple #[.agg #[.int .i64 0, .int .i64 0], .bool false]) w := by kernel_rfl
theorem as_empty_times (v : Value) (w : World) : (Instr.typeAssert (.iface 177 v) 20 173 true).run Tryz.prog w = .ok (.tuple #[.agg #[.int .i64 0, .int .i64 0, .int .i64 0], .bool false]) w := by kernel_rfl
theorem as_empty_two (v : Value) (w : World) : (Instr.typeAssert (.iface 177 v) 20 175 true).run Tryz.prog w = .ok (.tuple #[.agg #[.int .i64 0, .int .i64 0, .int .i64 0], .bool false]) w := by kernel_rfl
theorem as_set_empty (v : Value) (w : World) : (Instr.typeAssert (.iface 179 v) 20 177 true).run Tryz.prog w = .ok (.tuple #[.agg #[], .bool false]) w := by kernel_rfl
theorem as_set_set (v : Value) (w : World) : (Instr.typeAssert (.iface 179 v) 20 179 true).run Tryz.prog w = .ok (.tuple #[v, .bool true]) w := by kernel_rfl
theorem as_set_text (v : Value) (w : World) : (Instr.typeAssert (.iface 179 v) 20 181 true).run Tryz.prog w = .ok (.tuple #[.agg #[.string ByteArray.empty], .bool false]) w := by kernel_rfl
theorem as_set_one (v : Value) (w : World) : (Instr.typeAssert (.iface 179 v) 20 171 true).run Tryz.prog w = .ok (.tuple #[.agg #[.int .i64 0, .int .i64 0], .bool false]) w := by kernel_rfl
theorem as_set_times (v : Value) (w : World) : (Instr.typeAssert (.iface 179 v) 20 173 true).run Tryz.prog w = .ok (.tuple #[.agg #[.int .i64 0, .int .i64 0, .int .i64 0], .bool false]) w := by kernel_rfl
theorem as_set_two (v : Value) (w : World) : (Instr.typeAssert (.iface 179 v) 20 175 true).run Tryz.prog w = .ok (.tuple #[.agg #[.int .i64 0, .int .i64 0, .int .i64 0], .bool false]) w := by kernel_rfl
theorem as_text_empty (v : Value) (w : World) : (Instr.typeAssert (.iface 181 v) 20 177 true).run Tryz.prog w = .ok (.tuple #[.agg #[], .bool false]) w := by kernel_rfl
theorem as_text_set (v : Value) (w : World) : (Instr.typeAssert (.iface 181 v) 20 179 true).run Tryz.prog w = .ok (.tuple #[.agg #[.int .u64 0, .int .u64 0, .int .u64 0, .int .u64 0], .bool false]) w := by kernel_rfl
theorem as_text_text (v : Value) (w : World) : (Instr.typeAssert (.iface 181 v) 20 181 true).run Tryz.prog w = .ok (.tuple #[v, .bool true]) w := by kernel_rfl
theorem as_text_one (v : Value) (w : World) : (Instr.typeAssert (.iface 181 v) 20 171 true).run Tryz.prog w = .ok (.tuple #[.agg #[.int .i64 0, .int .i64 0], .bool false]) w := by kernel_rfl
theorem as_text_times (v : Value) (w : World) : (Instr.typeAssert (.iface 181 v) 20 173 true).run Tryz.prog w = .ok (.tuple #[.agg #[.int .i64 0, .int .i64 0, .int .i64 0], .bool false]) w := by kernel_rfl
theorem as_text_two (v : Value) (w : World) : (Instr.typeAssert (.iface 181 v) 20 175 true).run Tryz.prog w = .ok (.tuple #[.agg #[.int .i64 0, .int .i64 0, .int .i64 0], .bool false]) w := by kernel_rfl
theorem as_one_empty (v : Value) (w : World) : (Instr.typeAssert (.iface 171 v) 20 177 true).run Tryz.prog w = .ok (.tuple #[.agg #[], .bool false]) w := by kernel_rfl
theorem as_one_set (v : Value) (w : World) : (Instr.typeAssert (.iface 171 v) 20 179 true).run Tryz.prog w = .ok (.tuple #[.agg #[.int .u64 0, .int .u64 0, .int .u64 0, .int .u64 0], .bool false]) w := by kernel_rfl
theorem as_one_text (v : Value) (w : World) : (Instr.typeAssert (.iface 171 v) 20 181 true).run Tryz.prog w = .ok (.tuple #[.agg #[.string ByteArray.empty], .bool false]) w := by kernel_rfl
theorem as_one_one (v : Value) (w : World) : (Instr.typeAssert (.iface 171 v) 20 171 true).run Tryz.prog w = .ok (.tuple #[v, .bool true]) w := by kernel_rfl
theorem as_one_times (v : Value) (w : World) : (Instr.typeAssert (.iface 171 v) 20 173 true).run Tryz.prog w = .ok (.tuple #[.agg #[.int .i64 0, .int .i64 0, .int .i64 0], .bool false]) w := by kernel_rfl
theorem as_one_two (v : Value) (w : World) : (Instr.typeAssert (.iface 171 v) 20 175 true).run Tryz.prog w = .ok (.tuple #[.agg #[.int .i64 0, .int .i64 0, .int .i64 0], .bool false]) w := by kernel_rfl
theorem as_times_empty (v : Value) (w : World) : (Instr.typeAssert (.iface 173 v) 20 177 true).run Tryz.prog w = .ok (.tuple #[.agg #[], .bool false]) w := by kernel_rfl
theorem as_times_set (v : Value) (w : World) : (Instr.typeAssert (.iface 173 v) 20 179 true).run Tryz.prog w = .ok (.tuple #[.agg #[.int .u64 0, .int .u64 0, .int .u64 0, .int .u64 0], .bool false]) w := by kernel_rfl
theorem as_times_text (v : Value) (w : World) : (Instr.typeAssert (.iface 173 v) 20 181 true).run Tryz.prog w = .ok (.tuple #[.agg #[.string ByteArray.empty], .bool false]) w := by kernel_rfl
theorem as_times_one (v : Value) (w : World) : (Instr.typeAssert (.iface 173 v) 20 171 true).run Tryz.prog w = .ok (.tuple #[.agg #[.int .i64 0, .int .i64 0], .bool false]) w := by kernel_rfl
theorem as_times_times (v : Value) (w : World) : (Instr.typeAssert (.iface 173 v) 20 173 true).run Tryz.prog w = .ok (.tuple #[v, .bool true]) w := by kernel_rfl
theorem as_times_two (v : Value) (w : World) : (Instr.typeAssert (.iface 173 v) 20 175 true).run Tryz.prog w = .ok (.tuple #[.agg #[.int .i64 0, .int .i64 0, .int .i64 0], .bool false]) w := by kernel_rfl
theorem as_two_empty (v : Value) (w : World) : (Instr.typeAssert (.iface 175 v) 20 177 true).run Tryz.prog w = .ok (.tuple #[.agg #[], .bool false]) w := by kernel_rfl
theorem as_two_set (v : Value) (w : World) : (Instr.typeAssert (.iface 175 v) 20 179 true).run Tryz.prog w = .ok (.tuple #[.agg #[.int .u64 0, .int .u64 0, .int .u64 0, .int .u64 0], .bool false]) w := by kernel_rfl
theorem as_two_text (v : Value) (w : World) : (Instr.typeAssert (.iface 175 v) 20 181 true).run Tryz.prog w = .ok (.tuple #[.agg #[.string ByteArray.empty], .bool false]) w := by kernel_rfl
theorem as_two_one (v : Value) (w : World) : (Instr.typeAssert (.iface 175 v) 20 171 true).run Tryz.prog w = .ok (.tuple #[.agg #[.int .i64 0, .int .i64 0], .bool false]) w := by kernel_rfl
theorem as_two_times (v : Value) (w : World) : (Instr.typeAssert (.iface 175 v) 20 173 true).run Tryz.prog w = .ok (.tuple #[.agg #[.int .i64 0, .int .i64 0, .int .i64 0], .bool false]) w := by kernel_rfl
theorem as_two_two (v : Value) (w : World) : (Instr.typeAssert (.iface 175 v) 20 175 true).run Tryz.prog w = .ok (.tuple #[v, .bool true]) w := by kernel_rfl
theorem as_nil_empty (w : World) : (Instr.typeAssert .nilIface 20 177 true).run Tryz.prog w = .ok (.tuple #[.agg #[], .bool false]) w := by kernel_rfl
theorem as_nil_set (w : World) : (Instr.typeAssert .nilIface 20 179 true).run Tryz.prog w = .ok (.tuple #[.agg #[.int .u64 0, .int .u64 0, .int .u64 0, .int .u64 0], .bool false]) w := by kernel_rfl
theorem as_nil_text (w : World) : (Instr.typeAssert .nilIface 20 181 true).run Tryz.prog w = .ok (.tuple #[.agg #[.string ByteArray.empty], .bool false]) w := by kernel_rfl
theorem as_nil_one (w : World) : (Instr.typeAssert .nilIface 20 171 true).run Tryz.prog w = .ok (.tuple #[.agg #[.int .i64 0, .int .i64 0], .bool false]) w := by kernel_rfl
theorem as_nil_times (w : World) : (Instr.typeAssert .nilIface 20 173 true).run Tryz.prog w = .ok (.tuple #[.agg #[.int .i64 0, .int .i64 0, .int .i64 0], .bool false]) w := by kernel_rfl
theorem as_nil_two (w : World) : (Instr.typeAssert .nilIface 20 175 true).run Tryz.prog w = .ok (.tuple #[.agg #[.int .i64 0, .int .i64 0, .int .i64 0], .bool false]) w := by kernel_rfl
end Go.Proofs.YtpbadglfegcdjaaGreatDoor
/- Nodes moved: walked. -/
namespace Go.Proofs.YtpbadglfegcdjaaGreatDoor
open Go Go.RowKit
set_option linter.unusedVariables false
set_option linter.unusedSimpArgs false

structure MvB (w0 : World) (vs : Array Value) (w : World) : Prop where
  bel : Below w0.heap.size w0 w
  src : Blk w w0.heap.size vs 43
  res : Blk w (w0.heap.size + 1) z10 43
theorem MvB.later {w0 w w' : World} {vs : Array Value} (h : MvB w0 vs w) (hb : Below w.heap.size w w') : MvB w0 vs w' := ⟨h.bel.trans (hb.mono h.bel.size), h.src.later hb, h.res.later hb⟩
theorem MvB.set {w0 w : World} {vs : Array Value} (h : MvB w0 vs w) (o : Nat) (v : Value) : MvB w0 (vs.setIfInBounds o v) (w.setCell ⟨w0.heap.size, o, none⟩ v) :=
  ⟨h.bel.setCell (p := ⟨w0.heap.size, o, none⟩) (Nat.le_refl _) v, h.src.setCell o v, h.res.setCell_ne (a := ⟨w0.heap.size, o, none⟩) (by show w0.heap.size ≠ _; omega) v⟩
theorem MvB.new (w : World) (vs : Array Value) : MvB w vs ((w.alloc (.cells vs 43)).alloc (.cells #[.int .i64 0, .int .i64 0, .int .i64 0, .int .i64 0, .int .i64 0, .int .u64 0, .int .u64 0, .int .u64 0, .int .u64 0, .string ⟨#[]⟩] 43)) :=
  ⟨((Below.refl _ _).alloc (Nat.le_refl _) _).alloc (by simp) _, (Blk.new w vs _).alloc _, by have := Blk.new (w.alloc (.cells vs 43)) z10 43; simpa [z10] using this⟩
theorem turned_empty (a b lo hi c0 c1 c2 c3 : Int) (s : ByteArray) (w : World) : Calls Tryz.prog 130 #[.agg #[.int .i64 1, .int .i64 a, .int .i64 b, .int .i64 lo, .int .i64 hi, .int .u64 c0, .int .u64 c1, .int .u64 c2, .int .u64 c3, .string s]] w (Ans w (.iface 177 (.agg #[]))) := by
  have h := turned_raw 1 a b lo hi c0 c1 c2 c3 s w
  have e : anyV 1 a b lo hi c0 c1 c2 c3 s = .iface 177 (.agg #[]) := by unfold anyV; simp
  rw [e] at h; exact h
theorem turned_set (a b lo hi c0 c1 c2 c3 : Int) (s : ByteArray) (w : World) : Calls Tryz.prog 130 #[.agg #[.int .i64 2, .int .i64 a, .int .i64 b, .int .i64 lo, .int .i64 hi, .int .u64 c0, .int .u64 c1, .int .u64 c2, .int .u64 c3, .string s]] w (Ans w (.iface 179 (.agg #[.int .u64 c0, .int .u64 c1, .int .u64 c2, .int .u64 c3]))) := by
  have h := turned_raw 2 a b lo hi c0 c1 c2 c3 s w
  have e : anyV 2 a b lo hi c0 c1 c2 c3 s = .iface 179 (.agg #[.int .u64 c0, .int .u64 c1, .int .u64 c2, .int .u64 c3]) := by unfold anyV; simp
  rw [e] at h; exact h
theorem turned_text (a b lo hi c0 c1 c2 c3 : Int) (s : ByteArray) (w : World) : Calls Tryz.prog 130 #[.agg #[.int .i64 3, .int .i64 a, .int .i64 b, .int .i64 lo, .int .i64 hi, .int .u64 c0, .int .u64 c1, .int .u64 c2, .int .u64 c3, .string s]] w (Ans w (.iface 181 (.agg #[.string s]))) := by
  have h := turned_raw 3 a b lo hi c0 c1 c2 c3 s w
  have e : anyV 3 a b lo hi c0 c1 c2 c3 s = .iface 181 (.agg #[.string s]) := by unfold anyV; simp
  rw [e] at h; exact h
theorem turned_one (k a b lo hi c0 c1 c2 c3 : Int) (s : ByteArray) (hk : k = 6 ∨ k = 8 ∨ k = 9) (w : World) : Calls Tryz.prog 130 #[.agg #[.int .i64 k, .int .i64 a, .int .i64 b, .int .i64 lo, .int .i64 hi, .int .u64 c0, .int .u64 c1, .int .u64 c2, .int .u64 c3, .string s]] w (Ans w (.iface 171 (.agg #[.int .i64 k, .int .i64 a]))) := by
  have h := turned_raw k a b lo hi c0 c1 c2 c3 s w
  have e : anyV k a b lo hi c0 c1 c2 c3 s = .iface 171 (.agg #[.int .i64 k, .int .i64 a]) := by unfold anyV; rcases hk with rfl | rfl | rfl <;> simp
  rw [e] at h; exact h
theorem turned_times (a b lo hi c0 c1 c2 c3 : Int) (s : ByteArray) (w : World) : Calls Tryz.prog 130 #[.agg #[.int .i64 7, .int .i64 a, .int .i64 b, .int .i64 lo, .int .i64 hi, .int .u64 c0, .int .u64 c1, .int .u64 c2, .int .u64 c3, .string s]] w (Ans w (.iface 173 (.agg #[.int .i64 a, .int .i64 lo, .int .i64 hi]))) := by
  have h := turned_raw 7 a b lo hi c0 c1 c2 c3 s w
  have e : anyV 7 a b lo hi c0 c1 c2 c3 s = .iface 173 (.agg #[.int .i64 a, .int .i64 lo, .int .i64 hi]) := by unfold anyV; simp
  rw [e] at h; exact h
theorem turned_two (k a b lo hi c0 c1 c2 c3 : Int) (s : ByteArray) (hk : k = 4 ∨ k = 5) (w : World) : Calls Tryz.prog 130 #[.agg #[.int .i64 k, .int .i64 a, .int .i64 b, .int .i64 lo, .int .i64 hi, .int .u64 c0, .int .u64 c1, .int .u64 c2, .int .u64 c3, .string s]] w (Ans w (.iface 175 (.agg #[.int .i64 k, .int .i64 a, .int .i64 b]))) := by
  have h := turned_raw k a b lo hi c0 c1 c2 c3 s w
  have e : anyV k a b lo hi c0 c1 c2 c3 s = .iface 175 (.agg #[.int .i64 k, .int .i64 a, .int .i64 b]) := by unfold anyV; rcases hk with rfl | rfl <;> simp
  rw [e] at h; exact h
theorem turned_nil (k a b lo hi c0 c1 c2 c3 : Int) (s : ByteArray) (h4 : ¬ (4 ≤ k ∧ k ≤ 9)) (h1 : k ≠ 1) (h2 : k ≠ 2) (h3 : k ≠ 3) (w : World) : Calls Tryz.prog 130 #[.agg #[.int .i64 k, .int .i64 a, .int .i64 b, .int .i64 lo, .int .i64 hi, .int .u64 c0, .int .u64 c1, .int .u64 c2, .int .u64 c3, .string s]] w (Ans w (.nilIface)) := by
  have h := turned_raw k a b lo hi c0 c1 c2 c3 s w
  have e : anyV k a b lo hi c0 c1 c2 c3 s = .nilIface := by unfold anyV; rw [if_neg h1, if_neg h2, if_neg h3, if_neg (by omega), if_neg (by omega), if_neg (by omega)]
  rw [e] at h; exact h
set_option maxHeartbeats 8000000 in
set_option maxRecDepth 100000 in
theorem moved_empty (a b lo hi c0 c1 c2 c3 d : Int) (s : ByteArray) (hs : s.size ≤ 281474976710656) (w : World) : Calls Tryz.prog 129 #[.agg #[.int .i64 1, .int .i64 a, .int .i64 b, .int .i64 lo, .int .i64 hi, .int .u64 c0, .int .u64 c1, .int .u64 c2, .int .u64 c3, .string s], .int .i64 d] w (Ans w (.agg #[.int .i64 1, .int .i64 a, .int .i64 b, .int .i64 lo, .int .i64 hi, .int .u64 c0, .int .u64 c1, .int .u64 c2, .int .u64 c3, .string s])) := by
  have hone := as_empty_one
  have htimes := as_empty_times
  have htwo := as_empty_two
  have TU := Lib.hid (fun w => turned_empty a b lo hi c0 c1 c2 c3 s w)
  go_enter Tryz.func129, Tryz.ntmps129
  go_wp2_with fail
  refine (TU.out _).mono ?_; rintro e w1 ⟨rfl, hb1⟩
  have H1 := Lib.hid ((MvB.new w #[.int .i64 1, .int .i64 a, .int .i64 b, .int .i64 lo, .int .i64 hi, .int .u64 c0, .int .u64 c1, .int .u64 c2, .int .u64 c3, .string s]).later hb1)
  clear hb1 TU
  have g1 := H1.out.src
  have ef1 := g1.frozen
  obtain ⟨e0, e1, e2, e3, e4, e5, e6, e7, e8, e9⟩ := ten_cells g1
  clear g1
  go_wp2_with fail
  refine (clone_any _ _ hs).mono ?_; rintro e wc ⟨rfl, hbc⟩
  have HC := Lib.hid (H1.out.later hbc)
  clear hbc e0 e1 e2 e3 e4 e5 e6 e7 e8 e9 ef1
  have g := HC.out.src
  have ef := g.frozen
  obtain ⟨e0, e1, e2, e3, e4, e5, e6, e7, e8, e9⟩ := ten_cells g
  clear g
  go_upto_region 8 with (fail)
  have HD : Hid (MvB w #[.int .i64 1, .int .i64 a, .int .i64 b, .int .i64 lo, .int .i64 hi, .int .u64 c0, .int .u64 c1, .int .u64 c2, .int .u64 c3, .string s] _) := HC.out.set 9 (.string s)
  generalize wc.setCell ⟨w.heap.size, 9, none⟩ (.string s) = wd at *
  clear e0 e1 e2 e3 e4 e5 e6 e7 e8 e9 ef
  have g := HD.out.src
  obtain ⟨e0, e1, e2, e3, e4, e5, e6, e7, e8, e9⟩ := ten_cells g
  clear g
  have hk := HD.out.res
  unfold z10 at hk
  have ef := hk.frozen
  obtain ⟨r0, r1, r2, r3, r4, r5, r6, r7, r8, r9⟩ := ten_cells hk
  obtain ⟨s0, s1, s2, s3, s4, s5, s6, s7, s8, s9⟩ := ten hk
  clear hk
  go_wp2
  exact bodyPost_ret (v := .agg #[.int .i64 1, .int .i64 a, .int .i64 b, .int .i64 lo, .int .i64 hi, .int .u64 c0, .int .u64 c1, .int .u64 c2, .int .u64 c3, .string s]) (by simp [results, Tryz.results129, go_sem, s0, s1, s2, s3, s4, s5, s6, s7, s8, s9]) rfl ⟨rfl, below10 HD.out.bel (Nat.le_succ _) _ _ _ _ _ _ _ _ _ _⟩
set_option maxHeartbeats 8000000 in
set_option maxRecDepth 100000 in
theorem moved_set (a b lo hi c0 c1 c2 c3 d : Int) (s : ByteArray) (hs : s.size ≤ 281474976710656) (w : World) : Calls Tryz.prog 129 #[.agg #[.int .i64 2, .int .i64 a, .int .i64 b, .int .i64 lo, .int .i64 hi, .int .u64 c0, .int .u64 c1, .int .u64 c2, .int .u64 c3, .string s], .int .i64 d] w (Ans w (.agg #[.int .i64 2, .int .i64 a, .int .i64 b, .int .i64 lo, .int .i64 hi, .int .u64 c0, .int .u64 c1, .int .u64 c2, .int .u64 c3, .string s])) := by
  have hone := as_set_one
  have htimes := as_set_times
  have htwo := as_set_two
  have TU := Lib.hid (fun w => turned_set a b lo hi c0 c1 c2 c3 s w)
  go_enter Tryz.func129, Tryz.ntmps129
  go_wp2_with fail
  refine (TU.out _).mono ?_; rintro e w1 ⟨rfl, hb1⟩
  have H1 := Lib.hid ((MvB.new w #[.int .i64 2, .int .i64 a, .int .i64 b, .int .i64 lo, .int .i64 hi, .int .u64 c0, .int .u64 c1, .int .u64 c2, .int .u64 c3, .string s]).later hb1)
  clear hb1 TU
  have g1 := H1.out.src
  have ef1 := g1.frozen
  obtain ⟨e0, e1, e2, e3, e4, e5, e6, e7, e8, e9⟩ := ten_cells g1
  clear g1
  go_wp2_with fail
  refine (clone_any _ _ hs).mono ?_; rintro e wc ⟨rfl, hbc⟩
  have HC := Lib.hid (H1.out.later hbc)
  clear hbc e0 e1 e2 e3 e4 e5 e6 e7 e8 e9 ef1
  have g := HC.out.src
  have ef := g.frozen
  obtain ⟨e0, e1, e2, e3, e4, e5, e6, e7, e8, e9⟩ := ten_cells g
  clear g
  go_upto_region 8 with (fail)
  have HD : Hid (MvB w #[.int .i64 2, .int .i64 a, .int .i64 b, .int .i64 lo, .int .i64 hi, .int .u64 c0, .int .u64 c1, .int .u64 c2, .int .u64 c3, .string s] _) := HC.out.set 9 (.string s)
  generalize wc.setCell ⟨w.heap.size, 9, none⟩ (.string s) = wd at *
  clear e0 e1 e2 e3 e4 e5 e6 e7 e8 e9 ef
  have g := HD.out.src
  obtain ⟨e0, e1, e2, e3, e4, e5, e6, e7, e8, e9⟩ := ten_cells g
  clear g
  have hk := HD.out.res
  unfold z10 at hk
  have ef := hk.frozen
  obtain ⟨r0, r1, r2, r3, r4, r5, r6, r7, r8, r9⟩ := ten_cells hk
  obtain ⟨s0, s1, s2, s3, s4, s5, s6, s7, s8, s9⟩ := ten hk
  clear hk
  go_wp2
  exact bodyPost_ret (v := .agg #[.int .i64 2, .int .i64 a, .int .i64 b, .int .i64 lo, .int .i64 hi, .int .u64 c0, .int .u64 c1, .int .u64 c2, .int .u64 c3, .string s]) (by simp [results, Tryz.results129, go_sem, s0, s1, s2, s3, s4, s5, s6, s7, s8, s9]) rfl ⟨rfl, below10 HD.out.bel (Nat.le_succ _) _ _ _ _ _ _ _ _ _ _⟩
set_option maxHeartbeats 8000000 in
set_option maxRecDepth 100000 in
theorem moved_text (a b lo hi c0 c1 c2 c3 d : Int) (s : ByteArray) (hs : s.size ≤ 281474976710656) (w : World) : Calls Tryz.prog 129 #[.agg #[.int .i64 3, .int .i64 a, .int .i64 b, .int .i64 lo, .int .i64 hi, .int .u64 c0, .int .u64 c1, .int .u64 c2, .int .u64 c3, .string s], .int .i64 d] w (Ans w (.agg #[.int .i64 3, .int .i64 a, .int .i64 b, .int .i64 lo, .int .i64 hi, .int .u64 c0, .int .u64 c1, .int .u64 c2, .int .u64 c3, .string s])) := by
  have hone := as_text_one
  have htimes := as_text_times
  have htwo := as_text_two
  have TU := Lib.hid (fun w => turned_text a b lo hi c0 c1 c2 c3 s w)
  go_enter Tryz.func129, Tryz.ntmps129
  go_wp2_with fail
  refine (TU.out _).mono ?_; rintro e w1 ⟨rfl, hb1⟩
  have H1 := Lib.hid ((MvB.new w #[.int .i64 3, .int .i64 a, .int .i64 b, .int .i64 lo, .int .i64 hi, .int .u64 c0, .int .u64 c1, .int .u64 c2, .int .u64 c3, .string s]).later hb1)
  clear hb1 TU
  have g1 := H1.out.src
  have ef1 := g1.frozen
  obtain ⟨e0, e1, e2, e3, e4, e5, e6, e7, e8, e9⟩ := ten_cells g1
  clear g1
  go_wp2_with fail
  refine (clone_any _ _ hs).mono ?_; rintro e wc ⟨rfl, hbc⟩
  have HC := Lib.hid (H1.out.later hbc)
  clear hbc e0 e1 e2 e3 e4 e5 e6 e7 e8 e9 ef1
  have g := HC.out.src
  have ef := g.frozen
  obtain ⟨e0, e1, e2, e3, e4, e5, e6, e7, e8, e9⟩ := ten_cells g
  clear g
  go_upto_region 8 with (fail)
  have HD : Hid (MvB w #[.int .i64 3, .int .i64 a, .int .i64 b, .int .i64 lo, .int .i64 hi, .int .u64 c0, .int .u64 c1, .int .u64 c2, .int .u64 c3, .string s] _) := HC.out.set 9 (.string s)
  generalize wc.setCell ⟨w.heap.size, 9, none⟩ (.string s) = wd at *
  clear e0 e1 e2 e3 e4 e5 e6 e7 e8 e9 ef
  have g := HD.out.src
  obtain ⟨e0, e1, e2, e3, e4, e5, e6, e7, e8, e9⟩ := ten_cells g
  clear g
  have hk := HD.out.res
  unfold z10 at hk
  have ef := hk.frozen
  obtain ⟨r0, r1, r2, r3, r4, r5, r6, r7, r8, r9⟩ := ten_cells hk
  obtain ⟨s0, s1, s2, s3, s4, s5, s6, s7, s8, s9⟩ := ten hk
  clear hk
  go_wp2
  exact bodyPost_ret (v := .agg #[.int .i64 3, .int .i64 a, .int .i64 b, .int .i64 lo, .int .i64 hi, .int .u64 c0, .int .u64 c1, .int .u64 c2, .int .u64 c3, .string s]) (by simp [results, Tryz.results129, go_sem, s0, s1, s2, s3, s4, s5, s6, s7, s8, s9]) rfl ⟨rfl, below10 HD.out.bel (Nat.le_succ _) _ _ _ _ _ _ _ _ _ _⟩
set_option maxHeartbeats 8000000 in
set_option maxRecDepth 100000 in
theorem moved_one (k a b lo hi c0 c1 c2 c3 d : Int) (s : ByteArray) (hk : k = 6 ∨ k = 8 ∨ k = 9) (ha : IntKind.i64.wrap (a + d) = a + d) (hs : s.size ≤ 281474976710656) (w : World) : Calls Tryz.prog 129 #[.agg #[.int .i64 k, .int .i64 a, .int .i64 b, .int .i64 lo, .int .i64 hi, .int .u64 c0, .int .u64 c1, .int .u64 c2, .int .u64 c3, .string s], .int .i64 d] w (Ans w (.agg #[.int .i64 k, .int .i64 (a + d), .int .i64 b, .int .i64 lo, .int .i64 hi, .int .u64 c0, .int .u64 c1, .int .u64 c2, .int .u64 c3, .string s])) := by
  have hone := as_one_one
  have htimes := as_one_times
  have htwo := as_one_two
  have HWA := Lib.hid ha
  clear ha
  have TU := Lib.hid (fun w => turned_one k a b lo hi c0 c1 c2 c3 s hk w)
  clear hk
  go_enter Tryz.func129, Tryz.ntmps129
  go_wp2_with fail
  refine (TU.out _).mono ?_; rintro e w1 ⟨rfl, hb1⟩
  have H1 := Lib.hid ((MvB.new w #[.int .i64 k, .int .i64 a, .int .i64 b, .int .i64 lo, .int .i64 hi, .int .u64 c0, .int .u64 c1, .int .u64 c2, .int .u64 c3, .string s]).later hb1)
  clear hb1 TU
  have g1 := H1.out.src
  have ef1 := g1.frozen
  obtain ⟨e0, e1, e2, e3, e4, e5, e6, e7, e8, e9⟩ := ten_cells g1
  clear g1
  have hwa := HWA.out
  go_upto_region 7 with (fail)
  have H2 : Hid (MvB w #[.int .i64 k, .int .i64 (a + d), .int .i64 b, .int .i64 lo, .int .i64 hi, .int .u64 c0, .int .u64 c1, .int .u64 c2, .int .u64 c3, .string s] _) := H1.out.set 1 (.int .i64 (a + d))
  generalize w1.setCell ⟨w.heap.size, 1, none⟩ (.int .i64 (a + d)) = w2 at *
  clear e0 e1 e2 e3 e4 e5 e6 e7 e8 e9 ef1 hwa
  have g2 := H2.out.src
  have ef2 := g2.frozen
  obtain ⟨e0, e1, e2, e3, e4, e5, e6, e7, e8, e9⟩ := ten_cells g2
  clear g2
  go_wp2_with fail
  refine (clone_any _ _ hs).mono ?_; rintro e wc ⟨rfl, hbc⟩
  have HC := Lib.hid (H2.out.later hbc)
  clear hbc e0 e1 e2 e3 e4 e5 e6 e7 e8 e9 ef2
  have g := HC.out.src
  have ef := g.frozen
  obtain ⟨e0, e1, e2, e3, e4, e5, e6, e7, e8, e9⟩ := ten_cells g
  clear g
  go_upto_region 8 with (fail)
  have HD : Hid (MvB w #[.int .i64 k, .int .i64 (a + d), .int .i64 b, .int .i64 lo, .int .i64 hi, .int .u64 c0, .int .u64 c1, .int .u64 c2, .int .u64 c3, .string s] _) := HC.out.set 9 (.string s)
  generalize wc.setCell ⟨w.heap.size, 9, none⟩ (.string s) = wd at *
  clear e0 e1 e2 e3 e4 e5 e6 e7 e8 e9 ef
  have g := HD.out.src
  obtain ⟨e0, e1, e2, e3, e4, e5, e6, e7, e8, e9⟩ := ten_cells g
  clear g
  have hk := HD.out.res
  unfold z10 at hk
  have ef := hk.frozen
  obtain ⟨r0, r1, r2, r3, r4, r5, r6, r7, r8, r9⟩ := ten_cells hk
  obtain ⟨s0, s1, s2, s3, s4, s5, s6, s7, s8, s9⟩ := ten hk
  clear hk
  go_wp2
  exact bodyPost_ret (v := .agg #[.int .i64 k, .int .i64 (a + d), .int .i64 b, .int .i64 lo, .int .i64 hi, .int .u64 c0, .int .u64 c1, .int .u64 c2, .int .u64 c3, .string s]) (by simp [results, Tryz.results129, go_sem, s0, s1, s2, s3, s4, s5, s6, s7, s8, s9]) rfl ⟨rfl, below10 HD.out.bel (Nat.le_succ _) _ _ _ _ _ _ _ _ _ _⟩
set_option maxHeartbeats 8000000 in
set_option maxRecDepth 100000 in
theorem moved_times (a b lo hi c0 c1 c2 c3 d : Int) (s : ByteArray) (ha : IntKind.i64.wrap (a + d) = a + d) (hs : s.size ≤ 281474976710656) (w : World) : Calls Tryz.prog 129 #[.agg #[.int .i64 7, .int .i64 a, .int .i64 b, .int .i64 lo, .int .i64 hi, .int .u64 c0, .int .u64 c1, .int .u64 c2, .int .u64 c3, .string s], .int .i64 d] w (Ans w (.agg #[.int .i64 7, .int .i64 (a + d), .int .i64 b, .int .i64 lo, .int .i64 hi, .int .u64 c0, .int .u64 c1, .int .u64 c2, .int .u64 c3, .string s])) := by
  have hone := as_times_one
  have htimes := as_times_times
  have htwo := as_times_two
  have HWA := Lib.hid ha
  clear ha
  have TU := Lib.hid (fun w => turned_times a b lo hi c0 c1 c2 c3 s w)
  go_enter Tryz.func129, Tryz.ntmps129
  go_wp2_with fail
  refine (TU.out _).mono ?_; rintro e w1 ⟨rfl, hb1⟩
  have H1 := Lib.hid ((MvB.new w #[.int .i64 7, .int .i64 a, .int .i64 b, .int .i64 lo, .int .i64 hi, .int .u64 c0, .int .u64 c1, .int .u64 c2, .int .u64 c3, .string s]).later hb1)
  clear hb1 TU
  have g1 := H1.out.src
  have ef1 := g1.frozen
  obtain ⟨e0, e1, e2, e3, e4, e5, e6, e7, e8, e9⟩ := ten_cells g1
  clear g1
  have hwa := HWA.out
  go_upto_region 7 with (fail)
  have H2 : Hid (MvB w #[.int .i64 7, .int .i64 (a + d), .int .i64 b, .int .i64 lo, .int .i64 hi, .int .u64 c0, .int .u64 c1, .int .u64 c2, .int .u64 c3, .string s] _) := H1.out.set 1 (.int .i64 (a + d))
  generalize w1.setCell ⟨w.heap.size, 1, none⟩ (.int .i64 (a + d)) = w2 at *
  clear e0 e1 e2 e3 e4 e5 e6 e7 e8 e9 ef1 hwa
  have g2 := H2.out.src
  have ef2 := g2.frozen
  obtain ⟨e0, e1, e2, e3, e4, e5, e6, e7, e8, e9⟩ := ten_cells g2
  clear g2
  go_wp2_with fail
  refine (clone_any _ _ hs).mono ?_; rintro e wc ⟨rfl, hbc⟩
  have HC := Lib.hid (H2.out.later hbc)
  clear hbc e0 e1 e2 e3 e4 e5 e6 e7 e8 e9 ef2
  have g := HC.out.src
  have ef := g.frozen
  obtain ⟨e0, e1, e2, e3, e4, e5, e6, e7, e8, e9⟩ := ten_cells g
  clear g
  go_upto_region 8 with (fail)
  have HD : Hid (MvB w #[.int .i64 7, .int .i64 (a + d), .int .i64 b, .int .i64 lo, .int .i64 hi, .int .u64 c0, .int .u64 c1, .int .u64 c2, .int .u64 c3, .string s] _) := HC.out.set 9 (.string s)
  generalize wc.setCell ⟨w.heap.size, 9, none⟩ (.string s) = wd at *
  clear e0 e1 e2 e3 e4 e5 e6 e7 e8 e9 ef
  have g := HD.out.src
  obtain ⟨e0, e1, e2, e3, e4, e5, e6, e7, e8, e9⟩ := ten_cells g
  clear g
  have hk := HD.out.res
  unfold z10 at hk
  have ef := hk.frozen
  obtain ⟨r0, r1, r2, r3, r4, r5, r6, r7, r8, r9⟩ := ten_cells hk
  obtain ⟨s0, s1, s2, s3, s4, s5, s6, s7, s8, s9⟩ := ten hk
  clear hk
  go_wp2
  exact bodyPost_ret (v := .agg #[.int .i64 7, .int .i64 (a + d), .int .i64 b, .int .i64 lo, .int .i64 hi, .int .u64 c0, .int .u64 c1, .int .u64 c2, .int .u64 c3, .string s]) (by simp [results, Tryz.results129, go_sem, s0, s1, s2, s3, s4, s5, s6, s7, s8, s9]) rfl ⟨rfl, below10 HD.out.bel (Nat.le_succ _) _ _ _ _ _ _ _ _ _ _⟩
set_option maxHeartbeats 8000000 in
set_option maxRecDepth 100000 in
theorem moved_two (k a b lo hi c0 c1 c2 c3 d : Int) (s : ByteArray) (hk : k = 4 ∨ k = 5) (ha : IntKind.i64.wrap (a + d) = a + d) (hb : IntKind.i64.wrap (b + d) = b + d) (hs : s.size ≤ 281474976710656) (w : World) : Calls Tryz.prog 129 #[.agg #[.int .i64 k, .int .i64 a, .int .i64 b, .int .i64 lo, .int .i64 hi, .int .u64 c0, .int .u64 c1, .int .u64 c2, .int .u64 c3, .string s], .int .i64 d] w (Ans w (.agg #[.int .i64 k, .int .i64 (a + d), .int .i64 (b + d), .int .i64 lo, .int .i64 hi, .int .u64 c0, .int .u64 c1, .int .u64 c2, .int .u64 c3, .string s])) := by
  have hone := as_two_one
  have htimes := as_two_times
  have htwo := as_two_two
  have HWA := Lib.hid ha
  clear ha
  have HWB := Lib.hid hb
  clear hb
  have TU := Lib.hid (fun w => turned_two k a b lo hi c0 c1 c2 c3 s hk w)
  clear hk
  go_enter Tryz.func129, Tryz.ntmps129
  go_wp2_with fail
  refine (TU.out _).mono ?_; rintro e w1 ⟨rfl, hb1⟩
  have H1 := Lib.hid ((MvB.new w #[.int .i64 k, .int .i64 a, .int .i64 b, .int .i64 lo, .int .i64 hi, .int .u64 c0, .int .u64 c1, .int .u64 c2, .int .u64 c3, .string s]).later hb1)
  clear hb1 TU
  have g1 := H1.out.src
  have ef1 := g1.frozen
  obtain ⟨e0, e1, e2, e3, e4, e5, e6, e7, e8, e9⟩ := ten_cells g1
  clear g1
  have hwa := HWA.out
  go_upto_region 6 with (fail)
  have H2 : Hid (MvB w #[.int .i64 k, .int .i64 (a + d), .int .i64 b, .int .i64 lo, .int .i64 hi, .int .u64 c0, .int .u64 c1, .int .u64 c2, .int .u64 c3, .string s] _) := H1.out.set 1 (.int .i64 (a + d))
  generalize w1.setCell ⟨w.heap.size, 1, none⟩ (.int .i64 (a + d)) = w2 at *
  clear e0 e1 e2 e3 e4 e5 e6 e7 e8 e9 ef1 hwa
  have g2 := H2.out.src
  have ef2 := g2.frozen
  obtain ⟨e0, e1, e2, e3, e4, e5, e6, e7, e8, e9⟩ := ten_cells g2
  clear g2
  have hwb := HWB.out
  go_upto_region 7 with (fail)
  have H3 : Hid (MvB w #[.int .i64 k, .int .i64 (a + d), .int .i64 (b + d), .int .i64 lo, .int .i64 hi, .int .u64 c0, .int .u64 c1, .int .u64 c2, .int .u64 c3, .string s] _) := H2.out.set 2 (.int .i64 (b + d))
  generalize w2.setCell ⟨w.heap.size, 2, none⟩ (.int .i64 (b + d)) = w3 at *
  clear e0 e1 e2 e3 e4 e5 e6 e7 e8 e9 ef2 hwb
  have g3 := H3.out.src
  have ef3 := g3.frozen
  obtain ⟨e0, e1, e2, e3, e4, e5, e6, e7, e8, e9⟩ := ten_cells g3
  clear g3
  go_wp2_with fail
  refine (clone_any _ _ hs).mono ?_; rintro e wc ⟨rfl, hbc⟩
  have HC := Lib.hid (H3.out.later hbc)
  clear hbc e0 e1 e2 e3 e4 e5 e6 e7 e8 e9 ef3
  have g := HC.out.src
  have ef := g.frozen
  obtain ⟨e0, e1, e2, e3, e4, e5, e6, e7, e8, e9⟩ := ten_cells g
  clear g
  go_upto_region 8 with (fail)
  have HD : Hid (MvB w #[.int .i64 k, .int .i64 (a + d), .int .i64 (b + d), .int .i64 lo, .int .i64 hi, .int .u64 c0, .int .u64 c1, .int .u64 c2, .int .u64 c3, .string s] _) := HC.out.set 9 (.string s)
  generalize wc.setCell ⟨w.heap.size, 9, none⟩ (.string s) = wd at *
  clear e0 e1 e2 e3 e4 e5 e6 e7 e8 e9 ef
  have g := HD.out.src
  obtain ⟨e0, e1, e2, e3, e4, e5, e6, e7, e8, e9⟩ := ten_cells g
  clear g
  have hk := HD.out.res
  unfold z10 at hk
  have ef := hk.frozen
  obtain ⟨r0, r1, r2, r3, r4, r5, r6, r7, r8, r9⟩ := ten_cells hk
  obtain ⟨s0, s1, s2, s3, s4, s5, s6, s7, s8, s9⟩ := ten hk
  clear hk
  go_wp2
  exact bodyPost_ret (v := .agg #[.int .i64 k, .int .i64 (a + d), .int .i64 (b + d), .int .i64 lo, .int .i64 hi, .int .u64 c0, .int .u64 c1, .int .u64 c2, .int .u64 c3, .string s]) (by simp [results, Tryz.results129, go_sem, s0, s1, s2, s3, s4, s5, s6, s7, s8, s9]) rfl ⟨rfl, below10 HD.out.bel (Nat.le_succ _) _ _ _ _ _ _ _ _ _ _⟩
set_option maxHeartbeats 8000000 in
set_option maxRecDepth 100000 in
theorem moved_nil (k a b lo hi c0 c1 c2 c3 d : Int) (s : ByteArray) (h4 : ¬ (4 ≤ k ∧ k ≤ 9)) (h1 : k ≠ 1) (h2 : k ≠ 2) (h3 : k ≠ 3) (hs : s.size ≤ 281474976710656) (w : World) : Calls Tryz.prog 129 #[.agg #[.int .i64 k, .int .i64 a, .int .i64 b, .int .i64 lo, .int .i64 hi, .int .u64 c0, .int .u64 c1, .int .u64 c2, .int .u64 c3, .string s], .int .i64 d] w (Ans w (.agg #[.int .i64 k, .int .i64 a, .int .i64 b, .int .i64 lo, .int .i64 hi, .int .u64 c0, .int .u64 c1, .int .u64 c2, .int .u64 c3, .string s])) := by
  have hone := as_nil_one
  have htimes := as_nil_times
  have htwo := as_nil_two
  have TU := Lib.hid (fun w => turned_nil k a b lo hi c0 c1 c2 c3 s h4 h1 h2 h3 w)
  clear h4 h1 h2 h3
  go_enter Tryz.func129, Tryz.ntmps129
  go_wp2_with fail
  refine (TU.out _).mono ?_; rintro e w1 ⟨rfl, hb1⟩
  have H1 := Lib.hid ((MvB.new w #[.int .i64 k, .int .i64 a, .int .i64 b, .int .i64 lo, .int .i64 hi, .int .u64 c0, .int .u64 c1, .int .u64 c2, .int .u64 c3, .string s]).later hb1)
  clear hb1 TU
  have g1 := H1.out.src
  have ef1 := g1.frozen
  obtain ⟨e0, e1, e2, e3, e4, e5, e6, e7, e8, e9⟩ := ten_cells g1
  clear g1
  go_wp2_with fail
  refine (clone_any _ _ hs).mono ?_; rintro e wc ⟨rfl, hbc⟩
  have HC := Lib.hid (H1.out.later hbc)
  clear hbc e0 e1 e2 e3 e4 e5 e6 e7 e8 e9 ef1
  have g := HC.out.src
  have ef := g.frozen
  obtain ⟨e0, e1, e2, e3, e4, e5, e6, e7, e8, e9⟩ := ten_cells g
  clear g
  go_upto_region 8 with (fail)
  have HD : Hid (MvB w #[.int .i64 k, .int .i64 a, .int .i64 b, .int .i64 lo, .int .i64 hi, .int .u64 c0, .int .u64 c1, .int .u64 c2, .int .u64 c3, .string s] _) := HC.out.set 9 (.string s)
  generalize wc.setCell ⟨w.heap.size, 9, none⟩ (.string s) = wd at *
  clear e0 e1 e2 e3 e4 e5 e6 e7 e8 e9 ef
  have g := HD.out.src
  obtain ⟨e0, e1, e2, e3, e4, e5, e6, e7, e8, e9⟩ := ten_cells g
  clear g
  have hk := HD.out.res
  unfold z10 at hk
  have ef := hk.frozen
  obtain ⟨r0, r1, r2, r3, r4, r5, r6, r7, r8, r9⟩ := ten_cells hk
  obtain ⟨s0, s1, s2, s3, s4, s5, s6, s7, s8, s9⟩ := ten hk
  clear hk
  go_wp2
  exact bodyPost_ret (v := .agg #[.int .i64 k, .int .i64 a, .int .i64 b, .int .i64 lo, .int .i64 hi, .int .u64 c0, .int .u64 c1, .int .u64 c2, .int .u64 c3, .string s]) (by simp [results, Tryz.results129, go_sem, s0, s1, s2, s3, s4, s5, s6, s7, s8, s9]) rfl ⟨rfl, below10 HD.out.bel (Nat.le_succ _) _ _ _ _ _ _ _ _ _ _⟩
end Go.Proofs.YtpbadglfegcdjaaGreatDoor
