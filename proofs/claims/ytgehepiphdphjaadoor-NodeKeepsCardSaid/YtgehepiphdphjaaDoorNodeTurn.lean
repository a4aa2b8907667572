/- Nodes turned to values of types of their own: walked. -/
import Derived.Test.YtgehepiphdphjaaDoorTen
namespace Go.Proofs.YtgehepiphdphjaaDoor
open Go Go.RowKit
set_option linter.unusedVariables false
set_option linter.unusedSimpArgs false

/-- The node as a value of its kind's type. -/
def anyV (k a b lo hi c0 c1 c2 c3 : Int) (s : ByteArray) : Value :=
  if k = 1 then .iface 115 (.agg #[])
  else if k = 2 then .iface 117 (.agg #[.int .u64 c0, .int .u64 c1, .int .u64 c2, .int .u64 c3])
  else if k = 3 then .iface 119 (.agg #[.string s])
  else if k = 6 ∨ k = 8 ∨ k = 9 then .iface 122 (.agg #[.int .i64 k, .int .i64 a])
  else if k = 7 then .iface 125 (.agg #[.int .i64 a, .int .i64 lo, .int .i64 hi])
  else if k = 4 ∨ k = 5 then .iface 127 (.agg #[.int .i64 k, .int .i64 a, .int .i64 b])
  else .nilIface
set_option maxHeartbeats 4000000 in
set_option maxRecDepth 100000 in
theorem turned_raw (k a b lo hi c0 c1 c2 c3 : Int) (s : ByteArray) (w : World) :
    Calls Tryd.prog 78 #[.agg #[.int .i64 k, .int .i64 a, .int .i64 b, .int .i64 lo, .int .i64 hi, .int .u64 c0, .int .u64 c1, .int .u64 c2, .int .u64 c3, .string s]] w (Ans w (anyV k a b lo hi c0 c1 c2 c3 s)) := by
  obtain ⟨V, hV⟩ : ∃ V, V = anyV k a b lo hi c0 c1 c2 c3 s := ⟨_, rfl⟩
  rw [← hV]
  unfold anyV at hV
  by_cases h1 : k = 1
  · subst h1
    rw [if_pos rfl] at hV
    subst hV
    go_enter Tryd.func78, Tryd.ntmps78
    go_wp2
    go_ret
    exact ⟨rfl, (Below.refl _ _).alloc (Nat.le_refl _) _⟩
  by_cases h2 : k = 2
  · subst h2
    rw [if_neg (by decide), if_pos rfl] at hV
    subst hV
    go_enter Tryd.func78, Tryd.ntmps78
    go_wp2
    go_ret
    exact ⟨rfl, (Below.refl _ _).alloc (Nat.le_refl _) _⟩
  by_cases h3 : k = 3
  · subst h3
    rw [if_neg (by decide), if_neg (by decide), if_pos rfl] at hV
    subst hV
    go_enter Tryd.func78, Tryd.ntmps78
    go_wp2
    go_ret
    exact ⟨rfl, (Below.refl _ _).alloc (Nat.le_refl _) _⟩
  rw [if_neg h1, if_neg h2, if_neg h3] at hV
  by_cases h6 : k = 6 ∨ k = 8 ∨ k = 9
  · rw [if_pos h6] at hV
    subst hV
    rcases h6 with rfl | rfl | rfl
    all_goals
      clear h1 h2 h3
      go_enter Tryd.func78, Tryd.ntmps78
      go_wp2
      go_ret
      exact ⟨rfl, (Below.refl _ _).alloc (Nat.le_refl _) _⟩
  rw [if_neg h6] at hV
  by_cases h7 : k = 7
  · rw [if_pos h7] at hV
    subst hV
    subst h7
    clear h1 h2 h3 h6
    go_enter Tryd.func78, Tryd.ntmps78
    go_wp2
    go_ret
    exact ⟨rfl, (Below.refl _ _).alloc (Nat.le_refl _) _⟩
  rw [if_neg h7] at hV
  by_cases h4 : k = 4 ∨ k = 5
  · rw [if_pos h4] at hV
    subst hV
    rcases h4 with rfl | rfl
    all_goals
      clear h1 h2 h3 h6 h7
      go_enter Tryd.func78, Tryd.ntmps78
      go_wp2
      go_ret
      exact ⟨rfl, (Below.refl _ _).alloc (Nat.le_refl _) _⟩
  rw [if_neg h4] at hV
  subst hV
  have g1 : (k == 1) = false := by rw [beq_eq_false_iff_ne]; omega
  have g2 : (k == 2) = false := by rw [beq_eq_false_iff_ne]; omega
  have g3 : (k == 3) = false := by rw [beq_eq_false_iff_ne]; omega
  have g4 : (k == 4) = false := by rw [beq_eq_false_iff_ne]; omega
  have g5 : (k == 5) = false := by rw [beq_eq_false_iff_ne]; omega
  have g6 : (k == 6) = false := by rw [beq_eq_false_iff_ne]; omega
  have g7 : (k == 7) = false := by rw [beq_eq_false_iff_ne]; omega
  have g8 : (k == 8) = false := by rw [beq_eq_false_iff_ne]; omega
  have g9 : (k == 9) = false := by rw [beq_eq_false_iff_ne]; omega
  clear h1 h2 h3 h6 h7 h4
  go_enter Tryd.func78, Tryd.ntmps78
  go_wp2
  go_ret
  exact ⟨rfl, (Below.refl _ _).alloc (Nat.le_refl _) _⟩
end Go.Proofs.YtgehepiphdphjaaDoor
