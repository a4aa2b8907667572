/- Nodes turned to values of types of their own: walked. -/
import Derived.Test.YtpbadglfegcdjaaDoorM06
import Derived.Test.YtpbadglfegcdjaaDoorM05
import Derived.Lib.OthersKept
namespace Go.Proofs.YtpbadglfegcdjaaDoor
open Go Go.RowKit
set_option linter.unusedVariables false
set_option linter.unusedSimpArgs false

/-- The node as a value of its kind's type. -/
def anyV (k a b lo hi c0 c1 c2 c3 : Int) (s : ByteArray) : Value :=
  if k = 1 then .iface 57 (.agg #[])
  else if k = 2 then .iface 59 (.agg #[.int .u64 c0, .int .u64 c1, .int .u64 c2, .int .u64 c3])
  else if k = 3 then .iface 61 (.agg #[.string s])
  else if k = 6 ∨ k = 8 ∨ k = 9 then .iface 64 (.agg #[.int .i64 k, .int .i64 a])
  else if k = 7 then .iface 67 (.agg #[.int .i64 a, .int .i64 lo, .int .i64 hi])
  else if k = 4 ∨ k = 5 then .iface 69 (.agg #[.int .i64 k, .int .i64 a, .int .i64 b])
  else .nilIface
set_option maxHeartbeats 4000000 in
set_option maxRecDepth 100000 in
theorem turned_raw (k a b lo hi c0 c1 c2 c3 : Int) (s : ByteArray) (w : World) :
    Calls Tryd.prog 29 #[.agg #[.int .i64 k, .int .i64 a, .int .i64 b, .int .i64 lo, .int .i64 hi, .int .u64 c0, .int .u64 c1, .int .u64 c2, .int .u64 c3, .string s]] w (Ans w (anyV k a b lo hi c0 c1 c2 c3 s)) := by
  obtain ⟨V, hV⟩ : ∃ V, V = anyV k a b lo hi c0 c1 c2 c3 s := ⟨_, rfl⟩
  rw [← hV]
  unfold anyV at hV
  by_cases h1 : k = 1
  · subst h1
    rw [if_pos rfl] at hV
    subst hV
    go_enter Tryd.func29, Tryd.ntmps29
    go_wp2
    go_ret
    exact ⟨rfl, (Below.refl _ _).alloc (Nat.le_refl _) _⟩
  by_cases h2 : k = 2
  · subst h2
    rw [if_neg (by decide), if_pos rfl] at hV
    subst hV
    go_enter Tryd.func29, Tryd.ntmps29
    go_wp2
    go_ret
    exact ⟨rfl, (Below.refl _ _).alloc (Nat.le_refl _) _⟩
  by_cases h3 : k = 3
  · subst h3
    rw [if_neg (by decide), if_neg (by decide), if_pos rfl] at hV
    subst hV
    go_enter Tryd.func29, Tryd.ntmps29
    go_wp2
    go_ret
    exact ⟨rfl, (Below.refl _ _).alloc (Nat.le_refl _) _⟩
  rw [if_neg h1, if_neg h2, if_neg h3] at hV
  by_cases h6 : k = 6 ∨ k = 8 ∨ k = 9
  · rw [if_pos h6] at hV
    subst hV
    rcases h6 with rfl | rfl | rfl
    all_goals
      clear h1 h2 h3
      go_enter Tryd.func29, Tryd.ntmps29
      go_wp2
      go_ret
      exact ⟨rfl, (Below.refl _ _).alloc (Nat.le_refl _) _⟩
  rw [if_neg h6] at hV
  by_cases h7 : k = 7
  · rw [if_pos h7] at hV
    subst hV
    subst h7
    clear h1 h2 h3 h6
    go_enter Tryd.func29, Tryd.ntmps29
    go_wp2
    go_ret
    exact ⟨rfl, (Below.refl _ _).alloc (Nat.le_refl _) _⟩
  rw [if_neg h7] at hV
  by_cases h4 : k = 4 ∨ k = 5
  · rw [if_pos h4] at hV
    subst hV
    rcases h4 with rfl | rfl
    all_goals
      clear h1 h2 h3 h6 h7
      go_enter Tryd.func29, Tryd.ntmps29
      go_wp2
      go_ret
      exact ⟨rfl, (Below.refl _ _).alloc (Nat.le_refl _) _⟩
  rw [if_neg h4] at hV
  subst hV
  have g1 : (k == 1) = false := by rw [beq_eq_false_iff_ne]; omega
  have g2 : (k == 2) = false := by rw [beq_eq_false_iff_ne]; omega
  have g3 : (k == 3) = false := by rw [beq_eq_false_iff_ne]; omega
  have g4 : (k == 4) = false := by rw [beq_eq_false_iff_ne]; omega
  have g5 : (k == 5) = false := by rw [beq_eq_false_iff_ne]; omega
  have g6 : (k == 6) = false := by rw [beq_eq_false_iff_ne]; omega
  have g7 : (k == 7) = false := by rw [beq_eq_false_iff_ne]; omega
  have g8 : (k == 8) = false := by rw [beq_eq_false_iff_ne]; omega
  have g9 : (k == 9) = false := by rw [beq_eq_false_iff_ne]; omega
  clear h1 h2 h3 h6 h7 h4
  go_enter Tryd.func29, Tryd.ntmps29
  go_wp2
  go_ret
  exact ⟨rfl, (Below.refl _ _).alloc (Nat.le_refl _) _⟩
end Go.Proofs.YtpbadglfegcdjaaDoor
/- The node of a value of a type of its own: walked. -/
namespace Go.Proofs.YtpbadglfegcdjaaDoor
open Go Go.RowKit
set_option linter.unusedVariables false
set_option linter.unusedSimpArgs false

theorem as_empty_empty (v : Value) (w : World) : (Instr.typeAssert (.iface 57 v) 20 57 true).run Tryd.prog w = .ok (.tuple #[v, .bool true]) w := by kernel_rfl
theorem as_empty_set (v : Value) (w : World) : (Instr.typeAssert (.iface 57 v) 20 59 true).run Tryd.prog w = .ok (.tuple #[.agg #[.int .u64 0, .int .u64 0, .int .u64 0, .int .u64 0], .bool false]) w := by kernel_rfl
theorem as_empty_text (v : Value) (w : World) : (Instr.typeAssert (.iface 57 v) 20 61 true).run Tryd.prog w = .ok (.tuple #[.agg #[.string ByteArray.empty], .bool false]) w := by kernel_rfl
theorem as_empty_one (v : Value) (w : World) : (Instr.typeAssert (.iface 57 v) 20 64 true).run Tryd.prog w = .ok (.tuple #[.agg #[.int .i64 0, .int .i64 0], .bool false]) w := by kernel_rfl
theorem as_empty_times (v : Value) (w : World) : (Instr.typeAssert (.iface 57 v) 20 67 true).run Tryd.prog w = .ok (.tuple #[.agg #[.int .i64 0, .int .i64 0, .int .i64 0], .bool false]) w := by kernel_rfl
theorem as_empty_two (v : Value) (w : World) : (Instr.typeAssert (.iface 57 v) 20 69 true).run Tryd.prog w = .ok (.tuple #[.agg #[.int .i64 0, .int .i64 0, .int .i64 0], .bool false]) w := by kernel_rfl
theorem as_set_empty (v : Value) (w : World) : (Instr.typeAssert (.iface 59 v) 20 57 true).run Tryd.prog w = .ok (.tuple #[.agg #[], .bool false]) w := by kernel_rfl
theorem as_set_set (v : Value) (w : World) : (Instr.typeAssert (.iface 59 v) 20 59 true).run Tryd.prog w = .ok (.tuple #[v, .bool true]) w := by kernel_rfl
theorem as_set_text (v : Value) (w : World) : (Instr.typeAssert (.iface 59 v) 20 61 true).run Tryd.prog w = .ok (.tuple #[.agg #[.string ByteArray.empty], .bool false]) w := by kernel_rfl
theorem as_set_one (v : Value) (w : World) : (Instr.typeAssert (.iface 59 v) 20 64 true).run Tryd.prog w = .ok (.tuple #[.agg #[.int .i64 0, .int .i64 0], .bool false]) w := by kernel_rfl
theorem as_set_times (v : Value) (w : World) : (Instr.typeAssert (.iface 59 v) 20 67 true).run Tryd.prog w = .ok (.tuple #[.agg #[.int .i64 0, .int .i64 0, .int .i64 0], .bool false]) w := by kernel_rfl
theorem as_set_two (v : Value) (w : World) : (Instr.typeAssert (.iface 59 v) 20 69 true).run Tryd.prog w = .ok (.tuple #[.agg #[.int .i64 0, .int .i64 0, .int .i64 0], .bool false]) w := by kernel_rfl
theorem as_text_empty (v : Value) (w : World) : (Instr.typeAssert (.iface 61 v) 20 57 true).run Tryd.prog w = .ok (.tuple #[.agg #[], .bool false]) w := by kernel_rfl
theorem as_text_set (v : Value) (w : World) : (Instr.typeAssert (.iface 61 v) 20 59 true).run Tryd.prog w = .ok (.tuple #[.agg #[.int .u64 0, .int .u64 0, .int .u64 0, .int .u64 0], .bool false]) w := by kernel_rfl
theorem as_text_text (v : Value) (w : World) : (Instr.typeAssert (.iface 61 v) 20 61 true).run Tryd.prog w = .ok (.tuple #[v, .bool true]) w := by kernel_rfl
theorem as_text_one (v : Value) (w : World) : (Instr.typeAssert (.iface 61 v) 20 64 true).run Tryd.prog w = .ok (.tuple #[.agg #[.int .i64 0, .int .i64 0], .bool false]) w := by kernel_rfl
theorem as_text_times (v : Value) (w : World) : (Instr.typeAssert (.iface 61 v) 20 67 true).run Tryd.prog w = .ok (.tuple #[.agg #[.int .i64 0, .int .i64 0, .int .i64 0], .bool false]) w := by kernel_rfl
theorem as_text_two (v : Value) (w : World) : (Instr.typeAssert (.iface 61 v) 20 69 true).run Tryd.prog w = .ok (.tuple #[.agg #[.int .i64 0, .int .i64 0, .int .i64 0], .bool false]) w := by kernel_rfl
theorem as_one_empty (v : Value) (w : World) : (Instr.typeAssert (.iface 64 v) 20 57 true).run Tryd.prog w = .ok (.tuple #[.agg #[], .bool false]) w := by kernel_rfl
theorem as_one_set (v : Value) (w : World) : (Instr.typeAssert (.iface 64 v) 20 59 true).run Tryd.prog w = .ok (.tuple #[.agg #[.int .u64 0, .int .u64 0, .int .u64 0, .int .u64 0], .bool false]) w := by kernel_rfl
theorem as_one_text (v : Value) (w : World) : (Instr.typeAssert (.iface 64 v) 20 61 true).run Tryd.prog w = .ok (.tuple #[.agg #[.string ByteArray.empty], .bool false]) w := by kernel_rfl
theorem as_one_one (v : Value) (w : World) : (Instr.typeAssert (.iface 64 v) 20 64 true).run Tryd.prog w = .ok (.tuple #[v, .bool true]) w := by kernel_rfl
theorem as_one_times (v : Value) (w : World) : (Instr.typeAssert (.iface 64 v) 20 67 true).run Tryd.prog w = .ok (.tuple #[.agg #[.int .i64 0, .int .i64 0, .int .i64 0], .bool false]) w := by kernel_rfl
theorem as_one_two (v : Value) (w : World) : (Instr.typeAssert (.iface 64 v) 20 69 true).run Tryd.prog w = .ok (.tuple #[.agg #[.int .i64 0, .int .i64 0, .int .i64 0], .bool false]) w := by kernel_rfl
theorem as_times_empty (v : Value) (w : World) : (Instr.typeAssert (.iface 67 v) 20 57 true).run Tryd.prog w = .ok (.tuple #[.agg #[], .bool false]) w := by kernel_rfl
theorem as_times_set (v : Value) (w : World) : (Instr.typeAssert (.iface 67 v) 20 59 true).run Tryd.prog w = .ok (.tuple #[.agg #[.int .u64 0, .int .u64 0, .int .u64 0, .int .u64 0], .bool false]) w := by kernel_rfl
theorem as_times_text (v : Value) (w : World) : (Instr.typeAssert (.iface 67 v) 20 61 true).run Tryd.prog w = .ok (.tuple #[.agg #[.string ByteArray.empty], .bool false]) w := by kernel_rfl
theorem as_times_one (v : Value) (w : World) : (Instr.typeAssert (.iface 67 v) 20 64 true).run Tryd.prog w = .ok (.tuple #[.agg #[.int .i64 0, .int .i64 0], .bool false]) w := by kernel_rfl
theorem as_times_times (v : Value) (w : World) : (Instr.typeAssert (.iface 67 v) 20 67 true).run Tryd.prog w = .ok (.tuple #[v, .bool true]) w := by kernel_rfl
theorem as_times_two (v : Value) (w : World) : (Instr.typeAssert (.iface 67 v) 20 69 true).run Tryd.prog w = .ok (.tuple #[.agg #[.int .i64 0, .int .i64 0, .int .i64 0], .bool false]) w := by kernel_rfl
theorem as_two_empty (v : Value) (w : World) : (Instr.typeAssert (.iface 69 v) 20 57 true).run Tryd.prog w = .ok (.tuple #[.agg #[], .bool false]) w := by kernel_rfl
theorem as_two_set (v : Value) (w : World) : (Instr.typeAssert (.iface 69 v) 20 59 true).run Tryd.prog w = .ok (.tuple #[.agg #[.int .u64 0, .int .u64 0, .int .u64 0, .int .u64 0], .bool false]) w := by kernel_rfl
theorem as_two_text (v : Value) (w : World) : (Instr.typeAssert (.iface 69 v) 20 61 true).run Tryd.prog w = .ok (.tuple #[.agg #[.string ByteArray.empty], .bool false]) w := by kernel_rfl
theorem as_two_one (v : Value) (w : World) : (Instr.typeAssert (.iface 69 v) 20 64 true).run Tryd.prog w = .ok (.tuple #[.agg #[.int .i64 0, .int .i64 0], .bool false]) w := by kernel_rfl
theorem as_two_times (v : Value) (w : World) : (Instr.typeAssert (.iface 69 v) 20 67 true).run Tryd.prog w = .ok (.tuple #[.agg #[.int .i64 0, .int .i64 0, .int .i64 0], .bool false]) w := by kernel_rfl
theorem as_two_two (v : Value) (w : World) : (Instr.typeAssert (.iface 69 v) 20 69 true).run Tryd.prog w = .ok (.tuple #[v, .bool true]) w := by kernel_rfl
theorem as_nil_empty (w : World) : (Instr.typeAssert .nilIface 20 57 true).run Tryd.prog w = .ok (.tuple #[.agg #[], .bool false]) w := by kernel_rfl
theorem as_nil_set (w : World) : (Instr.typeAssert .nilIface 20 59 true).run Tryd.prog w = .ok (.tuple #[.agg #[.int .u64 0, .int .u64 0, .int .u64 0, .int .u64 0], .bool false]) w := by kernel_rfl
theorem as_nil_text (w : World) : (Instr.typeAssert .nilIface 20 61 true).run Tryd.prog w = .ok (.tuple #[.agg #[.string ByteArray.empty], .bool false]) w := by kernel_rfl
theorem as_nil_one (w : World) : (Instr.typeAssert .nilIface 20 64 true).run Tryd.prog w = .ok (.tuple #[.agg #[.int .i64 0, .int .i64 0], .bool false]) w := by kernel_rfl
theorem as_nil_times (w : World) : (Instr.typeAssert .nilIface 20 67 true).run Tryd.prog w = .ok (.tuple #[.agg #[.int .i64 0, .int .i64 0, .int .i64 0], .bool false]) w := by kernel_rfl
theorem as_nil_two (w : World) : (Instr.typeAssert .nilIface 20 69 true).run Tryd.prog w = .ok (.tuple #[.agg #[.int .i64 0, .int .i64 0, .int .i64 0], .bool false]) w := by kernel_rfl
set_option maxHeartbeats 4000000 in
set_option maxRecDepth 100000 in
theorem back_empty (w : World) : Calls Tryd.prog 30 #[.iface 57 (.agg #[])] w (Ans w (.agg #[.int .i64 1, .int .i64 0, .int .i64 0, .int .i64 0, .int .i64 0, .int .u64 0, .int .u64 0, .int .u64 0, .int .u64 0, .string ⟨#[]⟩])) := by
  have hempty := as_empty_empty
  have hset := as_empty_set
  have htext := as_empty_text
  have hone := as_empty_one
  have htimes := as_empty_times
  have htwo := as_empty_two
  go_enter Tryd.func30, Tryd.ntmps30
  go_upto_region 4 with (fail)
  have HX := Lib.hid ((Box10.new w).later ((Below.refl _ _).alloc (Nat.le_refl _) (.cells #[] 57)))
  have HI : Hid (Blk ((w.alloc (.cells #[.int .i64 0, .int .i64 0, .int .i64 0, .int .i64 0, .int .i64 0, .int .u64 0, .int .u64 0, .int .u64 0, .int .u64 0, .string ⟨#[]⟩] 36)).alloc (.cells #[] 57)) (w.heap.size + 1) #[] 57) := by unfold Hid; have := Blk.new (w.alloc (.cells #[.int .i64 0, .int .i64 0, .int .i64 0, .int .i64 0, .int .i64 0, .int .u64 0, .int .u64 0, .int .u64 0, .int .u64 0, .string ⟨#[]⟩] 36)) #[] 57; simpa using this
  generalize (w.alloc (.cells #[.int .i64 0, .int .i64 0, .int .i64 0, .int .i64 0, .int .i64 0, .int .u64 0, .int .u64 0, .int .u64 0, .int .u64 0, .string ⟨#[]⟩] 36)).alloc (.cells #[] 57) = wz at *
  have hk := HX.out.blk
  unfold z10 at hk
  have ef := hk.frozen
  obtain ⟨e0, e1, e2, e3, e4, e5, e6, e7, e8, e9⟩ := ten_cells hk
  obtain ⟨s0, s1, s2, s3, s4, s5, s6, s7, s8, s9⟩ := ten hk
  clear hk
  go_wp2
  exact bodyPost_ret (v := .agg #[.int .i64 1, .int .i64 0, .int .i64 0, .int .i64 0, .int .i64 0, .int .u64 0, .int .u64 0, .int .u64 0, .int .u64 0, .string ⟨#[]⟩]) (by simp [results, Tryd.results30, go_sem, s0, s1, s2, s3, s4, s5, s6, s7, s8, s9]) rfl ⟨rfl, below10 HX.out.bel (Nat.le_refl _) _ _ _ _ _ _ _ _ _ _⟩
set_option maxHeartbeats 4000000 in
set_option maxRecDepth 100000 in
theorem back_set (c0 c1 c2 c3 : Int) (w : World) : Calls Tryd.prog 30 #[.iface 59 (.agg #[.int .u64 c0, .int .u64 c1, .int .u64 c2, .int .u64 c3])] w (Ans w (.agg #[.int .i64 2, .int .i64 0, .int .i64 0, .int .i64 0, .int .i64 0, .int .u64 c0, .int .u64 c1, .int .u64 c2, .int .u64 c3, .string ⟨#[]⟩])) := by
  have hempty := as_set_empty
  have hset := as_set_set
  have htext := as_set_text
  have hone := as_set_one
  have htimes := as_set_times
  have htwo := as_set_two
  go_enter Tryd.func30, Tryd.ntmps30
  go_upto_region 7 with (fail)
  have HX := Lib.hid ((Box10.new w).later ((Below.refl _ _).alloc (Nat.le_refl _) (.cells #[.int .u64 c0, .int .u64 c1, .int .u64 c2, .int .u64 c3] 59)))
  have HI : Hid (Blk ((w.alloc (.cells #[.int .i64 0, .int .i64 0, .int .i64 0, .int .i64 0, .int .i64 0, .int .u64 0, .int .u64 0, .int .u64 0, .int .u64 0, .string ⟨#[]⟩] 36)).alloc (.cells #[.int .u64 c0, .int .u64 c1, .int .u64 c2, .int .u64 c3] 59)) (w.heap.size + 1) #[.int .u64 c0, .int .u64 c1, .int .u64 c2, .int .u64 c3] 59) := by unfold Hid; have := Blk.new (w.alloc (.cells #[.int .i64 0, .int .i64 0, .int .i64 0, .int .i64 0, .int .i64 0, .int .u64 0, .int .u64 0, .int .u64 0, .int .u64 0, .string ⟨#[]⟩] 36)) #[.int .u64 c0, .int .u64 c1, .int .u64 c2, .int .u64 c3] 59; simpa using this
  generalize (w.alloc (.cells #[.int .i64 0, .int .i64 0, .int .i64 0, .int .i64 0, .int .i64 0, .int .u64 0, .int .u64 0, .int .u64 0, .int .u64 0, .string ⟨#[]⟩] 36)).alloc (.cells #[.int .u64 c0, .int .u64 c1, .int .u64 c2, .int .u64 c3] 59) = wz at *
  have i0 := HI.out.cell 0
  have i1 := HI.out.cell 1
  have i2 := HI.out.cell 2
  have i3 := HI.out.cell 3
  have hk := HX.out.blk
  unfold z10 at hk
  have ef := hk.frozen
  obtain ⟨e0, e1, e2, e3, e4, e5, e6, e7, e8, e9⟩ := ten_cells hk
  obtain ⟨s0, s1, s2, s3, s4, s5, s6, s7, s8, s9⟩ := ten hk
  clear hk
  simp at i0 i1 i2 i3
  go_wp2
  exact bodyPost_ret (v := .agg #[.int .i64 2, .int .i64 0, .int .i64 0, .int .i64 0, .int .i64 0, .int .u64 c0, .int .u64 c1, .int .u64 c2, .int .u64 c3, .string ⟨#[]⟩]) (by simp [results, Tryd.results30, go_sem, s0, s1, s2, s3, s4, s5, s6, s7, s8, s9]) rfl ⟨rfl, below10 HX.out.bel (Nat.le_refl _) _ _ _ _ _ _ _ _ _ _⟩
set_option maxHeartbeats 4000000 in
set_option maxRecDepth 100000 in
theorem back_text (s : ByteArray) (w : World) : Calls Tryd.prog 30 #[.iface 61 (.agg #[.string s])] w (Ans w (.agg #[.int .i64 3, .int .i64 0, .int .i64 0, .int .i64 0, .int .i64 0, .int .u64 0, .int .u64 0, .int .u64 0, .int .u64 0, .string s])) := by
  have hempty := as_text_empty
  have hset := as_text_set
  have htext := as_text_text
  have hone := as_text_one
  have htimes := as_text_times
  have htwo := as_text_two
  go_enter Tryd.func30, Tryd.ntmps30
  go_upto_region 10 with (fail)
  have HX := Lib.hid ((Box10.new w).later ((Below.refl _ _).alloc (Nat.le_refl _) (.cells #[.string s] 61)))
  have HI : Hid (Blk ((w.alloc (.cells #[.int .i64 0, .int .i64 0, .int .i64 0, .int .i64 0, .int .i64 0, .int .u64 0, .int .u64 0, .int .u64 0, .int .u64 0, .string ⟨#[]⟩] 36)).alloc (.cells #[.string s] 61)) (w.heap.size + 1) #[.string s] 61) := by unfold Hid; have := Blk.new (w.alloc (.cells #[.int .i64 0, .int .i64 0, .int .i64 0, .int .i64 0, .int .i64 0, .int .u64 0, .int .u64 0, .int .u64 0, .int .u64 0, .string ⟨#[]⟩] 36)) #[.string s] 61; simpa using this
  generalize (w.alloc (.cells #[.int .i64 0, .int .i64 0, .int .i64 0, .int .i64 0, .int .i64 0, .int .u64 0, .int .u64 0, .int .u64 0, .int .u64 0, .string ⟨#[]⟩] 36)).alloc (.cells #[.string s] 61) = wz at *
  have i0 := HI.out.cell 0
  have hk := HX.out.blk
  unfold z10 at hk
  have ef := hk.frozen
  obtain ⟨e0, e1, e2, e3, e4, e5, e6, e7, e8, e9⟩ := ten_cells hk
  obtain ⟨s0, s1, s2, s3, s4, s5, s6, s7, s8, s9⟩ := ten hk
  clear hk
  simp at i0
  go_wp2
  exact bodyPost_ret (v := .agg #[.int .i64 3, .int .i64 0, .int .i64 0, .int .i64 0, .int .i64 0, .int .u64 0, .int .u64 0, .int .u64 0, .int .u64 0, .string s]) (by simp [results, Tryd.results30, go_sem, s0, s1, s2, s3, s4, s5, s6, s7, s8, s9]) rfl ⟨rfl, below10 HX.out.bel (Nat.le_refl _) _ _ _ _ _ _ _ _ _ _⟩
set_option maxHeartbeats 4000000 in
set_option maxRecDepth 100000 in
theorem back_one (k a : Int) (w : World) : Calls Tryd.prog 30 #[.iface 64 (.agg #[.int .i64 k, .int .i64 a])] w (Ans w (.agg #[.int .i64 k, .int .i64 a, .int .i64 0, .int .i64 0, .int .i64 0, .int .u64 0, .int .u64 0, .int .u64 0, .int .u64 0, .string ⟨#[]⟩])) := by
  have hempty := as_one_empty
  have hset := as_one_set
  have htext := as_one_text
  have hone := as_one_one
  have htimes := as_one_times
  have htwo := as_one_two
  go_enter Tryd.func30, Tryd.ntmps30
  go_upto_region 13 with (fail)
  have HX := Lib.hid ((Box10.new w).later ((Below.refl _ _).alloc (Nat.le_refl _) (.cells #[.int .i64 k, .int .i64 a] 64)))
  have HI : Hid (Blk ((w.alloc (.cells #[.int .i64 0, .int .i64 0, .int .i64 0, .int .i64 0, .int .i64 0, .int .u64 0, .int .u64 0, .int .u64 0, .int .u64 0, .string ⟨#[]⟩] 36)).alloc (.cells #[.int .i64 k, .int .i64 a] 64)) (w.heap.size + 1) #[.int .i64 k, .int .i64 a] 64) := by unfold Hid; have := Blk.new (w.alloc (.cells #[.int .i64 0, .int .i64 0, .int .i64 0, .int .i64 0, .int .i64 0, .int .u64 0, .int .u64 0, .int .u64 0, .int .u64 0, .string ⟨#[]⟩] 36)) #[.int .i64 k, .int .i64 a] 64; simpa using this
  generalize (w.alloc (.cells #[.int .i64 0, .int .i64 0, .int .i64 0, .int .i64 0, .int .i64 0, .int .u64 0, .int .u64 0, .int .u64 0, .int .u64 0, .string ⟨#[]⟩] 36)).alloc (.cells #[.int .i64 k, .int .i64 a] 64) = wz at *
  have i0 := HI.out.cell 0
  have i1 := HI.out.cell 1
  have hk := HX.out.blk
  unfold z10 at hk
  have ef := hk.frozen
  obtain ⟨e0, e1, e2, e3, e4, e5, e6, e7, e8, e9⟩ := ten_cells hk
  obtain ⟨s0, s1, s2, s3, s4, s5, s6, s7, s8, s9⟩ := ten hk
  clear hk
  simp at i0 i1
  go_wp2
  exact bodyPost_ret (v := .agg #[.int .i64 k, .int .i64 a, .int .i64 0, .int .i64 0, .int .i64 0, .int .u64 0, .int .u64 0, .int .u64 0, .int .u64 0, .string ⟨#[]⟩]) (by simp [results, Tryd.results30, go_sem, s0, s1, s2, s3, s4, s5, s6, s7, s8, s9]) rfl ⟨rfl, below10 HX.out.bel (Nat.le_refl _) _ _ _ _ _ _ _ _ _ _⟩
set_option maxHeartbeats 4000000 in
set_option maxRecDepth 100000 in
theorem back_times (a lo hi : Int) (w : World) : Calls Tryd.prog 30 #[.iface 67 (.agg #[.int .i64 a, .int .i64 lo, .int .i64 hi])] w (Ans w (.agg #[.int .i64 7, .int .i64 a, .int .i64 0, .int .i64 lo, .int .i64 hi, .int .u64 0, .int .u64 0, .int .u64 0, .int .u64 0, .string ⟨#[]⟩])) := by
  have hempty := as_times_empty
  have hset := as_times_set
  have htext := as_times_text
  have hone := as_times_one
  have htimes := as_times_times
  have htwo := as_times_two
  go_enter Tryd.func30, Tryd.ntmps30
  go_upto_region 16 with (fail)
  have HX := Lib.hid ((Box10.new w).later ((Below.refl _ _).alloc (Nat.le_refl _) (.cells #[.int .i64 a, .int .i64 lo, .int .i64 hi] 67)))
  have HI : Hid (Blk ((w.alloc (.cells #[.int .i64 0, .int .i64 0, .int .i64 0, .int .i64 0, .int .i64 0, .int .u64 0, .int .u64 0, .int .u64 0, .int .u64 0, .string ⟨#[]⟩] 36)).alloc (.cells #[.int .i64 a, .int .i64 lo, .int .i64 hi] 67)) (w.heap.size + 1) #[.int .i64 a, .int .i64 lo, .int .i64 hi] 67) := by unfold Hid; have := Blk.new (w.alloc (.cells #[.int .i64 0, .int .i64 0, .int .i64 0, .int .i64 0, .int .i64 0, .int .u64 0, .int .u64 0, .int .u64 0, .int .u64 0, .string ⟨#[]⟩] 36)) #[.int .i64 a, .int .i64 lo, .int .i64 hi] 67; simpa using this
  generalize (w.alloc (.cells #[.int .i64 0, .int .i64 0, .int .i64 0, .int .i64 0, .int .i64 0, .int .u64 0, .int .u64 0, .int .u64 0, .int .u64 0, .string ⟨#[]⟩] 36)).alloc (.cells #[.int .i64 a, .int .i64 lo, .int .i64 hi] 67) = wz at *
  have i0 := HI.out.cell 0
  have i1 := HI.out.cell 1
  have i2 := HI.out.cell 2
  have hk := HX.out.blk
  unfold z10 at hk
  have ef := hk.frozen
  obtain ⟨e0, e1, e2, e3, e4, e5, e6, e7, e8, e9⟩ := ten_cells hk
  obtain ⟨s0, s1, s2, s3, s4, s5, s6, s7, s8, s9⟩ := ten hk
  clear hk
  simp at i0 i1 i2
  go_wp2
  exact bodyPost_ret (v := .agg #[.int .i64 7, .int .i64 a, .int .i64 0, .int .i64 lo, .int .i64 hi, .int .u64 0, .int .u64 0, .int .u64 0, .int .u64 0, .string ⟨#[]⟩]) (by simp [results, Tryd.results30, go_sem, s0, s1, s2, s3, s4, s5, s6, s7, s8, s9]) rfl ⟨rfl, below10 HX.out.bel (Nat.le_refl _) _ _ _ _ _ _ _ _ _ _⟩
set_option maxHeartbeats 4000000 in
set_option maxRecDepth 100000 in
theorem back_two (k a b : Int) (w : World) : Calls Tryd.prog 30 #[.iface 69 (.agg #[.int .i64 k, .int .i64 a, .int .i64 b])] w (Ans w (.agg #[.int .i64 k, .int .i64 a, .int .i64 b, .int .i64 0, .int .i64 0, .int .u64 0, .int .u64 0, .int .u64 0, .int .u64 0, .string ⟨#[]⟩])) := by
  have hempty := as_two_empty
  have hset := as_two_set
  have htext := as_two_text
  have hone := as_two_one
  have htimes := as_two_times
  have htwo := as_two_two
  go_enter Tryd.func30, Tryd.ntmps30
  go_upto_region 19 with (fail)
  have HX := Lib.hid ((Box10.new w).later ((Below.refl _ _).alloc (Nat.le_refl _) (.cells #[.int .i64 k, .int .i64 a, .int .i64 b] 69)))
  have HI : Hid (Blk ((w.alloc (.cells #[.int .i64 0, .int .i64 0, .int .i64 0, .int .i64 0, .int .i64 0, .int .u64 0, .int .u64 0, .int .u64 0, .int .u64 0, .string ⟨#[]⟩] 36)).alloc (.cells #[.int .i64 k, .int .i64 a, .int .i64 b] 69)) (w.heap.size + 1) #[.int .i64 k, .int .i64 a, .int .i64 b] 69) := by unfold Hid; have := Blk.new (w.alloc (.cells #[.int .i64 0, .int .i64 0, .int .i64 0, .int .i64 0, .int .i64 0, .int .u64 0, .int .u64 0, .int .u64 0, .int .u64 0, .string ⟨#[]⟩] 36)) #[.int .i64 k, .int .i64 a, .int .i64 b] 69; simpa using this
  generalize (w.alloc (.cells #[.int .i64 0, .int .i64 0, .int .i64 0, .int .i64 0, .int .i64 0, .int .u64 0, .int .u64 0, .int .u64 0, .int .u64 0, .string ⟨#[]⟩] 36)).alloc (.cells #[.int .i64 k, .int .i64 a, .int .i64 b] 69) = wz at *
  have i0 := HI.out.cell 0
  have i1 := HI.out.cell 1
  have i2 := HI.out.cell 2
  have hk := HX.out.blk
  unfold z10 at hk
  have ef := hk.frozen
  obtain ⟨e0, e1, e2, e3, e4, e5, e6, e7, e8, e9⟩ := ten_cells hk
  obtain ⟨s0, s1, s2, s3, s4, s5, s6, s7, s8, s9⟩ := ten hk
  clear hk
  simp at i0 i1 i2
  go_wp2
  exact bodyPost_ret (v := .agg #[.int .i64 k, .int .i64 a, .int .i64 b, .int .i64 0, .int .i64 0, .int .u64 0, .int .u64 0, .int .u64 0, .int .u64 0, .string ⟨#[]⟩]) (by simp [results, Tryd.results30, go_sem, s0, s1, s2, s3, s4, s5, s6, s7, s8, s9]) rfl ⟨rfl, below10 HX.out.bel (Nat.le_refl _) _ _ _ _ _ _ _ _ _ _⟩
set_option maxHeartbeats 4000000 in
set_option maxRecDepth 100000 in
theorem back_nil (w : World) : Calls Tryd.prog 30 #[.nilIface] w (Ans w (.agg #[.int .i64 0, .int .i64 0, .int .i64 0, .int .i64 0, .int .i64 0, .int .u64 0, .int .u64 0, .int .u64 0, .int .u64 0, .string ⟨#[]⟩])) := by
  have hempty := as_nil_empty
  have hset := as_nil_set
  have htext := as_nil_text
  have hone := as_nil_one
  have htimes := as_nil_times
  have htwo := as_nil_two
  go_enter Tryd.func30, Tryd.ntmps30
  go_upto_region 20 with (fail)
  have HX := Lib.hid (Box10.new w)
  generalize w.alloc (.cells #[.int .i64 0, .int .i64 0, .int .i64 0, .int .i64 0, .int .i64 0, .int .u64 0, .int .u64 0, .int .u64 0, .int .u64 0, .string ⟨#[]⟩] 36) = wz at *
  have hk := HX.out.blk
  unfold z10 at hk
  have ef := hk.frozen
  obtain ⟨e0, e1, e2, e3, e4, e5, e6, e7, e8, e9⟩ := ten_cells hk
  obtain ⟨s0, s1, s2, s3, s4, s5, s6, s7, s8, s9⟩ := ten hk
  clear hk
  go_wp2
  exact bodyPost_ret (v := .agg #[.int .i64 0, .int .i64 0, .int .i64 0, .int .i64 0, .int .i64 0, .int .u64 0, .int .u64 0, .int .u64 0, .int .u64 0, .string ⟨#[]⟩]) (by simp [results, Tryd.results30, go_sem, s0, s1, s2, s3, s4, s5, s6, s7, s8, s9]) rfl ⟨rfl, below10 HX.out.bel (Nat.le_refl _) _ _ _ _ _ _ _ _ _ _⟩
end Go.Proofs.YtpbadglfegcdjaaDoor
/- Nodes moved: walked. -/
namespace Go.Proofs.YtpbadglfegcdjaaDoor
open Go Go.RowKit
set_option linter.unusedVariables false
set_option linter.unusedSimpArgs false

structure MvB (w0 : World) (vs : Array Value) (w : World) : Prop where
  bel : Below w0.heap.size w0 w
  src : Blk w w0.heap.size vs 36
  res : Blk w (w0.heap.size + 1) z10 36
theorem MvB.later {w0 w w' : World} {vs : Array Value} (h : MvB w0 vs w) (hb : Below w.heap.size w w') : MvB w0 vs w' := ⟨h.bel.trans (hb.mono h.bel.size), h.src.later hb, h.res.later hb⟩
theorem MvB.set {w0 w : World} {vs : Array Value} (h : MvB w0 vs w) (o : Nat) (v : Value) : MvB w0 (vs.setIfInBounds o v) (w.setCell ⟨w0.heap.size, o, none⟩ v) :=
  ⟨h.bel.setCell (p := ⟨w0.heap.size, o, none⟩) (Nat.le_refl _) v, h.src.setCell o v, h.res.setCell_ne (a := ⟨w0.heap.size, o, none⟩) (by show w0.heap.size ≠ _; omega) v⟩
theorem MvB.new (w : World) (vs : Array Value) : MvB w vs ((w.alloc (.cells vs 36)).alloc (.cells #[.int .i64 0, .int .i64 0, .int .i64 0, .int .i64 0, .int .i64 0, .int .u64 0, .int .u64 0, .int .u64 0, .int .u64 0, .string ⟨#[]⟩] 36)) :=
  ⟨((Below.refl _ _).alloc (Nat.le_refl _) _).alloc (by simp) _, (Blk.new w vs _).alloc _, by have := Blk.new (w.alloc (.cells vs 36)) z10 36; simpa [z10] using this⟩
theorem turned_empty (a b lo hi c0 c1 c2 c3 : Int) (s : ByteArray) (w : World) : Calls Tryd.prog 29 #[.agg #[.int .i64 1, .int .i64 a, .int .i64 b, .int .i64 lo, .int .i64 hi, .int .u64 c0, .int .u64 c1, .int .u64 c2, .int .u64 c3, .string s]] w (Ans w (.iface 57 (.agg #[]))) := by
  have h := turned_raw 1 a b lo hi c0 c1 c2 c3 s w
  have e : anyV 1 a b lo hi c0 c1 c2 c3 s = .iface 57 (.agg #[]) := by unfold anyV; simp
  rw [e] at h; exact h
theorem turned_set (a b lo hi c0 c1 c2 c3 : Int) (s : ByteArray) (w : World) : Calls Tryd.prog 29 #[.agg #[.int .i64 2, .int .i64 a, .int .i64 b, .int .i64 lo, .int .i64 hi, .int .u64 c0, .int .u64 c1, .int .u64 c2, .int .u64 c3, .string s]] w (Ans w (.iface 59 (.agg #[.int .u64 c0, .int .u64 c1, .int .u64 c2, .int .u64 c3]))) := by
  have h := turned_raw 2 a b lo hi c0 c1 c2 c3 s w
  have e : anyV 2 a b lo hi c0 c1 c2 c3 s = .iface 59 (.agg #[.int .u64 c0, .int .u64 c1, .int .u64 c2, .int .u64 c3]) := by unfold anyV; simp
  rw [e] at h; exact h
theorem turned_text (a b lo hi c0 c1 c2 c3 : Int) (s : ByteArray) (w : World) : Calls Tryd.prog 29 #[.agg #[.int .i64 3, .int .i64 a, .int .i64 b, .int .i64 lo, .int .i64 hi, .int .u64 c0, .int .u64 c1, .int .u64 c2, .int .u64 c3, .string s]] w (Ans w (.iface 61 (.agg #[.string s]))) := by
  have h := turned_raw 3 a b lo hi c0 c1 c2 c3 s w
  have e : anyV 3 a b lo hi c0 c1 c2 c3 s = .iface 61 (.agg #[.string s]) := by unfold anyV; simp
  rw [e] at h; exact h
theorem turned_one (k a b lo hi c0 c1 c2 c3 : Int) (s : ByteArray) (hk : k = 6 ∨ k = 8 ∨ k = 9) (w : World) : Calls Tryd.prog 29 #[.agg #[.int .i64 k, .int .i64 a, .int .i64 b, .int .i64 lo, .int .i64 hi, .int .u64 c0, .int .u64 c1, .int .u64 c2, .int .u64 c3, .string s]] w (Ans w (.iface 64 (.agg #[.int .i64 k, .int .i64 a]))) := by
  have h := turned_raw k a b lo hi c0 c1 c2 c3 s w
  have e : anyV k a b lo hi c0 c1 c2 c3 s = .iface 64 (.agg #[.int .i64 k, .int .i64 a]) := by unfold anyV; rcases hk with rfl | rfl | rfl <;> simp
  rw [e] at h; exact h
theorem turned_times (a b lo hi c0 c1 c2 c3 : Int) (s : ByteArray) (w : World) : Calls Tryd.prog 29 #[.agg #[.int .i64 7, .int .i64 a, .int .i64 b, .int .i64 lo, .int .i64 hi, .int .u64 c0, .int .u64 c1, .int .u64 c2, .int .u64 c3, .string s]] w (Ans w (.iface 67 (.agg #[.int .i64 a, .int .i64 lo, .int .i64 hi]))) := by
  have h := turned_raw 7 a b lo hi c0 c1 c2 c3 s w
  have e : anyV 7 a b lo hi c0 c1 c2 c3 s = .iface 67 (.agg #[.int .i64 a, .int .i64 lo, .int .i64 hi]) := by unfold anyV; simp
  rw [e] at h; exact h
theorem turned_two (k a b lo hi c0 c1 c2 c3 : Int) (s : ByteArray) (hk : k = 4 ∨ k = 5) (w : World) : Calls Tryd.prog 29 #[.agg #[.int .i64 k, .int .i64 a, .int .i64 b, .int .i64 lo, .int .i64 hi, .int .u64 c0, .int .u64 c1, .int .u64 c2, .int .u64 c3, .string s]] w (Ans w (.iface 69 (.agg #[.int .i64 k, .int .i64 a, .int .i64 b]))) := by
  have h := turned_raw k a b lo hi c0 c1 c2 c3 s w
  have e : anyV k a b lo hi c0 c1 c2 c3 s = .iface 69 (.agg #[.int .i64 k, .int .i64 a, .int .i64 b]) := by unfold anyV; rcases hk with rfl | rfl <;> simp
  rw [e] at h; exact h
theorem turned_nil (k a b lo hi c0 c1 c2 c3 : Int) (s : ByteArray) (h4 : ¬ (4 ≤ k ∧ k ≤ 9)) (h1 : k ≠ 1) (h2 : k ≠ 2) (h3 : k ≠ 3) (w : World) : Calls Tryd.prog 29 #[.agg #[.int .i64 k, .int .i64 a, .int .i64 b, .int .i64 lo, .int .i64 hi, .int .u64 c0, .int .u64 c1, .int .u64 c2, .int .u64 c3, .string s]] w (Ans w (.nilIface)) := by
  have h := turned_raw k a b lo hi c0 c1 c2 c3 s w
  have e : anyV k a b lo hi c0 c1 c2 c3 s = .nilIface := by unfold anyV; rw [if_neg h1, if_neg h2, if_neg h3, if_neg (by omega), if_neg (by omega), if_neg (by omega)]
  rw [e] at h; exact h
end Go.Proofs.YtpbadglfegcdjaaDoor
/- The items of a class, numbers: walked. -/
namespace Go.Proofs.YtpbadglfegcdjaaDoor
open Go Go.RowKit
set_option linter.unusedVariables false

def digI (c : UInt8) : Int := match digV c with
  | some x => (x : Int)
  | none => -1
def digTab : List UInt8 := [48, 49, 50, 51, 52, 53, 54, 55, 56, 57, 97, 98, 99, 100, 101, 102]
theorem dig_idx (c : UInt8) : Lib.indexByte digTab c = digI c := by
  have key : ∀ n, n < 256 → Lib.indexByte digTab (UInt8.ofNat n) = digI (UInt8.ofNat n) := by decide +kernel
  have := key c.toNat c.toNat_lt
  simpa using this
theorem digI_some {c : UInt8} {x : Nat} (h : digV c = some x) : digI c = (x : Int) := by unfold digI; rw [h]
theorem digI_none {c : UInt8} (h : digV c = none) : digI c = -1 := by unfold digI; rw [h]
def hexR (l : List UInt8) : Value := match hexV l with
  | some x => .tuple #[.int .u8 (x : Int), .bool true]
  | none => .tuple #[.int .u8 0, .bool false]

/-! ### an item -/
def itemR (l : List UInt8) : Value := match itemV l with
  | some s => .tuple #[cls s, .bool true]
  | none => .tuple #[cls 0#256, .bool false]
theorem hexR_some {l : List UInt8} {x : Nat} (h : hexV l = some x) : hexR l = .tuple #[.int .u8 (x : Int), .bool true] := by unfold hexR; rw [h]
theorem hexR_none {l : List UInt8} (h : hexV l = none) : hexR l = .tuple #[.int .u8 0, .bool false] := by unfold hexR; rw [h]
def z4 : Array Value := #[.int .u64 0, .int .u64 0, .int .u64 0, .int .u64 0]
theorem z4_eq : z4 = cells4 0#256 := by
  have z0 : wd 0#256 0 = 0 := by decide
  have z1 : wd 0#256 1 = 0 := by decide
  have z2 : wd 0#256 2 = 0 := by decide
  have z3 : wd 0#256 3 = 0 := by decide
  unfold cells4 z4; rw [z0, z1, z2, z3]; rfl
theorem cls_zero : cls 0#256 = .agg #[.int .u64 0, .int .u64 0, .int .u64 0, .int .u64 0] := by
  have z0 : wd 0#256 0 = 0 := by decide
  have z1 : wd 0#256 1 = 0 := by decide
  have z2 : wd 0#256 2 = 0 := by decide
  have z3 : wd 0#256 3 = 0 := by decide
  unfold cls; rw [z0, z1, z2, z3]; rfl
/-- The two halves of an item: what hexByte answers of each, and the item's class. -/
theorem item_cases (l : List UInt8) (a b : List UInt8) (hp : (cutAt 45 l).getD (l, l) = (a, b)) :
    (hexV a = none ∧ itemR l = .tuple #[cls 0#256, .bool false]) ∨ (∃ x, hexV a = some x ∧ hexV b = none ∧ itemR l = .tuple #[cls 0#256, .bool false]) ∨
    (∃ x y, hexV a = some x ∧ hexV b = some y ∧ y < x ∧ itemR l = .tuple #[cls 0#256, .bool false]) ∨ (∃ x y, hexV a = some x ∧ hexV b = some y ∧ x ≤ y ∧ itemR l = .tuple #[cls (rowB x y), .bool true]) := by
  have hi : itemV l = match hexV a, hexV b with
    | some x, some y => if x ≤ y then some (rowB x y) else none
    | _, _ => none := by unfold itemV; rw [hp]; rfl
  cases ha : hexV a with
  | none => left; exact ⟨rfl, by unfold itemR; rw [hi, ha]⟩
  | some x =>
    right
    cases hb : hexV b with
    | none => left; exact ⟨x, rfl, rfl, by unfold itemR; rw [hi, ha, hb]⟩
    | some y =>
      right
      by_cases h : x ≤ y
      · right; exact ⟨x, y, rfl, rfl, h, by unfold itemR; rw [hi, ha, hb]; simp only [if_pos h]⟩
      · left; exact ⟨x, y, rfl, rfl, by omega, by unfold itemR; rw [hi, ha, hb]; simp only [if_neg h]⟩
theorem z_cells {w : World} {b : Nat} {t : TypeId} (h : Blk w b z4 t) :
    w.cell? ⟨b, 0, none⟩ = some (.int .u64 0) ∧ w.cell? ⟨b, 1, none⟩ = some (.int .u64 0) ∧ w.cell? ⟨b, 2, none⟩ = some (.int .u64 0) ∧ w.cell? ⟨b, 3, none⟩ = some (.int .u64 0) :=
  ⟨h.cell 0, h.cell 1, h.cell 2, h.cell 3⟩
/-- What is stored is read. -/
theorem four {w : World} {b : Nat} {t : TypeId} (h : Blk w b z4 t) :
    (∀ v, (w.setCell ⟨b, 0, none⟩ v).cell? ⟨b, 0, none⟩ = some v) ∧ (∀ u v, ((w.setCell ⟨b, 0, none⟩ u).setCell ⟨b, 1, none⟩ v).cell? ⟨b, 1, none⟩ = some v) ∧
    (∀ x u v, (((w.setCell ⟨b, 0, none⟩ x).setCell ⟨b, 1, none⟩ u).setCell ⟨b, 2, none⟩ v).cell? ⟨b, 2, none⟩ = some v) ∧
    (∀ y x u v, ((((w.setCell ⟨b, 0, none⟩ y).setCell ⟨b, 1, none⟩ x).setCell ⟨b, 2, none⟩ u).setCell ⟨b, 3, none⟩ v).cell? ⟨b, 3, none⟩ = some v) :=
  ⟨fun v => (h.setCell 0 v).cell 0, fun u v => ((h.setCell 0 u).setCell 1 v).cell 1, fun x u v => (((h.setCell 0 x).setCell 1 u).setCell 2 v).cell 2, fun y x u v => ((((h.setCell 0 y).setCell 1 x).setCell 2 u).setCell 3 v).cell 3⟩
/-- A box for a class that was just made, and all that was there. -/
structure Box4 (w : World) (w' : World) : Prop where
  bel : Below w.heap.size w w'
  blk : Blk w' w.heap.size z4 34
theorem Box4.new (w : World) : Box4 w (w.alloc (.cells #[.int .u64 0, .int .u64 0, .int .u64 0, .int .u64 0] 34)) := ⟨(Below.refl _ _).alloc (Nat.le_refl _) _, Blk.new _ _ _⟩
theorem Box4.later {w w1 w2 : World} (h : Box4 w w1) (hb : Below w1.heap.size w1 w2) : Box4 w w2 := ⟨h.bel.trans (hb.mono h.bel.size), h.blk.later hb⟩
/-! ### all items -/
theorem pieces_len (c : UInt8) : ∀ (l p : List UInt8), p ∈ pieces c l → p.length ≤ l.length := by
  intro l
  suffices h : (piecesA c l).1.length ≤ l.length ∧ ∀ p ∈ (piecesA c l).2, p.length ≤ l.length by
    intro p hp
    unfold pieces at hp
    rcases List.mem_cons.1 hp with rfl | hp
    · exact h.1
    · exact h.2 p hp
  induction l with
  | nil => simp [piecesA]
  | cons x l ih =>
    obtain ⟨i1, i2⟩ := ih
    unfold piecesA
    by_cases e : x = c
    · simp only [if_pos e]
      refine ⟨by simp, fun p hp => ?_⟩
      rcases List.mem_cons.1 hp with rfl | hp
      · simp; omega
      · have := i2 p hp; simp; omega
    · simp only [if_neg e]
      refine ⟨by simpa using i1, fun p hp => ?_⟩
      have := i2 p hp; simp; omega
def optR (o : Option (BitVec 256)) : Value := match o with
  | some s => .tuple #[cls s, .bool true]
  | none => .tuple #[cls 0#256, .bool false]
theorem itemR_opt (l : List UInt8) : itemR l = optR (itemV l) := rfl
structure ItmS (w : World) (B : Nat) (ps : List (List UInt8)) (k : Nat) (S : BitVec 256) (wr : World) : Prop where
  bel : Below w.heap.size w wr
  res : Blk wr w.heap.size z4 34
  acc : Blk wr (w.heap.size + 1) (cells4 S) 34
  row : Blk wr B ((ps.map fun p => Value.string (bs p)).toArray) 9
  sum : itemsV 0#256 ps = itemsV S (ps.drop k)
theorem ItmS.later {w : World} {B : Nat} {ps : List (List UInt8)} {k : Nat} {S : BitVec 256} {w1 w2 : World} (h : ItmS w B ps k S w1) (hb : Below w1.heap.size w1 w2) : ItmS w B ps k S w2 :=
  ⟨h.bel.trans (hb.mono h.bel.size), h.res.later hb, h.acc.later hb, h.row.later hb, h.sum⟩
def ItmR (w : World) (B : Nat) (ps : List (List UInt8)) (i : Value) (wr : World) : Prop := ∃ (k : Nat) (S : BitVec 256), k ≤ ps.length ∧ i = .int .i64 (k : Int) ∧ ItmS w B ps k S wr
theorem four' {w : World} {b : Nat} {S : BitVec 256} {t : TypeId} (h : Blk w b (cells4 S) t) :
    (∀ v, (w.setCell ⟨b, 0, none⟩ v).cell? ⟨b, 0, none⟩ = some v) ∧ (∀ u v, ((w.setCell ⟨b, 0, none⟩ u).setCell ⟨b, 1, none⟩ v).cell? ⟨b, 1, none⟩ = some v) ∧
    (∀ x u v, (((w.setCell ⟨b, 0, none⟩ x).setCell ⟨b, 1, none⟩ u).setCell ⟨b, 2, none⟩ v).cell? ⟨b, 2, none⟩ = some v) ∧
    (∀ y x u v, ((((w.setCell ⟨b, 0, none⟩ y).setCell ⟨b, 1, none⟩ x).setCell ⟨b, 2, none⟩ u).setCell ⟨b, 3, none⟩ v).cell? ⟨b, 3, none⟩ = some v) :=
  ⟨fun v => (h.setCell 0 v).cell 0, fun u v => ((h.setCell 0 u).setCell 1 v).cell 1, fun x u v => (((h.setCell 0 x).setCell 1 u).setCell 2 v).cell 2, fun y x u v => ((((h.setCell 0 y).setCell 1 x).setCell 2 u).setCell 3 v).cell 3⟩
end Go.Proofs.YtpbadglfegcdjaaDoor
