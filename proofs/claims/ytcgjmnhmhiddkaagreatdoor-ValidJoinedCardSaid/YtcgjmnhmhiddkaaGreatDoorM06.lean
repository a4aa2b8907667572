/- The node of a value of a type of its own: walked. -/
import Derived.Test.YtcgjmnhmhiddkaaGreatDoorM05
namespace Go.Proofs.YtcgjmnhmhiddkaaGreatDoor
open Go Go.RowKit
set_option linter.unusedVariables false
set_option linter.unusedSimpArgs false

theorem as_empty_empty (v : Value) (w : World) : (Instr.typeAssert (.iface 122 v) 20 122 true).run Tryz.prog w = .ok (.tuple #[v, .bool true]) w := by kernel_rfl
theorem as_empty_set (v : Value) (w : World) : (Instr.typeAssert (.iface 122 v) 20 124 true).run Tryz.prog w = .ok (.tuple #[.agg #[.int .u64 0, .int .u64 0, .int .u64 0, .int .u64 0], .bool false]) w := by kernel_rfl
theorem as_empty_text (v : Value) (w : World) : (Instr.typeAssert (.iface 122 v) 20 126 true).run Tryz.prog w = .ok (.tuple #[.agg #[.string ByteArray.empty], .bool false]) w := by kernel_rfl
theorem as_empty_one (v : Value) (w : World) : (Instr.typeAssert (.iface 122 v) 20 128 true).run Tryz.prog w = .ok (.tuple #[.agg #[.int .i64 0, .int .i64 0], .bool false]) w := by kernel_rfl
theorem as_empty_times (v : Value) (w : World) : (Instr.typeAssert (.iface 122 v) 20 131 true).run Tryz.prog w = .ok (.tuple #[.agg #[.int .i64 0, .int .i64 0, .int .i64 0], .bool false]) w := by kernel_rfl
theorem as_empty_two (v : Value) (w : World) : (Instr.typeAssert (.iface 122 v) 20 133 true).run Tryz.prog w = .ok (.tuple #[.agg #[.int .i64 0, .int .i64 0, .int .i64 0], .bool false]) w := by kernel_rfl
theorem as_set_empty (v : Value) (w : World) : (Instr.typeAssert (.iface 124 v) 20 122 true).run Tryz.prog w = .ok (.tuple #[.agg #[], .bool false]) w := by kernel_rfl
theorem as_set_set (v : Value) (w : World) : (Instr.typeAssert (.iface 124 v) 20 124 true).run Tryz.prog w = .ok (.tuple #[v, .bool true]) w := by kernel_rfl
theorem as_set_text (v : Value) (w : World) : (Instr.typeAssert (.iface 124 v) 20 126 true).run Tryz.prog w = .ok (.tuple #[.agg #[.string ByteArray.empty], .bool false]) w := by kernel_rfl
theorem as_set_one (v : Value) (w : World) : (Instr.typeAssert (.iface 124 v) 20 128 true).run Tryz.prog w = .ok (.tuple #[.agg #[.int .i64 0, .int .i64 0], .bool false]) w := by kernel_rfl
theorem as_set_times (v : Value) (w : World) : (Instr.typeAssert (.iface 124 v) 20 131 true).run Tryz.prog w = .ok (.tuple #[.agg #[.int .i64 0, .int .i64 0, .int .i64 0], .bool false]) w := by kernel_rfl
theorem as_set_two (v : Value) (w : World) : (Instr.typeAssert (.iface 124 v) 20 133 true).run Tryz.prog w = .ok (.tuple #[.agg #[.int .i64 0, .int .i64 0, .int .i64 0], .bool false]) w := by kernel_rfl
theorem as_text_empty (v : Value) (w : World) : (Instr.typeAssert (.iface 126 v) 20 122 true).run Tryz.prog w = .ok (.tuple #[.agg #[], .bool false]) w := by kernel_rfl
theorem as_text_set (v : Value) (w : World) : (Instr.typeAssert (.iface 126 v) 20 124 true).run Tryz.prog w = .ok (.tuple #[.agg #[.int .u64 0, .int .u64 0, .int .u64 0, .int .u64 0], .bool false]) w := by kernel_rfl
theorem as_text_text (v : Value) (w : World) : (Instr.typeAssert (.iface 126 v) 20 126 true).run Tryz.prog w = .ok (.tuple #[v, .bool true]) w := by kernel_rfl
theorem as_text_one (v : Value) (w : World) : (Instr.typeAssert (.iface 126 v) 20 128 true).run Tryz.prog w = .ok (.tuple #[.agg #[.int .i64 0, .int .i64 0], .bool false]) w := by kernel_rfl
theorem as_text_times (v : Value) (w : World) : (Instr.typeAssert (.iface 126 v) 20 131 true).run Tryz.prog w = .ok (.tuple #[.agg #[.int .i64 0, .int .i64 0, .int .i64 0], .bool false]) w := by kernel_rfl
theorem as_text_two (v : Value) (w : World) : (Instr.typeAssert (.iface 126 v) 20 133 true).run Tryz.prog w = .ok (.tuple #[.agg #[.int .i64 0, .int .i64 0, .int .i64 0], .bool false]) w := by kernel_rfl
theorem as_one_empty (v : Value) (w : World) : (Instr.typeAssert (.iface 128 v) 20 122 true).run Tryz.prog w = .ok (.tuple #[.agg #[], .bool false]) w := by kernel_rfl
theorem as_one_set (v : Value) (w : World) : (Instr.typeAssert (.iface 128 v) 20 124 true).run Tryz.prog w = .ok (.tuple #[.agg #[.int .u64 0, .int .u64 0, .int .u64 0, .int .u64 0], .bool false]) w := by kernel_rfl
theorem as_one_text (v : Value) (w : World) : (Instr.typeAssert (.iface 128 v) 20 126 true).run Tryz.prog w = .ok (.tuple #[.agg #[.string ByteArray.empty], .bool false]) w := by kernel_rfl
theorem as_one_one (v : Value) (w : World) : (Instr.typeAssert (.iface 128 v) 20 128 true).run Tryz.prog w = .ok (.tuple #[v, .bool true]) w := by kernel_rfl
theorem as_one_times (v : Value) (w : World) : (Instr.typeAssert (.iface 128 v) 20 131 true).run Tryz.prog w = .ok (.tuple #[.agg #[.int .i64 0, .int .i64 0, .int .i64 0], .bool false]) w := by kernel_rfl
theorem as_one_two (v : Value) (w : World) : (Instr.typeAssert (.iface 128 v) 20 133 true).run Tryz.prog w = .ok (.tuple #[.agg #[.int .i64 0, .int .i64 0, .int .i64 0], .bool false]) w := by kernel_rfl
theorem as_times_empty (v : Value) (w : World) : (Instr.typeAssert (.iface 131 v) 20 122 true).run Tryz.prog w = .ok (.tuple #[.agg #[], .bool false]) w := by kernel_rfl
theorem as_times_set (v : Value) (w : World) : (Instr.typeAssert (.iface 131 v) 20 124 true).run Tryz.prog w = .ok (.tuple #[.agg #[.int .u64 0, .int .u64 0, .int .u64 0, .int .u64 0], .bool false]) w := by kernel_rfl
theorem as_times_text (v : Value) (w : World) : (Instr.typeAssert (.iface 131 v) 20 126 true).run Tryz.prog w = .ok (.tuple #[.agg #[.string ByteArray.empty], .bool false]) w := by kernel_rfl
theorem as_times_one (v : Value) (w : World) : (Instr.typeAssert (.iface 131 v) 20 128 true).run Tryz.prog w = .ok (.tuple #[.agg #[.int .i64 0, .int .i64 0], .bool false]) w := by kernel_rfl
theorem as_times_times (v : Value) (w : World) : (Instr.typeAssert (.iface 131 v) 20 131 true).run Tryz.prog w = .ok (.tuple #[v, .bool true]) w := by kernel_rfl
theorem as_times_two (v : Value) (w : World) : (Instr.typeAssert (.iface 131 v) 20 133 true).run Tryz.prog w = .ok (.tuple #[.agg #[.int .i64 0, .int .i64 0, .int .i64 0], .bool false]) w := by kernel_rfl
theorem as_two_empty (v : Value) (w : World) : (Instr.typeAssert (.iface 133 v) 20 122 true).run Tryz.prog w = .ok (.tuple #[.agg #[], .bool false]) w := by kernel_rfl
theorem as_two_set (v : Value) (w : World) : (Instr.typeAssert (.iface 133 v) 20 124 true).run Tryz.prog w = .ok (.tuple #[.agg #[.int .u64 0, .int .u64 0, .int .u64 0, .int .u64 0], .bool false]) w := by kernel_rfl
theorem as_two_text (v : Value) (w : World) : (Instr.typeAssert (.iface 133 v) 20 126 true).run Tryz.prog w = .ok (.tuple #[.agg #[.string ByteArray.empty], .bool false]) w := by kernel_rfl
theorem as_two_one (v : Value) (w : World) : (Instr.typeAssert (.iface 133 v) 20 128 true).run Tryz.prog w = .ok (.tuple #[.agg #[.int .i64 0, .int .i64 0], .bool false]) w := by kernel_rfl
theorem as_two_times (v : Value) (w : World) : (Instr.typeAssert (.iface 133 v) 20 131 true).run Tryz.prog w = .ok (.tuple #[.agg #[.int .i64 0, .int .i64 0, .int .i64 0], .bool false]) w := by kernel_rfl
theorem as_two_two (v : Value) (w : World) : (Instr.typeAssert (.iface 133 v) 20 133 true).run Tryz.prog w = .ok (.tuple #[v, .bool true]) w := by kernel_rfl
theorem as_nil_empty (w : World) : (Instr.typeAssert .nilIface 20 122 true).run Tryz.prog w = .ok (.tuple #[.agg #[], .bool false]) w := by kernel_rfl
theorem as_nil_set (w : World) : (Instr.typeAssert .nilIface 20 124 true).run Tryz.prog w = .ok (.tuple #[.agg #[.int .u64 0, .int .u64 0, .int .u64 0, .int .u64 0], .bool false]) w := by kernel_rfl
theorem as_nil_text (w : World) : (Instr.typeAssert .nilIface 20 126 true).run Tryz.prog w = .ok (.tuple #[.agg #[.string ByteArray.empty], .bool false]) w := by kernel_rfl
theorem as_nil_one (w : World) : (Instr.typeAssert .nilIface 20 128 true).run Tryz.prog w = .ok (.tuple #[.agg #[.int .i64 0, .int .i64 0], .bool false]) w := by kernel_rfl
theorem as_nil_times (w : World) : (Instr.typeAssert .nilIface 20 131 true).run Tryz.prog w = .ok (.tuple #[.agg #[.int .i64 0, .int .i64 0, .int .i64 0], .bool false]) w := by kernel_rfl
theorem as_nil_two (w : World) : (Instr.typeAssert .nilIface 20 133 true).run Tryz.prog w = .ok (.tuple #[.agg #[.int .i64 0, .int .i64 0, .int .i64 0], .bool false]) w := by kernel_rfl
set_option maxHeartbeats 4000000 in
set_option maxRecDepth 100000 in
theorem back_empty (w : World) : Calls Tryz.prog 65 #[.iface 122 (.agg #[])] w (Ans w (.agg #[.int .i64 1, .int .i64 0, .int .i64 0, .int .i64 0, .int .i64 0, .int .u64 0, .int .u64 0, .int .u64 0, .int .u64 0, .string ⟨#[]⟩])) := by
  have hempty := as_empty_empty
  have hset := as_empty_set
  have htext := as_empty_text
  have hone := as_empty_one
  have htimes := as_empty_times
  have htwo := as_empty_two
  go_enter Tryz.func65, Tryz.ntmps65
  go_upto_region 4 with (fail)
  have HX := Lib.hid ((Box10.new w).later ((Below.refl _ _).alloc (Nat.le_refl _) (.cells #[] 122)))
  have HI : Hid (Blk ((w.alloc (.cells #[.int .i64 0, .int .i64 0, .int .i64 0, .int .i64 0, .int .i64 0, .int .u64 0, .int .u64 0, .int .u64 0, .int .u64 0, .string ⟨#[]⟩] 44)).alloc (.cells #[] 122)) (w.heap.size + 1) #[] 122) := by unfold Hid; have := Blk.new (w.alloc (.cells #[.int .i64 0, .int .i64 0, .int .i64 0, .int .i64 0, .int .i64 0, .int .u64 0, .int .u64 0, .int .u64 0, .int .u64 0, .string ⟨#[]⟩] 44)) #[] 122; simpa using this
  generalize (w.alloc (.cells #[.int .i64 0, .int .i64 0, .int .i64 0, .int .i64 0, .int .i64 0, .int .u64 0, .int .u64 0, .int .u64 0, .int .u64 0, .string ⟨#[]⟩] 44)).alloc (.cells #[] 122) = wz at *
  have hk := HX.out.blk
  unfold z10 at hk
  have ef := hk.frozen
  obtain ⟨e0, e1, e2, e3, e4, e5, e6, e7, e8, e9⟩ := ten_cells hk
  obtain ⟨s0, s1, s2, s3, s4, s5, s6, s7, s8, s9⟩ := ten hk
  clear hk
  go_wp2
  exact bodyPost_ret (v := .agg #[.int .i64 1, .int .i64 0, .int .i64 0, .int .i64 0, .int .i64 0, .int .u64 0, .int .u64 0, .int .u64 0, .int .u64 0, .string ⟨#[]⟩]) (by simp [results, Tryz.results65, go_sem, s0, s1, s2, s3, s4, s5, s6, s7, s8, s9]) rfl ⟨rfl, below10 HX.out.bel (Nat.le_refl _) _ _ _ _ _ _ _ _ _ _⟩
set_option maxHeartbeats 4000000 in
set_option maxRecDepth 100000 in
theorem back_set (c0 c1 c2 c3 : Int) (w : World) : Calls Tryz.prog 65 #[.iface 124 (.agg #[.int .u64 c0, .int .u64 c1, .int .u64 c2, .int .u64 c3])] w (Ans w (.agg #[.int .i64 2, .int .i64 0, .int .i64 0, .int .i64 0, .int .i64 0, .int .u64 c0, .int .u64 c1, .int .u64 c2, .int .u64 c3, .string ⟨#[]⟩])) := by
  have hempty := as_set_empty
  have hset := as_set_set
  have htext := as_set_text
  have hone := as_set_one
  have htimes := as_set_times
  have htwo := as_set_two
  go_enter Tryz.func65, Tryz.ntmps65
  go_upto_region 7 with (fail)
  have HX := Lib.hid ((Box10.new w).later ((Below.refl _ _).alloc (Nat.le_refl _) (.cells #[.int .u64 c0, .int .u64 c1, .int .u64 c2, .int .u64 c3] 124)))
  have HI : Hid (Blk ((w.alloc (.cells #[.int .i64 0, .int .i64 0, .int .i64 0, .int .i64 0, .int .i64 0, .int .u64 0, .int .u64 0, .int .u64 0, .int .u64 0, .string ⟨#[]⟩] 44)).alloc (.cells #[.int .u64 c0, .int .u64 c1, .int .u64 c2, .int .u64 c3] 124)) (w.heap.size + 1) #[.int .u64 c0, .int .u64 c1, .int .u64 c2, .int .u64 c3] 124) := by unfold Hid; have := Blk.new (w.alloc (.cells #[.int .i64 0, .int .i64 0, .int .i64 0, .int .i64 0, .int .i64 0, .int .u64 0, .int .u64 0, .int .u64 0, .int .u64 0, .string ⟨#[]⟩] 44)) #[.int .u64 c0, .int .u64 c1, .int .u64 c2, .int .u64 c3] 124; simpa using this
  generalize (w.alloc (.cells #[.int .i64 0, .int .i64 0, .int .i64 0, .int .i64 0, .int .i64 0, .int .u64 0, .int .u64 0, .int .u64 0, .int .u64 0, .string ⟨#[]⟩] 44)).alloc (.cells #[.int .u64 c0, .int .u64 c1, .int .u64 c2, .int .u64 c3] 124) = wz at *
  have i0 := HI.out.cell 0
  have i1 := HI.out.cell 1
  have i2 := HI.out.cell 2
  have i3 := HI.out.cell 3
  have hk := HX.out.blk
  unfold z10 at hk
  have ef := hk.frozen
  obtain ⟨e0, e1, e2, e3, e4, e5, e6, e7, e8, e9⟩ := ten_cells hk
  obtain ⟨s0, s1, s2, s3, s4, s5, s6, s7, s8, s9⟩ := ten hk
  clear hk
  simp at i0 i1 i2 i3
  go_wp2
  exact bodyPost_ret (v := .agg #[.int .i64 2, .int .i64 0, .int .i64 0, .int .i64 0, .int .i64 0, .int .u64 c0, .int .u64 c1, .int .u64 c2, .int .u64 c3, .string ⟨#[]⟩]) (by simp [results, Tryz.results65, go_sem, s0, s1, s2, s3, s4, s5, s6, s7, s8, s9]) rfl ⟨rfl, below10 HX.out.bel (Nat.le_refl _) _ _ _ _ _ _ _ _ _ _⟩
set_option maxHeartbeats 4000000 in
set_option maxRecDepth 100000 in
theorem back_text (s : ByteArray) (w : World) : Calls Tryz.prog 65 #[.iface 126 (.agg #[.string s])] w (Ans w (.agg #[.int .i64 3, .int .i64 0, .int .i64 0, .int .i64 0, .int .i64 0, .int .u64 0, .int .u64 0, .int .u64 0, .int .u64 0, .string s])) := by
  have hempty := as_text_empty
  have hset := as_text_set
  have htext := as_text_text
  have hone := as_text_one
  have htimes := as_text_times
  have htwo := as_text_two
  go_enter Tryz.func65, Tryz.ntmps65
  go_upto_region 10 with (fail)
  have HX := Lib.hid ((Box10.new w).later ((Below.refl _ _).alloc (Nat.le_refl _) (.cells #[.string s] 126)))
  have HI : Hid (Blk ((w.alloc (.cells #[.int .i64 0, .int .i64 0, .int .i64 0, .int .i64 0, .int .i64 0, .int .u64 0, .int .u64 0, .int .u64 0, .int .u64 0, .string ⟨#[]⟩] 44)).alloc (.cells #[.string s] 126)) (w.heap.size + 1) #[.string s] 126) := by unfold Hid; have := Blk.new (w.alloc (.cells #[.int .i64 0, .int .i64 0, .int .i64 0, .int .i64 0, .int .i64 0, .int .u64 0, .int .u64 0, .int .u64 0, .int .u64 0, .string ⟨#[]⟩] 44)) #[.string s] 126; simpa using this
  generalize (w.alloc (.cells #[.int .i64 0, .int .i64 0, .int .i64 0, .int .i64 0, .int .i64 0, .int .u64 0, .int .u64 0, .int .u64 0, .int .u64 0, .string ⟨#[]⟩] 44)).alloc (.cells #[.string s] 126) = wz at *
  have i0 := HI.out.cell 0
  have hk := HX.out.blk
  unfold z10 at hk
  have ef := hk.frozen
  obtain ⟨e0, e1, e2, e3, e4, e5, e6, e7, e8, e9⟩ := ten_cells hk
  obtain ⟨s0, s1, s2, s3, s4, s5, s6, s7, s8, s9⟩ := ten hk
  clear hk
  simp at i0
  go_wp2
  exact bodyPost_ret (v := .agg #[.int .i64 3, .int .i64 0, .int .i64 0, .int .i64 0, .int .i64 0, .int .u64 0, .int .u64 0, .int .u64 0, .int .u64 0, .string s]) (by simp [results, Tryz.results65, go_sem, s0, s1, s2, s3, s4, s5, s6, s7, s8, s9]) rfl ⟨rfl, below10 HX.out.bel (Nat.le_refl _) _ _ _ _ _ _ _ _ _ _⟩
set_option maxHeartbeats 4000000 in
set_option maxRecDepth 100000 in
theorem back_one (k a : Int) (w : World) : Calls Tryz.prog 65 #[.iface 128 (.agg #[.int .i64 k, .int .i64 a])] w (Ans w (.agg #[.int .i64 k, .int .i64 a, .int .i64 0, .int .i64 0, .int .i64 0, .int .u64 0, .int .u64 0, .int .u64 0, .int .u64 0, .string ⟨#[]⟩])) := by
  have hempty := as_one_empty
  have hset := as_one_set
  have htext := as_one_text
  have hone := as_one_one
  have htimes := as_one_times
  have htwo := as_one_two
  go_enter Tryz.func65, Tryz.ntmps65
  go_upto_region 13 with (fail)
  have HX := Lib.hid ((Box10.new w).later ((Below.refl _ _).alloc (Nat.le_refl _) (.cells #[.int .i64 k, .int .i64 a] 128)))
  have HI : Hid (Blk ((w.alloc (.cells #[.int .i64 0, .int .i64 0, .int .i64 0, .int .i64 0, .int .i64 0, .int .u64 0, .int .u64 0, .int .u64 0, .int .u64 0, .string ⟨#[]⟩] 44)).alloc (.cells #[.int .i64 k, .int .i64 a] 128)) (w.heap.size + 1) #[.int .i64 k, .int .i64 a] 128) := by unfold Hid; have := Blk.new (w.alloc (.cells #[.int .i64 0, .int .i64 0, .int .i64 0, .int .i64 0, .int .i64 0, .int .u64 0, .int .u64 0, .int .u64 0, .int .u64 0, .string ⟨#[]⟩] 44)) #[.int .i64 k, .int .i64 a] 128; simpa using this
  generalize (w.alloc (.cells #[.int .i64 0, .int .i64 0, .int .i64 0, .int .i64 0, .int .i64 0, .int .u64 0, .int .u64 0, .int .u64 0, .int .u64 0, .string ⟨#[]⟩] 44)).alloc (.cells #[.int .i64 k, .int .i64 a] 128) = wz at *
  have i0 := HI.out.cell 0
  have i1 := HI.out.cell 1
  have hk := HX.out.blk
  unfold z10 at hk
  have ef := hk.frozen
  obtain ⟨e0, e1, e2, e3, e4, e5, e6, e7, e8, e9⟩ := ten_cells hk
  obtain ⟨s0, s1, s2, s3, s4, s5, s6, s7, s8, s9⟩ := ten hk
  clear hk
  simp at i0 i1
  go_wp2
  exact bodyPost_ret (v := .agg #[.int .i64 k, .int .i64 a, .int .i64 0, .int .i64 0, .int .i64 0, .int .u64 0, .int .u64 0, .int .u64 0, .int .u64 0, .string ⟨#[]⟩]) (by simp [results, Tryz.results65, go_sem, s0, s1, s2, s3, s4, s5, s6, s7, s8, s9]) rfl ⟨rfl, below10 HX.out.bel (Nat.le_refl _) _ _ _ _ _ _ _ _ _ _⟩
set_option maxHeartbeats 4000000 in
set_option maxRecDepth 100000 in
theorem back_times (a lo hi : Int) (w : World) : Calls Tryz.prog 65 #[.iface 131 (.agg #[.int .i64 a, .int .i64 lo, .int .i64 hi])] w (Ans w (.agg #[.int .i64 7, .int .i64 a, .int .i64 0, .int .i64 lo, .int .i64 hi, .int .u64 0, .int .u64 0, .int .u64 0, .int .u64 0, .string ⟨#[]⟩])) := by
  have hempty := as_times_empty
  have hset := as_times_set
  have htext := as_times_text
  have hone := as_times_one
  have htimes := as_times_times
  have htwo := as_times_two
  go_enter Tryz.func65, Tryz.ntmps65
  go_upto_region 16 with (fail)
  have HX := Lib.hid ((Box10.new w).later ((Below.refl _ _).alloc (Nat.le_refl _) (.cells #[.int .i64 a, .int .i64 lo, .int .i64 hi] 131)))
  have HI : Hid (Blk ((w.alloc (.cells #[.int .i64 0, .int .i64 0, .int .i64 0, .int .i64 0, .int .i64 0, .int .u64 0, .int .u64 0, .int .u64 0, .int .u64 0, .string ⟨#[]⟩] 44)).alloc (.cells #[.int .i64 a, .int .i64 lo, .int .i64 hi] 131)) (w.heap.size + 1) #[.int .i64 a, .int .i64 lo, .int .i64 hi] 131) := by unfold Hid; have := Blk.new (w.alloc (.cells #[.int .i64 0, .int .i64 0, .int .i64 0, .int .i64 0, .int .i64 0, .int .u64 0, .int .u64 0, .int .u64 0, .int .u64 0, .string ⟨#[]⟩] 44)) #[.int .i64 a, .int .i64 lo, .int .i64 hi] 131; simpa using this
  generalize (w.alloc (.cells #[.int .i64 0, .int .i64 0, .int .i64 0, .int .i64 0, .int .i64 0, .int .u64 0, .int .u64 0, .int .u64 0, .int .u64 0, .string ⟨#[]⟩] 44)).alloc (.cells #[.int .i64 a, .int .i64 lo, .int .i64 hi] 131) = wz at *
  have i0 := HI.out.cell 0
  have i1 := HI.out.cell 1
  have i2 := HI.out.cell 2
  have hk := HX.out.blk
  unfold z10 at hk
  have ef := hk.frozen
  obtain ⟨e0, e1, e2, e3, e4, e5, e6, e7, e8, e9⟩ := ten_cells hk
  obtain ⟨s0, s1, s2, s3, s4, s5, s6, s7, s8, s9⟩ := ten hk
  clear hk
  simp at i0 i1 i2
  go_wp2
  exact bodyPost_ret (v := .agg #[.int .i64 7, .int .i64 a, .int .i64 0, .int .i64 lo, .int .i64 hi, .int .u64 0, .int .u64 0, .int .u64 0, .int .u64 0, .string ⟨#[]⟩]) (by simp [results, Tryz.results65, go_sem, s0, s1, s2, s3, s4, s5, s6, s7, s8, s9]) rfl ⟨rfl, below10 HX.out.bel (Nat.le_refl _) _ _ _ _ _ _ _ _ _ _⟩
set_option maxHeartbeats 4000000 in
set_option maxRecDepth 100000 in
theorem back_two (k a b : Int) (w : World) : Calls Tryz.prog 65 #[.iface 133 (.agg #[.int .i64 k, .int .i64 a, .int .i64 b])] w (Ans w (.agg #[.int .i64 k, .int .i64 a, .int .i64 b, .int .i64 0, .int .i64 0, .int .u64 0, .int .u64 0, .int .u64 0, .int .u64 0, .string ⟨#[]⟩])) := by
  have hempty := as_two_empty
  have hset := as_two_set
  have htext := as_two_text
  have hone := as_two_one
  have htimes := as_two_times
  have htwo := as_two_two
  go_enter Tryz.func65, Tryz.ntmps65
  go_upto_region 19 with (fail)
  have HX := Lib.hid ((Box10.new w).later ((Below.refl _ _).alloc (Nat.le_refl _) (.cells #[.int .i64 k, .int .i64 a, .int .i64 b] 133)))
  have HI : Hid (Blk ((w.alloc (.cells #[.int .i64 0, .int .i64 0, .int .i64 0, .int .i64 0, .int .i64 0, .int .u64 0, .int .u64 0, .int .u64 0, .int .u64 0, .string ⟨#[]⟩] 44)).alloc (.cells #[.int .i64 k, .int .i64 a, .int .i64 b] 133)) (w.heap.size + 1) #[.int .i64 k, .int .i64 a, .int .i64 b] 133) := by unfold Hid; have := Blk.new (w.alloc (.cells #[.int .i64 0, .int .i64 0, .int .i64 0, .int .i64 0, .int .i64 0, .int .u64 0, .int .u64 0, .int .u64 0, .int .u64 0, .string ⟨#[]⟩] 44)) #[.int .i64 k, .int .i64 a, .int .i64 b] 133; simpa using this
  generalize (w.alloc (.cells #[.int .i64 0, .int .i64 0, .int .i64 0, .int .i64 0, .int .i64 0, .int .u64 0, .int .u64 0, .int .u64 0, .int .u64 0, .string ⟨#[]⟩] 44)).alloc (.cells #[.int .i64 k, .int .i64 a, .int .i64 b] 133) = wz at *
  have i0 := HI.out.cell 0
  have i1 := HI.out.cell 1
  have i2 := HI.out.cell 2
  have hk := HX.out.blk
  unfold z10 at hk
  have ef := hk.frozen
  obtain ⟨e0, e1, e2, e3, e4, e5, e6, e7, e8, e9⟩ := ten_cells hk
  obtain ⟨s0, s1, s2, s3, s4, s5, s6, s7, s8, s9⟩ := ten hk
  clear hk
  simp at i0 i1 i2
  go_wp2
  exact bodyPost_ret (v := .agg #[.int .i64 k, .int .i64 a, .int .i64 b, .int .i64 0, .int .i64 0, .int .u64 0, .int .u64 0, .int .u64 0, .int .u64 0, .string ⟨#[]⟩]) (by simp [results, Tryz.results65, go_sem, s0, s1, s2, s3, s4, s5, s6, s7, s8, s9]) rfl ⟨rfl, below10 HX.out.bel (Nat.le_refl _) _ _ _ _ _ _ _ _ _ _⟩
set_option maxHeartbeats 4000000 in
set_option maxRecDepth 100000 in
theorem back_nil (w : World) : Calls Tryz.prog 65 #[.nilIface] w (Ans w (.agg #[.int .i64 0, .int .i64 0, .int .i64 0, .int .i64 0, .int .i64 0, .int .u64 0, .int .u64 0, .int .u64 0, .int .u64 0, .string ⟨#[]⟩])) := by
  have hempty := as_nil_empty
  have hset := as_nil_set
  have htext := as_nil_text
  have hone := as_nil_one
  have htimes := as_nil_times
  have htwo := as_nil_two
  go_enter Tryz.func65, Tryz.ntmps65
  go_upto_region 20 with (fail)
  have HX := Lib.hid (Box10.new w)
  generalize w.alloc (.cells #[.int .i64 0, .int .i64 0, .int .i64 0, .int .i64 0, .int .i64 0, .int .u64 0, .int .u64 0, .int .u64 0, .int .u64 0, .string ⟨#[]⟩] 44) = wz at *
  have hk := HX.out.blk
  unfold z10 at hk
  have ef := hk.frozen
  obtain ⟨e0, e1, e2, e3, e4, e5, e6, e7, e8, e9⟩ := ten_cells hk
  obtain ⟨s0, s1, s2, s3, s4, s5, s6, s7, s8, s9⟩ := ten hk
  clear hk
  go_wp2
  exact bodyPost_ret (v := .agg #[.int .i64 0, .int .i64 0, .int .i64 0, .int .i64 0, .int .i64 0, .int .u64 0, .int .u64 0, .int .u64 0, .int .u64 0, .string ⟨#[]⟩]) (by simp [results, Tryz.results65, go_sem, s0, s1, s2, s3, s4, s5, s6, s7, s8, s9]) rfl ⟨rfl, below10 HX.out.bel (Nat.le_refl _) _ _ _ _ _ _ _ _ _ _⟩
end Go.Proofs.YtcgjmnhmhiddkaaGreatDoor
/- Nodes moved: walked. -/
namespace Go.Proofs.YtcgjmnhmhiddkaaGreatDoor
open Go Go.RowKit
set_option linter.unusedVariables false
set_option linter.unusedSimpArgs false

structure MvB (w0 : World) (vs : Array Value) (w : World) : Prop where
  bel : Below w0.heap.size w0 w
  src : Blk w w0.heap.size vs 44
  res : Blk w (w0.heap.size + 1) z10 44
theorem MvB.later {w0 w w' : World} {vs : Array Value} (h : MvB w0 vs w) (hb : Below w.heap.size w w') : MvB w0 vs w' := ⟨h.bel.trans (hb.mono h.bel.size), h.src.later hb, h.res.later hb⟩
theorem MvB.set {w0 w : World} {vs : Array Value} (h : MvB w0 vs w) (o : Nat) (v : Value) : MvB w0 (vs.setIfInBounds o v) (w.setCell ⟨w0.heap.size, o, none⟩ v) :=
  ⟨h.bel.setCell (p := ⟨w0.heap.size, o, none⟩) (Nat.le_refl _) v, h.src.setCell o v, h.res.setCell_ne (a := ⟨w0.heap.size, o, none⟩) (by show w0.heap.size ≠ _; omega) v⟩
theorem MvB.new (w : World) (vs : Array Value) : MvB w vs ((w.alloc (.cells vs 44)).alloc (.cells #[.int .i64 0, .int .i64 0, .int .i64 0, .int .i64 0, .int .i64 0, .int .u64 0, .int .u64 0, .int .u64 0, .int .u64 0, .string ⟨#[]⟩] 44)) :=
  ⟨((Below.refl _ _).alloc (Nat.le_refl _) _).alloc (by simp) _, (Blk.new w vs _).alloc _, by have := Blk.new (w.alloc (.cells vs 44)) z10 44; simpa [z10] using this⟩
theorem turned_empty (a b lo hi c0 c1 c2 c3 : Int) (s : ByteArray) (w : World) : Calls Tryz.prog 64 #[.agg #[.int .i64 1, .int .i64 a, .int .i64 b, .int .i64 lo, .int .i64 hi, .int .u64 c0, .int .u64 c1, .int .u64 c2, .int .u64 c3, .string s]] w (Ans w (.iface 122 (.agg #[]))) := by
  have h := turned_raw 1 a b lo hi c0 c1 c2 c3 s w
  have e : anyV 1 a b lo hi c0 c1 c2 c3 s = .iface 122 (.agg #[]) := by unfold anyV; simp
  rw [e] at h; exact h
theorem turned_set (a b lo hi c0 c1 c2 c3 : Int) (s : ByteArray) (w : World) : Calls Tryz.prog 64 #[.agg #[.int .i64 2, .int .i64 a, .int .i64 b, .int .i64 lo, .int .i64 hi, .int .u64 c0, .int .u64 c1, .int .u64 c2, .int .u64 c3, .string s]] w (Ans w (.iface 124 (.agg #[.int .u64 c0, .int .u64 c1, .int .u64 c2, .int .u64 c3]))) := by
  have h := turned_raw 2 a b lo hi c0 c1 c2 c3 s w
  have e : anyV 2 a b lo hi c0 c1 c2 c3 s = .iface 124 (.agg #[.int .u64 c0, .int .u64 c1, .int .u64 c2, .int .u64 c3]) := by unfold anyV; simp
  rw [e] at h; exact h
theorem turned_text (a b lo hi c0 c1 c2 c3 : Int) (s : ByteArray) (w : World) : Calls Tryz.prog 64 #[.agg #[.int .i64 3, .int .i64 a, .int .i64 b, .int .i64 lo, .int .i64 hi, .int .u64 c0, .int .u64 c1, .int .u64 c2, .int .u64 c3, .string s]] w (Ans w (.iface 126 (.agg #[.string s]))) := by
  have h := turned_raw 3 a b lo hi c0 c1 c2 c3 s w
  have e : anyV 3 a b lo hi c0 c1 c2 c3 s = .iface 126 (.agg #[.string s]) := by unfold anyV; simp
  rw [e] at h; exact h
theorem turned_one (k a b lo hi c0 c1 c2 c3 : Int) (s : ByteArray) (hk : k = 6 ∨ k = 8 ∨ k = 9) (w : World) : Calls Tryz.prog 64 #[.agg #[.int .i64 k, .int .i64 a, .int .i64 b, .int .i64 lo, .int .i64 hi, .int .u64 c0, .int .u64 c1, .int .u64 c2, .int .u64 c3, .string s]] w (Ans w (.iface 128 (.agg #[.int .i64 k, .int .i64 a]))) := by
  have h := turned_raw k a b lo hi c0 c1 c2 c3 s w
  have e : anyV k a b lo hi c0 c1 c2 c3 s = .iface 128 (.agg #[.int .i64 k, .int .i64 a]) := by unfold anyV; rcases hk with rfl | rfl | rfl <;> simp
  rw [e] at h; exact h
theorem turned_times (a b lo hi c0 c1 c2 c3 : Int) (s : ByteArray) (w : World) : Calls Tryz.prog 64 #[.agg #[.int .i64 7, .int .i64 a, .int .i64 b, .int .i64 lo, .int .i64 hi, .int .u64 c0, .int .u64 c1, .int .u64 c2, .int .u64 c3, .string s]] w (Ans w (.iface 131 (.agg #[.int .i64 a, .int .i64 lo, .int .i64 hi]))) := by
  have h := turned_raw 7 a b lo hi c0 c1 c2 c3 s w
  have e : anyV 7 a b lo hi c0 c1 c2 c3 s = .iface 131 (.agg #[.int .i64 a, .int .i64 lo, .int .i64 hi]) := by unfold anyV; simp
  rw [e] at h; exact h
theorem turned_two (k a b lo hi c0 c1 c2 c3 : Int) (s : ByteArray) (hk : k = 4 ∨ k = 5) (w : World) : Calls Tryz.prog 64 #[.agg #[.int .i64 k, .int .i64 a, .int .i64 b, .int .i64 lo, .int .i64 hi, .int .u64 c0, .int .u64 c1, .int .u64 c2, .int .u64 c3, .string s]] w (Ans w (.iface 133 (.agg #[.int .i64 k, .int .i64 a, .int .i64 b]))) := by
  have h := turned_raw k a b lo hi c0 c1 c2 c3 s w
  have e : anyV k a b lo hi c0 c1 c2 c3 s = .iface 133 (.agg #[.int .i64 k, .int .i64 a, .int .i64 b]) := by unfold anyV; rcases hk with rfl | rfl <;> simp
  rw [e] at h; exact h
theorem turned_nil (k a b lo hi c0 c1 c2 c3 : Int) (s : ByteArray) (h4 : ¬ (4 ≤ k ∧ k ≤ 9)) (h1 : k ≠ 1) (h2 : k ≠ 2) (h3 : k ≠ 3) (w : World) : Calls Tryz.prog 64 #[.agg #[.int .i64 k, .int .i64 a, .int .i64 b, .int .i64 lo, .int .i64 hi, .int .u64 c0, .int .u64 c1, .int .u64 c2, .int .u64 c3, .string s]] w (Ans w (.nilIface)) := by
  have h := turned_raw k a b lo hi c0 c1 c2 c3 s w
  have e : anyV k a b lo hi c0 c1 c2 c3 s = .nilIface := by unfold anyV; rw [if_neg h1, if_neg h2, if_neg h3, if_neg (by omega), if_neg (by omega), if_neg (by omega)]
  rw [e] at h; exact h
set_option maxHeartbeats 8000000 in
set_option maxRecDepth 100000 in
theorem moved_empty (a b lo hi c0 c1 c2 c3 d : Int) (s : ByteArray) (hs : s.size ≤ 281474976710656) (w : World) : Calls Tryz.prog 186 #[.agg #[.int .i64 1, .int .i64 a, .int .i64 b, .int .i64 lo, .int .i64 hi, .int .u64 c0, .int .u64 c1, .int .u64 c2, .int .u64 c3, .string s], .int .i64 d] w (Ans w (.agg #[.int .i64 1, .int .i64 a, .int .i64 b, .int .i64 lo, .int .i64 hi, .int .u64 c0, .int .u64 c1, .int .u64 c2, .int .u64 c3, .string s])) := by
  have hone := as_empty_one
  have htimes := as_empty_times
  have htwo := as_empty_two
  have TU := Lib.hid (fun w => turned_empty a b lo hi c0 c1 c2 c3 s w)
  go_enter Tryz.func186, Tryz.ntmps186
  go_wp2_with fail
  refine (TU.out _).mono ?_; rintro e w1 ⟨rfl, hb1⟩
  have H1 := Lib.hid ((MvB.new w #[.int .i64 1, .int .i64 a, .int .i64 b, .int .i64 lo, .int .i64 hi, .int .u64 c0, .int .u64 c1, .int .u64 c2, .int .u64 c3, .string s]).later hb1)
  clear hb1 TU
  have g1 := H1.out.src
  have ef1 := g1.frozen
  obtain ⟨e0, e1, e2, e3, e4, e5, e6, e7, e8, e9⟩ := ten_cells g1
  clear g1
  go_wp2_with fail
  refine (clone_any _ _ hs).mono ?_; rintro e wc ⟨rfl, hbc⟩
  have HC := Lib.hid (H1.out.later hbc)
  clear hbc e0 e1 e2 e3 e4 e5 e6 e7 e8 e9 ef1
  have g := HC.out.src
  have ef := g.frozen
  obtain ⟨e0, e1, e2, e3, e4, e5, e6, e7, e8, e9⟩ := ten_cells g
  clear g
  go_upto_region 8 with (fail)
  have HD : Hid (MvB w #[.int .i64 1, .int .i64 a, .int .i64 b, .int .i64 lo, .int .i64 hi, .int .u64 c0, .int .u64 c1, .int .u64 c2, .int .u64 c3, .string s] _) := HC.out.set 9 (.string s)
  generalize wc.setCell ⟨w.heap.size, 9, none⟩ (.string s) = wd at *
  clear e0 e1 e2 e3 e4 e5 e6 e7 e8 e9 ef
  have g := HD.out.src
  obtain ⟨e0, e1, e2, e3, e4, e5, e6, e7, e8, e9⟩ := ten_cells g
  clear g
  have hk := HD.out.res
  unfold z10 at hk
  have ef := hk.frozen
  obtain ⟨r0, r1, r2, r3, r4, r5, r6, r7, r8, r9⟩ := ten_cells hk
  obtain ⟨s0, s1, s2, s3, s4, s5, s6, s7, s8, s9⟩ := ten hk
  clear hk
  go_wp2
  exact bodyPost_ret (v := .agg #[.int .i64 1, .int .i64 a, .int .i64 b, .int .i64 lo, .int .i64 hi, .int .u64 c0, .int .u64 c1, .int .u64 c2, .int .u64 c3, .string s]) (by simp [results, Tryz.results186, go_sem, s0, s1, s2, s3, s4, s5, s6, s7, s8, s9]) rfl ⟨rfl, below10 HD.out.bel (Nat.le_succ _) _ _ _ _ _ _ _ _ _ _⟩
set_option maxHeartbeats 8000000 in
set_option maxRecDepth 100000 in
theorem moved_set (a b lo hi c0 c1 c2 c3 d : Int) (s : ByteArray) (hs : s.size ≤ 281474976710656) (w : World) : Calls Tryz.prog 186 #[.agg #[.int .i64 2, .int .i64 a, .int .i64 b, .int .i64 lo, .int .i64 hi, .int .u64 c0, .int .u64 c1, .int .u64 c2, .int .u64 c3, .string s], .int .i64 d] w (Ans w (.agg #[.int .i64 2, .int .i64 a, .int .i64 b, .int .i64 lo, .int .i64 hi, .int .u64 c0, .int .u64 c1, .int .u64 c2, .int .u64 c3, .string s])) := by
  have hone := as_set_one
  have htimes := as_set_times
  have htwo := as_set_two
  have TU := Lib.hid (fun w => turned_set a b lo hi c0 c1 c2 c3 s w)
  go_enter Tryz.func186, Tryz.ntmps186
  go_wp2_with fail
  refine (TU.out _).mono ?_; rintro e w1 ⟨rfl, hb1⟩
  have H1 := Lib.hid ((MvB.new w #[.int .i64 2, .int .i64 a, .int .i64 b, .int .i64 lo, .int .i64 hi, .int .u64 c0, .int .u64 c1, .int .u64 c2, .int .u64 c3, .string s]).later hb1)
  clear hb1 TU
  have g1 := H1.out.src
  have ef1 := g1.frozen
  obtain ⟨e0, e1, e2, e3, e4, e5, e6, e7, e8, e9⟩ := ten_cells g1
  clear g1
  go_wp2_with fail
  refine (clone_any _ _ hs).mono ?_; rintro e wc ⟨rfl, hbc⟩
  have HC := Lib.hid (H1.out.later hbc)
  clear hbc e0 e1 e2 e3 e4 e5 e6 e7 e8 e9 ef1
  have g := HC.out.src
  have ef := g.frozen
  obtain ⟨e0, e1, e2, e3, e4, e5, e6, e7, e8, e9⟩ := ten_cells g
  clear g
  go_upto_region 8 with (fail)
  have HD : Hid (MvB w #[.int .i64 2, .int .i64 a, .int .i64 b, .int .i64 lo, .int .i64 hi, .int .u64 c0, .int .u64 c1, .int .u64 c2, .int .u64 c3, .string s] _) := HC.out.set 9 (.string s)
  generalize wc.setCell ⟨w.heap.size, 9, none⟩ (.string s) = wd at *
  clear e0 e1 e2 e3 e4 e5 e6 e7 e8 e9 ef
  have g := HD.out.src
  obtain ⟨e0, e1, e2, e3, e4, e5, e6, e7, e8, e9⟩ := ten_cells g
  clear g
  have hk := HD.out.res
  unfold z10 at hk
  have ef := hk.frozen
  obtain ⟨r0, r1, r2, r3, r4, r5, r6, r7, r8, r9⟩ := ten_cells hk
  obtain ⟨s0, s1, s2, s3, s4, s5, s6, s7, s8, s9⟩ := ten hk
  clear hk
  go_wp2
  exact bodyPost_ret (v := .agg #[.int .i64 2, .int .i64 a, .int .i64 b, .int .i64 lo, .int .i64 hi, .int .u64 c0, .int .u64 c1, .int .u64 c2, .int .u64 c3, .string s]) (by simp [results, Tryz.results186, go_sem, s0, s1, s2, s3, s4, s5, s6, s7, s8, s9]) rfl ⟨rfl, below10 HD.out.bel (Nat.le_succ _) _ _ _ _ _ _ _ _ _ _⟩
set_option maxHeartbeats 8000000 in
set_option maxRecDepth 100000 in
theorem moved_text (a b lo hi c0 c1 c2 c3 d : Int) (s : ByteArray) (hs : s.size ≤ 281474976710656) (w : World) : Calls Tryz.prog 186 #[.agg #[.int .i64 3, .int .i64 a, .int .i64 b, .int .i64 lo, .int .i64 hi, .int .u64 c0, .int .u64 c1, .int .u64 c2, .int .u64 c3, .string s], .int .i64 d] w (Ans w (.agg #[.int .i64 3, .int .i64 a, .int .i64 b, .int .i64 lo, .int .i64 hi, .int .u64 c0, .int .u64 c1, .int .u64 c2, .int .u64 c3, .string s])) := by
  have hone := as_text_one
  have htimes := as_text_times
  have htwo := as_text_two
  have TU := Lib.hid (fun w => turned_text a b lo hi c0 c1 c2 c3 s w)
  go_enter Tryz.func186, Tryz.ntmps186
  go_wp2_with fail
  refine (TU.out _).mono ?_; rintro e w1 ⟨rfl, hb1⟩
  have H1 := Lib.hid ((MvB.new w #[.int .i64 3, .int .i64 a, .int .i64 b, .int .i64 lo, .int .i64 hi, .int .u64 c0, .int .u64 c1, .int .u64 c2, .int .u64 c3, .string s]).later hb1)
  clear hb1 TU
  have g1 := H1.out.src
  have ef1 := g1.frozen
  obtain ⟨e0, e1, e2, e3, e4, e5, e6, e7, e8, e9⟩ := ten_cells g1
  clear g1
  go_wp2_with fail
  refine (clone_any _ _ hs).mono ?_; rintro e wc ⟨rfl, hbc⟩
  have HC := Lib.hid (H1.out.later hbc)
  clear hbc e0 e1 e2 e3 e4 e5 e6 e7 e8 e9 ef1
  have g := HC.out.src
  have ef := g.frozen
  obtain ⟨e0, e1, e2, e3, e4, e5, e6, e7, e8, e9⟩ := ten_cells g
  clear g
  go_upto_region 8 with (fail)
  have HD : Hid (MvB w #[.int .i64 3, .int .i64 a, .int .i64 b, .int .i64 lo, .int .i64 hi, .int .u64 c0, .int .u64 c1, .int .u64 c2, .int .u64 c3, .string s] _) := HC.out.set 9 (.string s)
  generalize wc.setCell ⟨w.heap.size, 9, none⟩ (.string s) = wd at *
  clear e0 e1 e2 e3 e4 e5 e6 e7 e8 e9 ef
  have g := HD.out.src
  obtain ⟨e0, e1, e2, e3, e4, e5, e6, e7, e8, e9⟩ := ten_cells g
  clear g
  have hk := HD.out.res
  unfold z10 at hk
  have ef := hk.frozen
  obtain ⟨r0, r1, r2, r3, r4, r5, r6, r7, r8, r9⟩ := ten_cells hk
  obtain ⟨s0, s1, s2, s3, s4, s5, s6, s7, s8, s9⟩ := ten hk
  clear hk
  go_wp2
  exact bodyPost_ret (v := .agg #[.int .i64 3, .int .i64 a, .int .i64 b, .int .i64 lo, .int .i64 hi, .int .u64 c0, .int .u64 c1, .int .u64 c2, .int .u64 c3, .string s]) (by simp [results, Tryz.results186, go_sem, s0, s1, s2, s3, s4, s5, s6, s7, s8, s9]) rfl ⟨rfl, below10 HD.out.bel (Nat.le_succ _) _ _ _ _ _ _ _ _ _ _⟩
set_option maxHeartbeats 8000000 in
set_option maxRecDepth 100000 in
theorem moved_one (k a b lo hi c0 c1 c2 c3 d : Int) (s : ByteArray) (hk : k = 6 ∨ k = 8 ∨ k = 9) (ha : IntKind.i64.wrap (a + d) = a + d) (hs : s.size ≤ 281474976710656) (w : World) : Calls Tryz.prog 186 #[.agg #[.int .i64 k, .int .i64 a, .int .i64 b, .int .i64 lo, .int .i64 hi, .int .u64 c0, .int .u64 c1, .int .u64 c2, .int .u64 c3, .string s], .int .i64 d] w (Ans w (.agg #[.int .i64 k, .int .i64 (a + d), .int .i64 b, .int .i64 lo, .int .i64 hi, .int .u64 c0, .int .u64 c1, .int .u64 c2, .int .u64 c3, .string s])) := by
  have hone := as_one_one
  have htimes := as_one_times
  have htwo := as_one_two
  have HWA := Lib.hid ha
  clear ha
  have TU := Lib.hid (fun w => turned_one k a b lo hi c0 c1 c2 c3 s hk w)
  clear hk
  go_enter Tryz.func186, Tryz.ntmps186
  go_wp2_with fail
  refine (TU.out _).mono ?_; rintro e w1 ⟨rfl, hb1⟩
  have H1 := Lib.hid ((MvB.new w #[.int .i64 k, .int .i64 a, .int .i64 b, .int .i64 lo, .int .i64 hi, .int .u64 c0, .int .u64 c1, .int .u64 c2, .int .u64 c3, .string s]).later hb1)
  clear hb1 TU
  have g1 := H1.out.src
  have ef1 := g1.frozen
  obtain ⟨e0, e1, e2, e3, e4, e5, e6, e7, e8, e9⟩ := ten_cells g1
  clear g1
  have hwa := HWA.out
  go_upto_region 7 with (fail)
  have H2 : Hid (MvB w #[.int .i64 k, .int .i64 (a + d), .int .i64 b, .int .i64 lo, .int .i64 hi, .int .u64 c0, .int .u64 c1, .int .u64 c2, .int .u64 c3, .string s] _) := H1.out.set 1 (.int .i64 (a + d))
  generalize w1.setCell ⟨w.heap.size, 1, none⟩ (.int .i64 (a + d)) = w2 at *
  clear e0 e1 e2 e3 e4 e5 e6 e7 e8 e9 ef1 hwa
  have g2 := H2.out.src
  have ef2 := g2.frozen
  obtain ⟨e0, e1, e2, e3, e4, e5, e6, e7, e8, e9⟩ := ten_cells g2
  clear g2
  go_wp2_with fail
  refine (clone_any _ _ hs).mono ?_; rintro e wc ⟨rfl, hbc⟩
  have HC := Lib.hid (H2.out.later hbc)
  clear hbc e0 e1 e2 e3 e4 e5 e6 e7 e8 e9 ef2
  have g := HC.out.src
  have ef := g.frozen
  obtain ⟨e0, e1, e2, e3, e4, e5, e6, e7, e8, e9⟩ := ten_cells g
  clear g
  go_upto_region 8 with (fail)
  have HD : Hid (MvB w #[.int .i64 k, .int .i64 (a + d), .int .i64 b, .int .i64 lo, .int .i64 hi, .int .u64 c0, .int .u64 c1, .int .u64 c2, .int .u64 c3, .string s] _) := HC.out.set 9 (.string s)
  generalize wc.setCell ⟨w.heap.size, 9, none⟩ (.string s) = wd at *
  clear e0 e1 e2 e3 e4 e5 e6 e7 e8 e9 ef
  have g := HD.out.src
  obtain ⟨e0, e1, e2, e3, e4, e5, e6, e7, e8, e9⟩ := ten_cells g
  clear g
  have hk := HD.out.res
  unfold z10 at hk
  have ef := hk.frozen
  obtain ⟨r0, r1, r2, r3, r4, r5, r6, r7, r8, r9⟩ := ten_cells hk
  obtain ⟨s0, s1, s2, s3, s4, s5, s6, s7, s8, s9⟩ := ten hk
  clear hk
  go_wp2
  exact bodyPost_ret (v := .agg #[.int .i64 k, .int .i64 (a + d), .int .i64 b, .int .i64 lo, .int .i64 hi, .int .u64 c0, .int .u64 c1, .int .u64 c2, .int .u64 c3, .string s]) (by simp [results, Tryz.results186, go_sem, s0, s1, s2, s3, s4, s5, s6, s7, s8, s9]) rfl ⟨rfl, below10 HD.out.bel (Nat.le_succ _) _ _ _ _ _ _ _ _ _ _⟩
set_option maxHeartbeats 8000000 in
set_option maxRecDepth 100000 in
theorem moved_times (a b lo hi c0 c1 c2 c3 d : Int) (s : ByteArray) (ha : IntKind.i64.wrap (a + d) = a + d) (hs : s.size ≤ 281474976710656) (w : World) : Calls Tryz.prog 186 #[.agg #[.int .i64 7, .int .i64 a, .int .i64 b, .int .i64 lo, .int .i64 hi, .int .u64 c0, .int .u64 c1, .int .u64 c2, .int .u64 c3, .string s], .int .i64 d] w (Ans w (.agg #[.int .i64 7, .int .i64 (a + d), .int .i64 b, .int .i64 lo, .int .i64 hi, .int .u64 c0, .int .u64 c1, .int .u64 c2, .int .u64 c3, .string s])) := by
  have hone := as_times_one
  have htimes := as_times_times
  have htwo := as_times_two
  have HWA := Lib.hid ha
  clear ha
  have TU := Lib.hid (fun w => turned_times a b lo hi c0 c1 c2 c3 s w)
  go_enter Tryz.func186, Tryz.ntmps186
  go_wp2_with fail
  refine (TU.out _).mono ?_; rintro e w1 ⟨rfl, hb1⟩
  have H1 := Lib.hid ((MvB.new w #[.int .i64 7, .int .i64 a, .int .i64 b, .int .i64 lo, .int .i64 hi, .int .u64 c0, .int .u64 c1, .int .u64 c2, .int .u64 c3, .string s]).later hb1)
  clear hb1 TU
  have g1 := H1.out.src
  have ef1 := g1.frozen
  obtain ⟨e0, e1, e2, e3, e4, e5, e6, e7, e8, e9⟩ := ten_cells g1
  clear g1
  have hwa := HWA.out
  go_upto_region 7 with (fail)
  have H2 : Hid (MvB w #[.int .i64 7, .int .i64 (a + d), .int .i64 b, .int .i64 lo, .int .i64 hi, .int .u64 c0, .int .u64 c1, .int .u64 c2, .int .u64 c3, .string s] _) := H1.out.set 1 (.int .i64 (a + d))
  generalize w1.setCell ⟨w.heap.size, 1, none⟩ (.int .i64 (a + d)) = w2 at *
  clear e0 e1 e2 e3 e4 e5 e6 e7 e8 e9 ef1 hwa
  have g2 := H2.out.src
  have ef2 := g2.frozen
  obtain ⟨e0, e1, e2, e3, e4, e5, e6, e7, e8, e9⟩ := ten_cells g2
  clear g2
  go_wp2_with fail
  refine (clone_any _ _ hs).mono ?_; rintro e wc ⟨rfl, hbc⟩
  have HC := Lib.hid (H2.out.later hbc)
  clear hbc e0 e1 e2 e3 e4 e5 e6 e7 e8 e9 ef2
  have g := HC.out.src
  have ef := g.frozen
  obtain ⟨e0, e1, e2, e3, e4, e5, e6, e7, e8, e9⟩ := ten_cells g
  clear g
  go_upto_region 8 with (fail)
  have HD : Hid (MvB w #[.int .i64 7, .int .i64 (a + d), .int .i64 b, .int .i64 lo, .int .i64 hi, .int .u64 c0, .int .u64 c1, .int .u64 c2, .int .u64 c3, .string s] _) := HC.out.set 9 (.string s)
  generalize wc.setCell ⟨w.heap.size, 9, none⟩ (.string s) = wd at *
  clear e0 e1 e2 e3 e4 e5 e6 e7 e8 e9 ef
  have g := HD.out.src
  obtain ⟨e0, e1, e2, e3, e4, e5, e6, e7, e8, e9⟩ := ten_cells g
  clear g
  have hk := HD.out.res
  unfold z10 at hk
  have ef := hk.frozen
  obtain ⟨r0, r1, r2, r3, r4, r5, r6, r7, r8, r9⟩ := ten_cells hk
  obtain ⟨s0, s1, s2, s3, s4, s5, s6, s7, s8, s9⟩ := ten hk
  clear hk
  go_wp2
  exact bodyPost_ret (v := .agg #[.int .i64 7, .int .i64 (a + d), .int .i64 b, .int .i64 lo, .int .i64 hi, .int .u64 c0, .int .u64 c1, .int .u64 c2, .int .u64 c3, .string s]) (by simp [results, Tryz.results186, go_sem, s0, s1, s2, s3, s4, s5, s6, s7, s8, s9]) rfl ⟨rfl, below10 HD.out.bel (Nat.le_succ _) _ _ _ _ _ _ _ _ _ _⟩
set_option maxHeartbeats 8000000 in
set_option maxRecDepth 100000 in
theorem moved_two (k a b lo hi c0 c1 c2 c3 d : Int) (s : ByteArray) (hk : k = 4 ∨ k = 5) (ha : IntKind.i64.wrap (a + d) = a + d) (hb : IntKind.i64.wrap (b + d) = b + d) (hs : s.size ≤ 281474976710656) (w : World) : Calls Tryz.prog 186 #[.agg #[.int .i64 k, .int .i64 a, .int .i64 b, .int .i64 lo, .int .i64 hi, .int .u64 c0, .int .u64 c1, .int .u64 c2, .int .u64 c3, .string s], .int .i64 d] w (Ans w (.agg #[.int .i64 k, .int .i64 (a + d), .int .i64 (b + d), .int .i64 lo, .int .i64 hi, .int .u64 c0, .int .u64 c1, .int .u64 c2, .int .u64 c3, .string s])) := by
  have hone := as_two_one
  have htimes := as_two_times
  have htwo := as_two_two
  have HWA := Lib.hid ha
  clear ha
  have HWB := Lib.hid hb
  clear hb
  have TU := Lib.hid (fun w => turned_two k a b lo hi c0 c1 c2 c3 s hk w)
  clear hk
  go_enter Tryz.func186, Tryz.ntmps186
  go_wp2_with fail
  refine (TU.out _).mono ?_; rintro e w1 ⟨rfl, hb1⟩
  have H1 := Lib.hid ((MvB.new w #[.int .i64 k, .int .i64 a, .int .i64 b, .int .i64 lo, .int .i64 hi, .int .u64 c0, .int .u64 c1, .int .u64 c2, .int .u64 c3, .string s]).later hb1)
  clear hb1 TU
  have g1 := H1.out.src
  have ef1 := g1.frozen
  obtain ⟨e0, e1, e2, e3, e4, e5, e6, e7, e8, e9⟩ := ten_cells g1
  clear g1
  have hwa := HWA.out
  go_upto_region 6 with (fail)
  have H2 : Hid (MvB w #[.int .i64 k, .int .i64 (a + d), .int .i64 b, .int .i64 lo, .int .i64 hi, .int .u64 c0, .int .u64 c1, .int .u64 c2, .int .u64 c3, .string s] _) := H1.out.set 1 (.int .i64 (a + d))
  generalize w1.setCell ⟨w.heap.size, 1, none⟩ (.int .i64 (a + d)) = w2 at *
  clear e0 e1 e2 e3 e4 e5 e6 e7 e8 e9 ef1 hwa
  have g2 := H2.out.src
  have ef2 := g2.frozen
  obtain ⟨e0, e1, e2, e3, e4, e5, e6, e7, e8, e9⟩ := ten_cells g2
  clear g2
  have hwb := HWB.out
  go_upto_region 7 with (fail)
  have H3 : Hid (MvB w #[.int .i64 k, .int .i64 (a + d), .int .i64 (b + d), .int .i64 lo, .int .i64 hi, .int .u64 c0, .int .u64 c1, .int .u64 c2, .int .u64 c3, .string s] _) := H2.out.set 2 (.int .i64 (b + d))
  generalize w2.setCell ⟨w.heap.size, 2, none⟩ (.int .i64 (b + d)) = w3 at *
  clear e0 e1 e2 e3 e4 e5 e6 e7 e8 e9 ef2 hwb
  have g3 := H3.out.src
  have ef3 := g3.frozen
  obtain ⟨e0, e1, e2, e3, e4, e5, e6, e7, e8, e9⟩ := ten_cells g3
  clear g3
  go_wp2_with fail
  refine (clone_any _ _ hs).mono ?_; rintro e wc ⟨rfl, hbc⟩
  have HC := Lib.hid (H3.out.later hbc)
  clear hbc e0 e1 e2 e3 e4 e5 e6 e7 e8 e9 ef3
  have g := HC.out.src
  have ef := g.frozen
  obtain ⟨e0, e1, e2, e3, e4, e5, e6, e7, e8, e9⟩ := ten_cells g
  clear g
  go_upto_region 8 with (fail)
  have HD : Hid (MvB w #[.int .i64 k, .int .i64 (a + d), .int .i64 (b + d), .int .i64 lo, .int .i64 hi, .int .u64 c0, .int .u64 c1, .int .u64 c2, .int .u64 c3, .string s] _) := HC.out.set 9 (.string s)
  generalize wc.setCell ⟨w.heap.size, 9, none⟩ (.string s) = wd at *
  clear e0 e1 e2 e3 e4 e5 e6 e7 e8 e9 ef
  have g := HD.out.src
  obtain ⟨e0, e1, e2, e3, e4, e5, e6, e7, e8, e9⟩ := ten_cells g
  clear g
  have hk := HD.out.res
  unfold z10 at hk
  have ef := hk.frozen
  obtain ⟨r0, r1, r2, r3, r4, r5, r6, r7, r8, r9⟩ := ten_cells hk
  obtain ⟨s0, s1, s2, s3, s4, s5, s6, s7, s8, s9⟩ := ten hk
  clear hk
  go_wp2
  exact bodyPost_ret (v := .agg #[.int .i64 k, .int .i64 (a + d), .int .i64 (b + d), .int .i64 lo, .int .i64 hi, .int .u64 c0, .int .u64 c1, .int .u64 c2, .int .u64 c3, .string s]) (by simp [results, Tryz.results186, go_sem, s0, s1, s2, s3, s4, s5, s6, s7, s8, s9]) rfl ⟨rfl, below10 HD.out.bel (Nat.le_succ _) _ _ _ _ _ _ _ _ _ _⟩
set_option maxHeartbeats 8000000 in
set_option maxRecDepth 100000 in
theorem moved_nil (k a b lo hi c0 c1 c2 c3 d : Int) (s : ByteArray) (h4 : ¬ (4 ≤ k ∧ k ≤ 9)) (h1 : k ≠ 1) (h2 : k ≠ 2) (h3 : k ≠ 3) (hs : s.size ≤ 281474976710656) (w : World) : Calls Tryz.prog 186 #[.agg #[.int .i64 k, .int .i64 a, .int .i64 b, .int .i64 lo, .int .i64 hi, .int .u64 c0, .int .u64 c1, .int .u64 c2, .int .u64 c3, .string s], .int .i64 d] w (Ans w (.agg #[.int .i64 k, .int .i64 a, .int .i64 b, .int .i64 lo, .int .i64 hi, .int .u64 c0, .int .u64 c1, .int .u64 c2, .int .u64 c3, .string s])) := by
  have hone := as_nil_one
  have htimes := as_nil_times
  have htwo := as_nil_two
  have TU := Lib.hid (fun w => turned_nil k a b lo hi c0 c1 c2 c3 s h4 h1 h2 h3 w)
  clear h4 h1 h2 h3
  go_enter Tryz.func186, Tryz.ntmps186
  go_wp2_with fail
  refine (TU.out _).mono ?_; rintro e w1 ⟨rfl, hb1⟩
  have H1 := Lib.hid ((MvB.new w #[.int .i64 k, .int .i64 a, .int .i64 b, .int .i64 lo, .int .i64 hi, .int .u64 c0, .int .u64 c1, .int .u64 c2, .int .u64 c3, .string s]).later hb1)
  clear hb1 TU
  have g1 := H1.out.src
  have ef1 := g1.frozen
  obtain ⟨e0, e1, e2, e3, e4, e5, e6, e7, e8, e9⟩ := ten_cells g1
  clear g1
  go_wp2_with fail
  refine (clone_any _ _ hs).mono ?_; rintro e wc ⟨rfl, hbc⟩
  have HC := Lib.hid (H1.out.later hbc)
  clear hbc e0 e1 e2 e3 e4 e5 e6 e7 e8 e9 ef1
  have g := HC.out.src
  have ef := g.frozen
  obtain ⟨e0, e1, e2, e3, e4, e5, e6, e7, e8, e9⟩ := ten_cells g
  clear g
  go_upto_region 8 with (fail)
  have HD : Hid (MvB w #[.int .i64 k, .int .i64 a, .int .i64 b, .int .i64 lo, .int .i64 hi, .int .u64 c0, .int .u64 c1, .int .u64 c2, .int .u64 c3, .string s] _) := HC.out.set 9 (.string s)
  generalize wc.setCell ⟨w.heap.size, 9, none⟩ (.string s) = wd at *
  clear e0 e1 e2 e3 e4 e5 e6 e7 e8 e9 ef
  have g := HD.out.src
  obtain ⟨e0, e1, e2, e3, e4, e5, e6, e7, e8, e9⟩ := ten_cells g
  clear g
  have hk := HD.out.res
  unfold z10 at hk
  have ef := hk.frozen
  obtain ⟨r0, r1, r2, r3, r4, r5, r6, r7, r8, r9⟩ := ten_cells hk
  obtain ⟨s0, s1, s2, s3, s4, s5, s6, s7, s8, s9⟩ := ten hk
  clear hk
  go_wp2
  exact bodyPost_ret (v := .agg #[.int .i64 k, .int .i64 a, .int .i64 b, .int .i64 lo, .int .i64 hi, .int .u64 c0, .int .u64 c1, .int .u64 c2, .int .u64 c3, .string s]) (by simp [results, Tryz.results186, go_sem, s0, s1, s2, s3, s4, s5, s6, s7, s8, s9]) rfl ⟨rfl, below10 HD.out.bel (Nat.le_succ _) _ _ _ _ _ _ _ _ _ _⟩
end Go.Proofs.YtcgjmnhmhiddkaaGreatDoor
