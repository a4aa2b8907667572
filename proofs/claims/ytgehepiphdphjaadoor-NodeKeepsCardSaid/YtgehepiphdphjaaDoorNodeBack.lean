/- The node of a value of a type of its own: walked. -/
import Derived.Test.YtgehepiphdphjaaDoorNodeTurn
namespace Go.Proofs.YtgehepiphdphjaaDoor
open Go Go.RowKit
set_option linter.unusedVariables false
set_option linter.unusedSimpArgs false

theorem as_empty_empty (v : Value) (w : World) : (Instr.typeAssert (.iface 115 v) 20 115 true).run Tryd.prog w = .ok (.tuple #[v, .bool true]) w := by kernel_rfl
theorem as_empty_set (v : Value) (w : World) : (Instr.typeAssert (.iface 115 v) 20 117 true).run Tryd.prog w = .ok (.tuple #[.agg #[.int .u64 0, .int .u64 0, .int .u64 0, .int .u64 0], .bool false]) w := by kernel_rfl
theorem as_empty_text (v : Value) (w : World) : (Instr.typeAssert (.iface 115 v) 20 119 true).run Tryd.prog w = .ok (.tuple #[.agg #[.string ByteArray.empty], .bool false]) w := by kernel_rfl
theorem as_empty_one (v : Value) (w : World) : (Instr.typeAssert (.iface 115 v) 20 122 true).run Tryd.prog w = .ok (.tuple #[.agg #[.int .i64 0, .int .i64 0], .bool false]) w := by kernel_rfl
theorem as_empty_times (v : Value) (w : World) : (Instr.typeAssert (.iface 115 v) 20 125 true).run Tryd.prog w = .ok (.tuple #[.agg #[.int .i64 0, .int .i64 0, .int .i64 0], .bool false]) w := by kernel_rfl
theorem as_empty_two (v : Value) (w : World) : (Instr.typeAssert (.iface 115 v) 20 127 true).run Tryd.prog w = .ok (.tuple #[.agg #[.int .i64 0, .int .i64 0, .int .i64 0], .bool false]) w := by kernel_rfl
theorem as_set_empty (v : Value) (w : World) : (Instr.typeAssert (.iface 117 v) 20 115 true).run Tryd.prog w = .ok (.tuple #[.agg #[], .bool false]) w := by kernel_rfl
theorem as_set_set (v : Value) (w : World) : (Instr.typeAssert (.iface 117 v) 20 117 true).run Tryd.prog w = .ok (.tuple #[v, .bool true]) w := by kernel_rfl
theorem as_set_text (v : Value) (w : World) : (Instr.typeAssert (.iface 117 v) 20 119 true).run Tryd.prog w = .ok (.tuple #[.agg #[.string ByteArray.empty], .bool false]) w := by kernel_rfl
theorem as_set_one (v : Value) (w : World) : (Instr.typeAssert (.iface 117 v) 20 122 true).run Tryd.prog w = .ok (.tuple #[.agg #[.int .i64 0, .int .i64 0], .bool false]) w := by kernel_rfl
theorem as_set_times (v : Value) (w : World) : (Instr.typeAssert (.iface 117 v) 20 125 true).run Tryd.prog w = .ok (.tuple #[.agg #[.int .i64 0, .int .i64 0, .int .i64 0], .bool false]) w := by kernel_rfl
theorem as_set_two (v : Value) (w : World) : (Instr.typeAssert (.iface 117 v) 20 127 true).run Tryd.prog w = .ok (.tuple #[.agg #[.int .i64 0, .int .i64 0, .int .i64 0], .bool false]) w := by kernel_rfl
theorem as_text_empty (v : Value) (w : World) : (Instr.typeAssert (.iface 119 v) 20 115 true).run Tryd.prog w = .ok (.tuple #[.agg #[], .bool false]) w := by kernel_rfl
theorem as_text_set (v : Value) (w : World) : (Instr.typeAssert (.iface 119 v) 20 117 true).run Tryd.prog w = .ok (.tuple #[.agg #[.int .u64 0, .int .u64 0, .int .u64 0, .int .u64 0], .bool false]) w := by kernel_rfl
theorem as_text_text (v : Value) (w : World) : (Instr.typeAssert (.iface 119 v) 20 119 true).run Tryd.prog w = .ok (.tuple #[v, .bool true]) w := by kernel_rfl
theorem as_text_one (v : Value) (w : World) : (Instr.typeAssert (.iface 119 v) 20 122 true).run Tryd.prog w = .ok (.tuple #[.agg #[.int .i64 0, .int .i64 0], .bool false]) w := by kernel_rfl
theorem as_text_times (v : Value) (w : World) : (Instr.typeAssert (.iface 119 v) 20 125 true).run Tryd.prog w = .ok (.tuple #[.agg #[.int .i64 0, .int .i64 0, .int .i64 0], .bool false]) w := by kernel_rfl
theorem as_text_two (v : Value) (w : World) : (Instr.typeAssert (.iface 119 v) 20 127 true).run Tryd.prog w = .ok (.tuple #[.agg #[.int .i64 0, .int .i64 0, .int .i64 0], .bool false]) w := by kernel_rfl
theorem as_one_empty (v : Value) (w : World) : (Instr.typeAssert (.iface 122 v) 20 115 true).run Tryd.prog w = .ok (.tuple #[.agg #[], .bool false]) w := by kernel_rfl
theorem as_one_set (v : Value) (w : World) : (Instr.typeAssert (.iface 122 v) 20 117 true).run Tryd.prog w = .ok (.tuple #[.agg #[.int .u64 0, .int .u64 0, .int .u64 0, .int .u64 0], .bool false]) w := by kernel_rfl
theorem as_one_text (v : Value) (w : World) : (Instr.typeAssert (.iface 122 v) 20 119 true).run Tryd.prog w = .ok (.tuple #[.agg #[.string ByteArray.empty], .bool false]) w := by kernel_rfl
theorem as_one_one (v : Value) (w : World) : (Instr.typeAssert (.iface 122 v) 20 122 true).run Tryd.prog w = .ok (.tuple #[v, .bool true]) w := by kernel_rfl
theorem as_one_times (v : Value) (w : World) : (Instr.typeAssert (.iface 122 v) 20 125 true).run Tryd.prog w = .ok (.tuple #[.agg #[.int .i64 0, .int .i64 0, .int .i64 0], .bool false]) w := by kernel_rfl
theorem as_one_two (v : Value) (w : World) : (Instr.typeAssert (.iface 122 v) 20 127 true).run Tryd.prog w = .ok (.tuple #[.agg #[.int .i64 0, .int .i64 0, .int .i64 0], .bool false]) w := by kernel_rfl
theorem as_times_empty (v : Value) (w : World) : (Instr.typeAssert (.iface 125 v) 20 115 true).run Tryd.prog w = .ok (.tuple #[.agg #[], .bool false]) w := by kernel_rfl
theorem as_times_set (v : Value) (w : World) : (Instr.typeAssert (.iface 125 v) 20 117 true).run Tryd.prog w = .ok (.tuple #[.agg #[.int .u64 0, .int .u64 0, .int .u64 0, .int .u64 0], .bool false]) w := by kernel_rfl
theorem as_times_text (v : Value) (w : World) : (Instr.typeAssert (.iface 125 v) 20 119 true).run Tryd.prog w = .ok (.tuple #[.agg #[.string ByteArray.empty], .bool false]) w := by kernel_rfl
theorem as_times_one (v : Value) (w : World) : (Instr.typeAssert (.iface 125 v) 20 122 true).run Tryd.prog w = .ok (.tuple #[.agg #[.int .i64 0, .int .i64 0], .bool false]) w := by kernel_rfl
theorem as_times_times (v : Value) (w : World) : (Instr.typeAssert (.iface 125 v) 20 125 true).run Tryd.prog w = .ok (.tuple #[v, .bool true]) w := by kernel_rfl
theorem as_times_two (v : Value) (w : World) : (Instr.typeAssert (.iface 125 v) 20 127 true).run Tryd.prog w = .ok (.tuple #[.agg #[.int .i64 0, .int .i64 0, .int .i64 0], .bool false]) w := by kernel_rfl
theorem as_two_empty (v : Value) (w : World) : (Instr.typeAssert (.iface 127 v) 20 115 true).run Tryd.prog w = .ok (.tuple #[.agg #[], .bool false]) w := by kernel_rfl
theorem as_two_set (v : Value) (w : World) : (Instr.typeAssert (.iface 127 v) 20 117 true).run Tryd.prog w = .ok (.tuple #[.agg #[.int .u64 0, .int .u64 0, .int .u64 0, .int .u64 0], .bool false]) w := by kernel_rfl
theorem as_two_text (v : Value) (w : World) : (Instr.typeAssert (.iface 127 v) 20 119 true).run Tryd.prog w = .ok (.tuple #[.agg #[.string ByteArray.empty], .bool false]) w := by kernel_rfl
theorem as_two_one (v : Value) (w : World) : (Instr.typeAssert (.iface 127 v) 20 122 true).run Tryd.prog w = .ok (.tuple #[.agg #[.int .i64 0, .int .i64 0], .bool false]) w := by kernel_rfl
theorem as_two_times (v : Value) (w : World) : (Instr.typeAssert (.iface 127 v) 20 125 true).run Tryd.prog w = .ok (.tuple #[.agg #[.int .i64 0, .int .i64 0, .int .i64 0], .bool false]) w := by kernel_rfl
theorem as_two_two (v : Value) (w : World) : (Instr.typeAssert (.iface 127 v) 20 127 true).run Tryd.prog w = .ok (.tuple #[v, .bool true]) w := by kernel_rfl
theorem as_nil_empty (w : World) : (Instr.typeAssert .nilIface 20 115 true).run Tryd.prog w = .ok (.tuple #[.agg #[], .bool false]) w := by kernel_rfl
theorem as_nil_set (w : World) : (Instr.typeAssert .nilIface 20 117 true).run Tryd.prog w = .ok (.tuple #[.agg #[.int .u64 0, .int .u64 0, .int .u64 0, .int .u64 0], .bool false]) w := by kernel_rfl
theorem as_nil_text (w : World) : (Instr.typeAssert .nilIface 20 119 true).run Tryd.prog w = .ok (.tuple #[.agg #[.string ByteArray.empty], .bool false]) w := by kernel_rfl
theorem as_nil_one (w : World) : (Instr.typeAssert .nilIface 20 122 true).run Tryd.prog w = .ok (.tuple #[.agg #[.int .i64 0, .int .i64 0], .bool false]) w := by kernel_rfl
theorem as_nil_times (w : World) : (Instr.typeAssert .nilIface 20 125 true).run Tryd.prog w = .ok (.tuple #[.agg #[.int .i64 0, .int .i64 0, .int .i64 0], .bool false]) w := by kernel_rfl
theorem as_nil_two (w : World) : (Instr.typeAssert .nilIface 20 127 true).run Tryd.prog w = .ok (.tuple #[.agg #[.int .i64 0, .int .i64 0, .int .i64 0], .bool false]) w := by kernel_rfl
set_option maxHeartbeats 4000000 in
set_option maxRecDepth 100000 in
theorem back_empty (w : World) : Calls Tryd.prog 79 #[.iface 115 (.agg #[])] w (Ans w (.agg #[.int .i64 1, .int .i64 0, .int .i64 0, .int .i64 0, .int .i64 0, .int .u64 0, .int .u64 0, .int .u64 0, .int .u64 0, .string ⟨#[]⟩])) := by
  have hempty := as_empty_empty
  have hset := as_empty_set
  have htext := as_empty_text
  have hone := as_empty_one
  have htimes := as_empty_times
  have htwo := as_empty_two
  go_enter Tryd.func79, Tryd.ntmps79
  go_upto_region 4 with (fail)
  have HX := Lib.hid ((Box10.new w).later ((Below.refl _ _).alloc (Nat.le_refl _) (.cells #[] 115)))
  have HI : Hid (Blk ((w.alloc (.cells #[.int .i64 0, .int .i64 0, .int .i64 0, .int .i64 0, .int .i64 0, .int .u64 0, .int .u64 0, .int .u64 0, .int .u64 0, .string ⟨#[]⟩] 59)).alloc (.cells #[] 115)) (w.heap.size + 1) #[] 115) := by unfold Hid; have := Blk.new (w.alloc (.cells #[.int .i64 0, .int .i64 0, .int .i64 0, .int .i64 0, .int .i64 0, .int .u64 0, .int .u64 0, .int .u64 0, .int .u64 0, .string ⟨#[]⟩] 59)) #[] 115; simpa using this
  generalize (w.alloc (.cells #[.int .i64 0, .int .i64 0, .int .i64 0, .int .i64 0, .int .i64 0, .int .u64 0, .int .u64 0, .int .u64 0, .int .u64 0, .string ⟨#[]⟩] 59)).alloc (.cells #[] 115) = wz at *
  have hk := HX.out.blk
  unfold z10 at hk
  have ef := hk.frozen
  obtain ⟨e0, e1, e2, e3, e4, e5, e6, e7, e8, e9⟩ := ten_cells hk
  obtain ⟨s0, s1, s2, s3, s4, s5, s6, s7, s8, s9⟩ := ten hk
  clear hk
  go_wp2
  exact bodyPost_ret (v := .agg #[.int .i64 1, .int .i64 0, .int .i64 0, .int .i64 0, .int .i64 0, .int .u64 0, .int .u64 0, .int .u64 0, .int .u64 0, .string ⟨#[]⟩]) (by simp [results, Tryd.results79, go_sem, s0, s1, s2, s3, s4, s5, s6, s7, s8, s9]) rfl ⟨rfl, below10 HX.out.bel (Nat.le_refl _) _ _ _ _ _ _ _ _ _ _⟩
set_option maxHeartbeats 4000000 in
set_option maxRecDepth 100000 in
theorem back_set (c0 c1 c2 c3 : Int) (w : World) : Calls Tryd.prog 79 #[.iface 117 (.agg #[.int .u64 c0, .int .u64 c1, .int .u64 c2, .int .u64 c3])] w (Ans w (.agg #[.int .i64 2, .int .i64 0, .int .i64 0, .int .i64 0, .int .i64 0, .int .u64 c0, .int .u64 c1, .int .u64 c2, .int .u64 c3, .string ⟨#[]⟩])) := by
  have hempty := as_set_empty
  have hset := as_set_set
  have htext := as_set_text
  have hone := as_set_one
  have htimes := as_set_times
  have htwo := as_set_two
  go_enter Tryd.func79, Tryd.ntmps79
  go_upto_region 7 with (fail)
  have HX := Lib.hid ((Box10.new w).later ((Below.refl _ _).alloc (Nat.le_refl _) (.cells #[.int .u64 c0, .int .u64 c1, .int .u64 c2, .int .u64 c3] 117)))
  have HI : Hid (Blk ((w.alloc (.cells #[.int .i64 0, .int .i64 0, .int .i64 0, .int .i64 0, .int .i64 0, .int .u64 0, .int .u64 0, .int .u64 0, .int .u64 0, .string ⟨#[]⟩] 59)).alloc (.cells #[.int .u64 c0, .int .u64 c1, .int .u64 c2, .int .u64 c3] 117)) (w.heap.size + 1) #[.int .u64 c0, .int .u64 c1, .int .u64 c2, .int .u64 c3] 117) := by unfold Hid; have := Blk.new (w.alloc (.cells #[.int .i64 0, .int .i64 0, .int .i64 0, .int .i64 0, .int .i64 0, .int .u64 0, .int .u64 0, .int .u64 0, .int .u64 0, .string ⟨#[]⟩] 59)) #[.int .u64 c0, .int .u64 c1, .int .u64 c2, .int .u64 c3] 117; simpa using this
  generalize (w.alloc (.cells #[.int .i64 0, .int .i64 0, .int .i64 0, .int .i64 0, .int .i64 0, .int .u64 0, .int .u64 0, .int .u64 0, .int .u64 0, .string ⟨#[]⟩] 59)).alloc (.cells #[.int .u64 c0, .int .u64 c1, .int .u64 c2, .int .u64 c3] 117) = wz at *
  have i0 := HI.out.cell 0
  have i1 := HI.out.cell 1
  have i2 := HI.out.cell 2
  have i3 := HI.out.cell 3
  have hk := HX.out.blk
  unfold z10 at hk
  have ef := hk.frozen
  obtain ⟨e0, e1, e2, e3, e4, e5, e6, e7, e8, e9⟩ := ten_cells hk
  obtain ⟨s0, s1, s2, s3, s4, s5, s6, s7, s8, s9⟩ := ten hk
  clear hk
  simp at i0 i1 i2 i3
  go_wp2
  exact bodyPost_ret (v := .agg #[.int .i64 2, .int .i64 0, .int .i64 0, .int .i64 0, .int .i64 0, .int .u64 c0, .int .u64 c1, .int .u64 c2, .int .u64 c3, .string ⟨#[]⟩]) (by simp [results, Tryd.results79, go_sem, s0, s1, s2, s3, s4, s5, s6, s7, s8, s9]) rfl ⟨rfl, below10 HX.out.bel (Nat.le_refl _) _ _ _ _ _ _ _ _ _ _⟩
set_option maxHeartbeats 4000000 in
set_option maxRecDepth 100000 in
theorem back_text (s : ByteArray) (w : World) : Calls Tryd.prog 79 #[.iface 119 (.agg #[.string s])] w (Ans w (.agg #[.int .i64 3, .int .i64 0, .int .i64 0, .int .i64 0, .int .i64 0, .int .u64 0, .int .u64 0, .int .u64 0, .int .u64 0, .string s])) := by
  have hempty := as_text_empty
  have hset := as_text_set
  have htext := as_text_text
  have hone := as_text_one
  have htimes := as_text_times
  have htwo := as_text_two
  go_enter Tryd.func79, Tryd.ntmps79
  go_upto_region 10 with (fail)
  have HX := Lib.hid ((Box10.new w).later ((Below.refl _ _).alloc (Nat.le_refl _) (.cells #[.string s] 119)))
  have HI : Hid (Blk ((w.alloc (.cells #[.int .i64 0, .int .i64 0, .int .i64 0, .int .i64 0, .int .i64 0, .int .u64 0, .int .u64 0, .int .u64 0, .int .u64 0, .string ⟨#[]⟩] 59)).alloc (.cells #[.string s] 119)) (w.heap.size + 1) #[.string s] 119) := by unfold Hid; have := Blk.new (w.alloc (.cells #[.int .i64 0, .int .i64 0, .int .i64 0, .int .i64 0, .int .i64 0, .int .u64 0, .int .u64 0, .int .u64 0, .int .u64 0, .string ⟨#[]⟩] 59)) #[.string s] 119; simpa using this
  generalize (w.alloc (.cells #[.int .i64 0, .int .i64 0, .int .i64 0, .int .i64 0, .int .i64 0, .int .u64 0, .int .u64 0, .int .u64 0, .int .u64 0, .string ⟨#[]⟩] 59)).alloc (.cells #[.string s] 119) = wz at *
  have i0 := HI.out.cell 0
  have hk := HX.out.blk
  unfold z10 at hk
  have ef := hk.frozen
  obtain ⟨e0, e1, e2, e3, e4, e5, e6, e7, e8, e9⟩ := ten_cells hk
  obtain ⟨s0, s1, s2, s3, s4, s5, s6, s7, s8, s9⟩ := ten hk
  clear hk
  simp at i0
  go_wp2
  exact bodyPost_ret (v := .agg #[.int .i64 3, .int .i64 0, .int .i64 0, .int .i64 0, .int .i64 0, .int .u64 0, .int .u64 0, .int .u64 0, .int .u64 0, .string s]) (by simp [results, Tryd.results79, go_sem, s0, s1, s2, s3, s4, s5, s6, s7, s8, s9]) rfl ⟨rfl, below10 HX.out.bel (Nat.le_refl _) _ _ _ _ _ _ _ _ _ _⟩
set_option maxHeartbeats 4000000 in
set_option maxRecDepth 100000 in
theorem back_one (k a : Int) (w : World) : Calls Tryd.prog 79 #[.iface 122 (.agg #[.int .i64 k, .int .i64 a])] w (Ans w (.agg #[.int .i64 k, .int .i64 a, .int .i64 0, .int .i64 0, .int .i64 0, .int .u64 0, .int .u64 0, .int .u64 0, .int .u64 0, .string ⟨#[]⟩])) := by
  have hempty := as_one_empty
  have hset := as_one_set
  have htext := as_one_text
  have hone := as_one_one
  have htimes := as_one_times
  have htwo := as_one_two
  go_enter Tryd.func79, Tryd.ntmps79
  go_upto_region 13 with (fail)
  have HX := Lib.hid ((Box10.new w).later ((Below.refl _ _).alloc (Nat.le_refl _) (.cells #[.int .i64 k, .int .i64 a] 122)))
  have HI : Hid (Blk ((w.alloc (.cells #[.int .i64 0, .int .i64 0, .int .i64 0, .int .i64 0, .int .i64 0, .int .u64 0, .int .u64 0, .int .u64 0, .int .u64 0, .string ⟨#[]⟩] 59)).alloc (.cells #[.int .i64 k, .int .i64 a] 122)) (w.heap.size + 1) #[.int .i64 k, .int .i64 a] 122) := by unfold Hid; have := Blk.new (w.alloc (.cells #[.int .i64 0, .int .i64 0, .int .i64 0, .int .i64 0, .int .i64 0, .int .u64 0, .int .u64 0, .int .u64 0, .int .u64 0, .string ⟨#[]⟩] 59)) #[.int .i64 k, .int .i64 a] 122; simpa using this
  generalize (w.alloc (.cells #[.int .i64 0, .int .i64 0, .int .i64 0, .int .i64 0, .int .i64 0, .int .u64 0, .int .u64 0, .int .u64 0, .int .u64 0, .string ⟨#[]⟩] 59)).alloc (.cells #[.int .i64 k, .int .i64 a] 122) = wz at *
  have i0 := HI.out.cell 0
  have i1 := HI.out.cell 1
  have hk := HX.out.blk
  unfold z10 at hk
  have ef := hk.frozen
  obtain ⟨e0, e1, e2, e3, e4, e5, e6, e7, e8, e9⟩ := ten_cells hk
  obtain ⟨s0, s1, s2, s3, s4, s5, s6, s7, s8, s9⟩ := ten hk
  clear hk
  simp at i0 i1
  go_wp2
  exact bodyPost_ret (v := .agg #[.int .i64 k, .int .i64 a, .int .i64 0, .int .i64 0, .int .i64 0, .int .u64 0, .int .u64 0, .int .u64 0, .int .u64 0, .string ⟨#[]⟩]) (by simp [results, Tryd.results79, go_sem, s0, s1, s2, s3, s4, s5, s6, s7, s8, s9]) rfl ⟨rfl, below10 HX.out.bel (Nat.le_refl _) _ _ _ _ _ _ _ _ _ _⟩
set_option maxHeartbeats 4000000 in
set_option maxRecDepth 100000 in
theorem back_times (a lo hi : Int) (w : World) : Calls Tryd.prog 79 #[.iface 125 (.agg #[.int .i64 a, .int .i64 lo, .int .i64 hi])] w (Ans w (.agg #[.int .i64 7, .int .i64 a, .int .i64 0, .int .i64 lo, .int .i64 hi, .int .u64 0, .int .u64 0, .int .u64 0, .int .u64 0, .string ⟨#[]⟩])) := by
  have hempty := as_times_empty
  have hset := as_times_set
  have htext := as_times_text
  have hone := as_times_one
  have htimes := as_times_times
  have htwo := as_times_two
  go_enter Tryd.func79, Tryd.ntmps79
  go_upto_region 16 with (fail)
  have HX := Lib.hid ((Box10.new w).later ((Below.refl _ _).alloc (Nat.le_refl _) (.cells #[.int .i64 a, .int .i64 lo, .int .i64 hi] 125)))
  have HI : Hid (Blk ((w.alloc (.cells #[.int .i64 0, .int .i64 0, .int .i64 0, .int .i64 0, .int .i64 0, .int .u64 0, .int .u64 0, .int .u64 0, .int .u64 0, .string ⟨#[]⟩] 59)).alloc (.cells #[.int .i64 a, .int .i64 lo, .int .i64 hi] 125)) (w.heap.size + 1) #[.int .i64 a, .int .i64 lo, .int .i64 hi] 125) := by unfold Hid; have := Blk.new (w.alloc (.cells #[.int .i64 0, .int .i64 0, .int .i64 0, .int .i64 0, .int .i64 0, .int .u64 0, .int .u64 0, .int .u64 0, .int .u64 0, .string ⟨#[]⟩] 59)) #[.int .i64 a, .int .i64 lo, .int .i64 hi] 125; simpa using this
  generalize (w.alloc (.cells #[.int .i64 0, .int .i64 0, .int .i64 0, .int .i64 0, .int .i64 0, .int .u64 0, .int .u64 0, .int .u64 0, .int .u64 0, .string ⟨#[]⟩] 59)).alloc (.cells #[.int .i64 a, .int .i64 lo, .int .i64 hi] 125) = wz at *
  have i0 := HI.out.cell 0
  have i1 := HI.out.cell 1
  have i2 := HI.out.cell 2
  have hk := HX.out.blk
  unfold z10 at hk
  have ef := hk.frozen
  obtain ⟨e0, e1, e2, e3, e4, e5, e6, e7, e8, e9⟩ := ten_cells hk
  obtain ⟨s0, s1, s2, s3, s4, s5, s6, s7, s8, s9⟩ := ten hk
  clear hk
  simp at i0 i1 i2
  go_wp2
  exact bodyPost_ret (v := .agg #[.int .i64 7, .int .i64 a, .int .i64 0, .int .i64 lo, .int .i64 hi, .int .u64 0, .int .u64 0, .int .u64 0, .int .u64 0, .string ⟨#[]⟩]) (by simp [results, Tryd.results79, go_sem, s0, s1, s2, s3, s4, s5, s6, s7, s8, s9]) rfl ⟨rfl, below10 HX.out.bel (Nat.le_refl _) _ _ _ _ _ _ _ _ _ _⟩
set_option maxHeartbeats 4000000 in
set_option maxRecDepth 100000 in
theorem back_two (k a b : Int) (w : World) : Calls Tryd.prog 79 #[.iface 127 (.agg #[.int .i64 k, .int .i64 a, .int .i64 b])] w (Ans w (.agg #[.int .i64 k, .int .i64 a, .int .i64 b, .int .i64 0, .int .i64 0, .int .u64 0, .int .u64 0, .int .u64 0, .int .u64 0, .string ⟨#[]⟩])) := by
  have hempty := as_two_empty
  have hset := as_two_set
  have htext := as_two_text
  have hone := as_two_one
  have htimes := as_two_times
  have htwo := as_two_two
  go_enter Tryd.func79, Tryd.ntmps79
  go_upto_region 19 with (fail)
  have HX := Lib.hid ((Box10.new w).later ((Below.refl _ _).alloc (Nat.le_refl _) (.cells #[.int .i64 k, .int .i64 a, .int .i64 b] 127)))
  have HI : Hid (Blk ((w.alloc (.cells #[.int .i64 0, .int .i64 0, .int .i64 0, .int .i64 0, .int .i64 0, .int .u64 0, .int .u64 0, .int .u64 0, .int .u64 0, .string ⟨#[]⟩] 59)).alloc (.cells #[.int .i64 k, .int .i64 a, .int .i64 b] 127)) (w.heap.size + 1) #[.int .i64 k, .int .i64 a, .int .i64 b] 127) := by unfold Hid; have := Blk.new (w.alloc (.cells #[.int .i64 0, .int .i64 0, .int .i64 0, .int .i64 0, .int .i64 0, .int .u64 0, .int .u64 0, .int .u64 0, .int .u64 0, .string ⟨#[]⟩] 59)) #[.int .i64 k, .int .i64 a, .int .i64 b] 127; simpa using this
  generalize (w.alloc (.cells #[.int .i64 0, .int .i64 0, .int .i64 0, .int .i64 0, .int .i64 0, .int .u64 0, .int .u64 0, .int .u64 0, .int .u64 0, .string ⟨#[]⟩] 59)).alloc (.cells #[.int .i64 k, .int .i64 a, .int .i64 b] 127) = wz at *
  have i0 := HI.out.cell 0
  have i1 := HI.out.cell 1
  have i2 := HI.out.cell 2
  have hk := HX.out.blk
  unfold z10 at hk
  have ef := hk.frozen
  obtain ⟨e0, e1, e2, e3, e4, e5, e6, e7, e8, e9⟩ := ten_cells hk
  obtain ⟨s0, s1, s2, s3, s4, s5, s6, s7, s8, s9⟩ := ten hk
  clear hk
  simp at i0 i1 i2
  go_wp2
  exact bodyPost_ret (v := .agg #[.int .i64 k, .int .i64 a, .int .i64 b, .int .i64 0, .int .i64 0, .int .u64 0, .int .u64 0, .int .u64 0, .int .u64 0, .string ⟨#[]⟩]) (by simp [results, Tryd.results79, go_sem, s0, s1, s2, s3, s4, s5, s6, s7, s8, s9]) rfl ⟨rfl, below10 HX.out.bel (Nat.le_refl _) _ _ _ _ _ _ _ _ _ _⟩
set_option maxHeartbeats 4000000 in
set_option maxRecDepth 100000 in
theorem back_nil (w : World) : Calls Tryd.prog 79 #[.nilIface] w (Ans w (.agg #[.int .i64 0, .int .i64 0, .int .i64 0, .int .i64 0, .int .i64 0, .int .u64 0, .int .u64 0, .int .u64 0, .int .u64 0, .string ⟨#[]⟩])) := by
  have hempty := as_nil_empty
  have hset := as_nil_set
  have htext := as_nil_text
  have hone := as_nil_one
  have htimes := as_nil_times
  have htwo := as_nil_two
  go_enter Tryd.func79, Tryd.ntmps79
  go_upto_region 20 with (fail)
  have HX := Lib.hid (Box10.new w)
  generalize w.alloc (.cells #[.int .i64 0, .int .i64 0, .int .i64 0, .int .i64 0, .int .i64 0, .int .u64 0, .int .u64 0, .int .u64 0, .int .u64 0, .string ⟨#[]⟩] 59) = wz at *
  have hk := HX.out.blk
  unfold z10 at hk
  have ef := hk.frozen
  obtain ⟨e0, e1, e2, e3, e4, e5, e6, e7, e8, e9⟩ := ten_cells hk
  obtain ⟨s0, s1, s2, s3, s4, s5, s6, s7, s8, s9⟩ := ten hk
  clear hk
  go_wp2
  exact bodyPost_ret (v := .agg #[.int .i64 0, .int .i64 0, .int .i64 0, .int .i64 0, .int .i64 0, .int .u64 0, .int .u64 0, .int .u64 0, .int .u64 0, .string ⟨#[]⟩]) (by simp [results, Tryd.results79, go_sem, s0, s1, s2, s3, s4, s5, s6, s7, s8, s9]) rfl ⟨rfl, below10 HX.out.bel (Nat.le_refl _) _ _ _ _ _ _ _ _ _ _⟩
end Go.Proofs.YtgehepiphdphjaaDoor
