/- The node of a value of a type of its own: walked. -/
import Derived.Test.YtcgjmnhmhiddkaaDoorM17
import Derived.Test.YtcgjmnhmhiddkaaDoorM15
import Derived.Test.YtcgjmnhmhiddkaaDoorM14
import Derived.Test.YtcgjmnhmhiddkaaDoorM05
import Derived.Laws.StructEq
import Derived.Laws.AppendOwn
namespace Go.Proofs.YtcgjmnhmhiddkaaDoor
open Go Go.RowKit
set_option linter.unusedVariables false
set_option linter.unusedSimpArgs false

theorem as_empty_one (v : Value) (w : World) : (Instr.typeAssert (.iface 133 v) 20 127 true).run Tryd.prog w = .ok (.tuple #[.agg #[.int .i64 0, .int .i64 0], .bool false]) w := by kernel_rfl
theorem as_empty_times (v : Value) (w : World) : (Instr.typeAssert (.iface 133 v) 20 129 true).run Tryd.prog w = .ok (.tuple #[.agg #[.int .i64 0, .int .i64 0, .int .i64 0], .bool false]) w := by kernel_rfl
theorem as_empty_two (v : Value) (w : World) : (Instr.typeAssert (.iface 133 v) 20 131 true).run Tryd.prog w = .ok (.tuple #[.agg #[.int .i64 0, .int .i64 0, .int .i64 0], .bool false]) w := by kernel_rfl
theorem as_set_one (v : Value) (w : World) : (Instr.typeAssert (.iface 135 v) 20 127 true).run Tryd.prog w = .ok (.tuple #[.agg #[.int .i64 0, .int .i64 0], .bool false]) w := by kernel_rfl
theorem as_set_times (v : Value) (w : World) : (Instr.typeAssert (.iface 135 v) 20 129 true).run Tryd.prog w = .ok (.tuple #[.agg #[.int .i64 0, .int .i64 0, .int .i64 0], .bool false]) w := by kernel_rfl
theorem as_set_two (v : Value) (w : World) : (Instr.typeAssert (.iface 135 v) 20 131 true).run Tryd.prog w = .ok (.tuple #[.agg #[.int .i64 0, .int .i64 0, .int .i64 0], .bool false]) w := by kernel_rfl
theorem as_text_one (v : Value) (w : World) : (Instr.typeAssert (.iface 137 v) 20 127 true).run Tryd.prog w = .ok (.tuple #[.agg #[.int .i64 0, .int .i64 0], .bool false]) w := by kernel_rfl
theorem as_text_times (v : Value) (w : World) : (Instr.typeAssert (.iface 137 v) 20 129 true).run Tryd.prog w = .ok (.tuple #[.agg #[.int .i64 0, .int .i64 0, .int .i64 0], .bool false]) w := by kernel_rfl
theorem as_text_two (v : Value) (w : World) : (Instr.typeAssert (.iface 137 v) 20 131 true).run Tryd.prog w = .ok (.tuple #[.agg #[.int .i64 0, .int .i64 0, .int .i64 0], .bool false]) w := by kernel_rfl
theorem as_one_one (v : Value) (w : World) : (Instr.typeAssert (.iface 127 v) 20 127 true).run Tryd.prog w = .ok (.tuple #[v, .bool true]) w := by kernel_rfl
theorem as_one_times (v : Value) (w : World) : (Instr.typeAssert (.iface 127 v) 20 129 true).run Tryd.prog w = .ok (.tuple #[.agg #[.int .i64 0, .int .i64 0, .int .i64 0], .bool false]) w := by kernel_rfl
theorem as_one_two (v : Value) (w : World) : (Instr.typeAssert (.iface 127 v) 20 131 true).run Tryd.prog w = .ok (.tuple #[.agg #[.int .i64 0, .int .i64 0, .int .i64 0], .bool false]) w := by kernel_rfl
theorem as_times_one (v : Value) (w : World) : (Instr.typeAssert (.iface 129 v) 20 127 true).run Tryd.prog w = .ok (.tuple #[.agg #[.int .i64 0, .int .i64 0], .bool false]) w := by kernel_rfl
theorem as_times_times (v : Value) (w : World) : (Instr.typeAssert (.iface 129 v) 20 129 true).run Tryd.prog w = .ok (.tuple #[v, .bool true]) w := by kernel_rfl
theorem as_times_two (v : Value) (w : World) : (Instr.typeAssert (.iface 129 v) 20 131 true).run Tryd.prog w = .ok (.tuple #[.agg #[.int .i64 0, .int .i64 0, .int .i64 0], .bool false]) w := by kernel_rfl
theorem as_two_one (v : Value) (w : World) : (Instr.typeAssert (.iface 131 v) 20 127 true).run Tryd.prog w = .ok (.tuple #[.agg #[.int .i64 0, .int .i64 0], .bool false]) w := by kernel_rfl
theorem as_two_times (v : Value) (w : World) : (Instr.typeAssert (.iface 131 v) 20 129 true).run Tryd.prog w = .ok (.tuple #[.agg #[.int .i64 0, .int .i64 0, .int .i64 0], .bool false]) w := by kernel_rfl
theorem as_two_two (v : Value) (w : World) : (Instr.typeAssert (.iface 131 v) 20 131 true).run Tryd.prog w = .ok (.tuple #[v, .bool true]) w := by kernel_rfl
theorem as_nil_one (w : World) : (Instr.typeAssert .nilIface 20 127 true).run Tryd.prog w = .ok (.tuple #[.agg #[.int .i64 0, .int .i64 0], .bool false]) w := by kernel_rfl
theorem as_nil_times (w : World) : (Instr.typeAssert .nilIface 20 129 true).run Tryd.prog w = .ok (.tuple #[.agg #[.int .i64 0, .int .i64 0, .int .i64 0], .bool false]) w := by kernel_rfl
theorem as_nil_two (w : World) : (Instr.typeAssert .nilIface 20 131 true).run Tryd.prog w = .ok (.tuple #[.agg #[.int .i64 0, .int .i64 0, .int .i64 0], .bool false]) w := by kernel_rfl
end Go.Proofs.YtcgjmnhmhiddkaaDoor
/- Nodes moved: walked. -/
namespace Go.Proofs.YtcgjmnhmhiddkaaDoor
open Go Go.RowKit
set_option linter.unusedVariables false
set_option linter.unusedSimpArgs false

structure MvB (w0 : World) (vs : Array Value) (w : World) : Prop where
  bel : Below w0.heap.size w0 w
  src : Blk w w0.heap.size vs 35
  res : Blk w (w0.heap.size + 1) z10 35
theorem MvB.later {w0 w w' : World} {vs : Array Value} (h : MvB w0 vs w) (hb : Below w.heap.size w w') : MvB w0 vs w' := ⟨h.bel.trans (hb.mono h.bel.size), h.src.later hb, h.res.later hb⟩
theorem MvB.set {w0 w : World} {vs : Array Value} (h : MvB w0 vs w) (o : Nat) (v : Value) : MvB w0 (vs.setIfInBounds o v) (w.setCell ⟨w0.heap.size, o, none⟩ v) :=
  ⟨h.bel.setCell (p := ⟨w0.heap.size, o, none⟩) (Nat.le_refl _) v, h.src.setCell o v, h.res.setCell_ne (a := ⟨w0.heap.size, o, none⟩) (by show w0.heap.size ≠ _; omega) v⟩
theorem MvB.new (w : World) (vs : Array Value) : MvB w vs ((w.alloc (.cells vs 35)).alloc (.cells #[.int .i64 0, .int .i64 0, .int .i64 0, .int .i64 0, .int .i64 0, .int .u64 0, .int .u64 0, .int .u64 0, .int .u64 0, .string ⟨#[]⟩] 35)) :=
  ⟨((Below.refl _ _).alloc (Nat.le_refl _) _).alloc (by simp) _, (Blk.new w vs _).alloc _, by have := Blk.new (w.alloc (.cells vs 35)) z10 35; simpa [z10] using this⟩
theorem turned_empty (a b lo hi c0 c1 c2 c3 : Int) (s : ByteArray) (w : World) : Calls Tryd.prog 86 #[.agg #[.int .i64 1, .int .i64 a, .int .i64 b, .int .i64 lo, .int .i64 hi, .int .u64 c0, .int .u64 c1, .int .u64 c2, .int .u64 c3, .string s]] w (Ans w (.iface 133 (.agg #[]))) := by
  have h := turned_raw 1 a b lo hi c0 c1 c2 c3 s w
  have e : anyV 1 a b lo hi c0 c1 c2 c3 s = .iface 133 (.agg #[]) := by unfold anyV; simp
  rw [e] at h; exact h
theorem turned_set (a b lo hi c0 c1 c2 c3 : Int) (s : ByteArray) (w : World) : Calls Tryd.prog 86 #[.agg #[.int .i64 2, .int .i64 a, .int .i64 b, .int .i64 lo, .int .i64 hi, .int .u64 c0, .int .u64 c1, .int .u64 c2, .int .u64 c3, .string s]] w (Ans w (.iface 135 (.agg #[.int .u64 c0, .int .u64 c1, .int .u64 c2, .int .u64 c3]))) := by
  have h := turned_raw 2 a b lo hi c0 c1 c2 c3 s w
  have e : anyV 2 a b lo hi c0 c1 c2 c3 s = .iface 135 (.agg #[.int .u64 c0, .int .u64 c1, .int .u64 c2, .int .u64 c3]) := by unfold anyV; simp
  rw [e] at h; exact h
theorem turned_text (a b lo hi c0 c1 c2 c3 : Int) (s : ByteArray) (w : World) : Calls Tryd.prog 86 #[.agg #[.int .i64 3, .int .i64 a, .int .i64 b, .int .i64 lo, .int .i64 hi, .int .u64 c0, .int .u64 c1, .int .u64 c2, .int .u64 c3, .string s]] w (Ans w (.iface 137 (.agg #[.string s]))) := by
  have h := turned_raw 3 a b lo hi c0 c1 c2 c3 s w
  have e : anyV 3 a b lo hi c0 c1 c2 c3 s = .iface 137 (.agg #[.string s]) := by unfold anyV; simp
  rw [e] at h; exact h
theorem turned_one (k a b lo hi c0 c1 c2 c3 : Int) (s : ByteArray) (hk : k = 6 ∨ k = 8 ∨ k = 9) (w : World) : Calls Tryd.prog 86 #[.agg #[.int .i64 k, .int .i64 a, .int .i64 b, .int .i64 lo, .int .i64 hi, .int .u64 c0, .int .u64 c1, .int .u64 c2, .int .u64 c3, .string s]] w (Ans w (.iface 127 (.agg #[.int .i64 k, .int .i64 a]))) := by
  have h := turned_raw k a b lo hi c0 c1 c2 c3 s w
  have e : anyV k a b lo hi c0 c1 c2 c3 s = .iface 127 (.agg #[.int .i64 k, .int .i64 a]) := by unfold anyV; rcases hk with rfl | rfl | rfl <;> simp
  rw [e] at h; exact h
theorem turned_times (a b lo hi c0 c1 c2 c3 : Int) (s : ByteArray) (w : World) : Calls Tryd.prog 86 #[.agg #[.int .i64 7, .int .i64 a, .int .i64 b, .int .i64 lo, .int .i64 hi, .int .u64 c0, .int .u64 c1, .int .u64 c2, .int .u64 c3, .string s]] w (Ans w (.iface 129 (.agg #[.int .i64 a, .int .i64 lo, .int .i64 hi]))) := by
  have h := turned_raw 7 a b lo hi c0 c1 c2 c3 s w
  have e : anyV 7 a b lo hi c0 c1 c2 c3 s = .iface 129 (.agg #[.int .i64 a, .int .i64 lo, .int .i64 hi]) := by unfold anyV; simp
  rw [e] at h; exact h
theorem turned_two (k a b lo hi c0 c1 c2 c3 : Int) (s : ByteArray) (hk : k = 4 ∨ k = 5) (w : World) : Calls Tryd.prog 86 #[.agg #[.int .i64 k, .int .i64 a, .int .i64 b, .int .i64 lo, .int .i64 hi, .int .u64 c0, .int .u64 c1, .int .u64 c2, .int .u64 c3, .string s]] w (Ans w (.iface 131 (.agg #[.int .i64 k, .int .i64 a, .int .i64 b]))) := by
  have h := turned_raw k a b lo hi c0 c1 c2 c3 s w
  have e : anyV k a b lo hi c0 c1 c2 c3 s = .iface 131 (.agg #[.int .i64 k, .int .i64 a, .int .i64 b]) := by unfold anyV; rcases hk with rfl | rfl <;> simp
  rw [e] at h; exact h
theorem turned_nil (k a b lo hi c0 c1 c2 c3 : Int) (s : ByteArray) (h4 : ¬ (4 ≤ k ∧ k ≤ 9)) (h1 : k ≠ 1) (h2 : k ≠ 2) (h3 : k ≠ 3) (w : World) : Calls Tryd.prog 86 #[.agg #[.int .i64 k, .int .i64 a, .int .i64 b, .int .i64 lo, .int .i64 hi, .int .u64 c0, .int .u64 c1, .int .u64 c2, .int .u64 c3, .string s]] w (Ans w (.nilIface)) := by
  have h := turned_raw k a b lo hi c0 c1 c2 c3 s w
  have e : anyV k a b lo hi c0 c1 c2 c3 s = .nilIface := by unfold anyV; rw [if_neg h1, if_neg h2, if_neg h3, if_neg (by omega), if_neg (by omega), if_neg (by omega)]
  rw [e] at h; exact h
set_option maxHeartbeats 8000000 in
set_option maxRecDepth 100000 in
theorem moved_empty (a b lo hi c0 c1 c2 c3 d : Int) (s : ByteArray) (hs : s.size ≤ 281474976710656) (w : World) : Calls Tryd.prog 85 #[.agg #[.int .i64 1, .int .i64 a, .int .i64 b, .int .i64 lo, .int .i64 hi, .int .u64 c0, .int .u64 c1, .int .u64 c2, .int .u64 c3, .string s], .int .i64 d] w (Ans w (.agg #[.int .i64 1, .int .i64 a, .int .i64 b, .int .i64 lo, .int .i64 hi, .int .u64 c0, .int .u64 c1, .int .u64 c2, .int .u64 c3, .string s])) := by
  have hone := as_empty_one
  have htimes := as_empty_times
  have htwo := as_empty_two
  have TU := Lib.hid (fun w => turned_empty a b lo hi c0 c1 c2 c3 s w)
  go_enter Tryd.func85, Tryd.ntmps85
  go_wp2_with fail
  refine (TU.out _).mono ?_; rintro e w1 ⟨rfl, hb1⟩
  have H1 := Lib.hid ((MvB.new w #[.int .i64 1, .int .i64 a, .int .i64 b, .int .i64 lo, .int .i64 hi, .int .u64 c0, .int .u64 c1, .int .u64 c2, .int .u64 c3, .string s]).later hb1)
  clear hb1 TU
  have g1 := H1.out.src
  have ef1 := g1.frozen
  obtain ⟨e0, e1, e2, e3, e4, e5, e6, e7, e8, e9⟩ := ten_cells g1
  clear g1
  go_wp2_with fail
  refine (clone_any _ _ hs).mono ?_; rintro e wc ⟨rfl, hbc⟩
  have HC := Lib.hid (H1.out.later hbc)
  clear hbc e0 e1 e2 e3 e4 e5 e6 e7 e8 e9 ef1
  have g := HC.out.src
  have ef := g.frozen
  obtain ⟨e0, e1, e2, e3, e4, e5, e6, e7, e8, e9⟩ := ten_cells g
  clear g
  go_upto_region 8 with (fail)
  have HD : Hid (MvB w #[.int .i64 1, .int .i64 a, .int .i64 b, .int .i64 lo, .int .i64 hi, .int .u64 c0, .int .u64 c1, .int .u64 c2, .int .u64 c3, .string s] _) := HC.out.set 9 (.string s)
  generalize wc.setCell ⟨w.heap.size, 9, none⟩ (.string s) = wd at *
  clear e0 e1 e2 e3 e4 e5 e6 e7 e8 e9 ef
  have g := HD.out.src
  obtain ⟨e0, e1, e2, e3, e4, e5, e6, e7, e8, e9⟩ := ten_cells g
  clear g
  have hk := HD.out.res
  unfold z10 at hk
  have ef := hk.frozen
  obtain ⟨r0, r1, r2, r3, r4, r5, r6, r7, r8, r9⟩ := ten_cells hk
  obtain ⟨s0, s1, s2, s3, s4, s5, s6, s7, s8, s9⟩ := ten hk
  clear hk
  go_wp2
  exact bodyPost_ret (v := .agg #[.int .i64 1, .int .i64 a, .int .i64 b, .int .i64 lo, .int .i64 hi, .int .u64 c0, .int .u64 c1, .int .u64 c2, .int .u64 c3, .string s]) (by simp [results, Tryd.results85, go_sem, s0, s1, s2, s3, s4, s5, s6, s7, s8, s9]) rfl ⟨rfl, below10 HD.out.bel (Nat.le_succ _) _ _ _ _ _ _ _ _ _ _⟩
set_option maxHeartbeats 8000000 in
set_option maxRecDepth 100000 in
theorem moved_set (a b lo hi c0 c1 c2 c3 d : Int) (s : ByteArray) (hs : s.size ≤ 281474976710656) (w : World) : Calls Tryd.prog 85 #[.agg #[.int .i64 2, .int .i64 a, .int .i64 b, .int .i64 lo, .int .i64 hi, .int .u64 c0, .int .u64 c1, .int .u64 c2, .int .u64 c3, .string s], .int .i64 d] w (Ans w (.agg #[.int .i64 2, .int .i64 a, .int .i64 b, .int .i64 lo, .int .i64 hi, .int .u64 c0, .int .u64 c1, .int .u64 c2, .int .u64 c3, .string s])) := by
  have hone := as_set_one
  have htimes := as_set_times
  have htwo := as_set_two
  have TU := Lib.hid (fun w => turned_set a b lo hi c0 c1 c2 c3 s w)
  go_enter Tryd.func85, Tryd.ntmps85
  go_wp2_with fail
  refine (TU.out _).mono ?_; rintro e w1 ⟨rfl, hb1⟩
  have H1 := Lib.hid ((MvB.new w #[.int .i64 2, .int .i64 a, .int .i64 b, .int .i64 lo, .int .i64 hi, .int .u64 c0, .int .u64 c1, .int .u64 c2, .int .u64 c3, .string s]).later hb1)
  clear hb1 TU
  have g1 := H1.out.src
  have ef1 := g1.frozen
  obtain ⟨e0, e1, e2, e3, e4, e5, e6, e7, e8, e9⟩ := ten_cells g1
  clear g1
  go_wp2_with fail
  refine (clone_any _ _ hs).mono ?_; rintro e wc ⟨rfl, hbc⟩
  have HC := Lib.hid (H1.out.later hbc)
  clear hbc e0 e1 e2 e3 e4 e5 e6 e7 e8 e9 ef1
  have g := HC.out.src
  have ef := g.frozen
  obtain ⟨e0, e1, e2, e3, e4, e5, e6, e7, e8, e9⟩ := ten_cells g
  clear g
  go_upto_region 8 with (fail)
  have HD : Hid (MvB w #[.int .i64 2, .int .i64 a, .int .i64 b, .int .i64 lo, .int .i64 hi, .int .u64 c0, .int .u64 c1, .int .u64 c2, .int .u64 c3, .string s] _) := HC.out.set 9 (.string s)
  generalize wc.setCell ⟨w.heap.size, 9, none⟩ (.string s) = wd at *
  clear e0 e1 e2 e3 e4 e5 e6 e7 e8 e9 ef
  have g := HD.out.src
  obtain ⟨e0, e1, e2, e3, e4, e5, e6, e7, e8, e9⟩ := ten_cells g
  clear g
  have hk := HD.out.res
  unfold z10 at hk
  have ef := hk.frozen
  obtain ⟨r0, r1, r2, r3, r4, r5, r6, r7, r8, r9⟩ := ten_cells hk
  obtain ⟨s0, s1, s2, s3, s4, s5, s6, s7, s8, s9⟩ := ten hk
  clear hk
  go_wp2
  exact bodyPost_ret (v := .agg #[.int .i64 2, .int .i64 a, .int .i64 b, .int .i64 lo, .int .i64 hi, .int .u64 c0, .int .u64 c1, .int .u64 c2, .int .u64 c3, .string s]) (by simp [results, Tryd.results85, go_sem, s0, s1, s2, s3, s4, s5, s6, s7, s8, s9]) rfl ⟨rfl, below10 HD.out.bel (Nat.le_succ _) _ _ _ _ _ _ _ _ _ _⟩
set_option maxHeartbeats 8000000 in
set_option maxRecDepth 100000 in
theorem moved_text (a b lo hi c0 c1 c2 c3 d : Int) (s : ByteArray) (hs : s.size ≤ 281474976710656) (w : World) : Calls Tryd.prog 85 #[.agg #[.int .i64 3, .int .i64 a, .int .i64 b, .int .i64 lo, .int .i64 hi, .int .u64 c0, .int .u64 c1, .int .u64 c2, .int .u64 c3, .string s], .int .i64 d] w (Ans w (.agg #[.int .i64 3, .int .i64 a, .int .i64 b, .int .i64 lo, .int .i64 hi, .int .u64 c0, .int .u64 c1, .int .u64 c2, .int .u64 c3, .string s])) := by
  have hone := as_text_one
  have htimes := as_text_times
  have htwo := as_text_two
  have TU := Lib.hid (fun w => turned_text a b lo hi c0 c1 c2 c3 s w)
  go_enter Tryd.func85, Tryd.ntmps85
  go_wp2_with fail
  refine (TU.out _).mono ?_; rintro e w1 ⟨rfl, hb1⟩
  have H1 := Lib.hid ((MvB.new w #[.int .i64 3, .int .i64 a, .int .i64 b, .int .i64 lo, .int .i64 hi, .int .u64 c0, .int .u64 c1, .int .u64 c2, .int .u64 c3, .string s]).later hb1)
  clear hb1 TU
  have g1 := H1.out.src
  have ef1 := g1.frozen
  obtain ⟨e0, e1, e2, e3, e4, e5, e6, e7, e8, e9⟩ := ten_cells g1
  clear g1
  go_wp2_with fail
  refine (clone_any _ _ hs).mono ?_; rintro e wc ⟨rfl, hbc⟩
  have HC := Lib.hid (H1.out.later hbc)
  clear hbc e0 e1 e2 e3 e4 e5 e6 e7 e8 e9 ef1
  have g := HC.out.src
  have ef := g.frozen
  obtain ⟨e0, e1, e2, e3, e4, e5, e6, e7, e8, e9⟩ := ten_cells g
  clear g
  go_upto_region 8 with (fail)
  have HD : Hid (MvB w #[.int .i64 3, .int .i64 a, .int .i64 b, .int .i64 lo, .int .i64 hi, .int .u64 c0, .int .u64 c1, .int .u64 c2, .int .u64 c3, .string s] _) := HC.out.set 9 (.string s)
  generalize wc.setCell ⟨w.heap.size, 9, none⟩ (.string s) = wd at *
  clear e0 e1 e2 e3 e4 e5 e6 e7 e8 e9 ef
  have g := HD.out.src
  obtain ⟨e0, e1, e2, e3, e4, e5, e6, e7, e8, e9⟩ := ten_cells g
  clear g
  have hk := HD.out.res
  unfold z10 at hk
  have ef := hk.frozen
  obtain ⟨r0, r1, r2, r3, r4, r5, r6, r7, r8, r9⟩ := ten_cells hk
  obtain ⟨s0, s1, s2, s3, s4, s5, s6, s7, s8, s9⟩ := ten hk
  clear hk
  go_wp2
  exact bodyPost_ret (v := .agg #[.int .i64 3, .int .i64 a, .int .i64 b, .int .i64 lo, .int .i64 hi, .int .u64 c0, .int .u64 c1, .int .u64 c2, .int .u64 c3, .string s]) (by simp [results, Tryd.results85, go_sem, s0, s1, s2, s3, s4, s5, s6, s7, s8, s9]) rfl ⟨rfl, below10 HD.out.bel (Nat.le_succ _) _ _ _ _ _ _ _ _ _ _⟩
set_option maxHeartbeats 8000000 in
set_option maxRecDepth 100000 in
theorem moved_one (k a b lo hi c0 c1 c2 c3 d : Int) (s : ByteArray) (hk : k = 6 ∨ k = 8 ∨ k = 9) (ha : IntKind.i64.wrap (a + d) = a + d) (hs : s.size ≤ 281474976710656) (w : World) : Calls Tryd.prog 85 #[.agg #[.int .i64 k, .int .i64 a, .int .i64 b, .int .i64 lo, .int .i64 hi, .int .u64 c0, .int .u64 c1, .int .u64 c2, .int .u64 c3, .string s], .int .i64 d] w (Ans w (.agg #[.int .i64 k, .int .i64 (a + d), .int .i64 b, .int .i64 lo, .int .i64 hi, .int .u64 c0, .int .u64 c1, .int .u64 c2, .int .u64 c3, .string s])) := by
  have hone := as_one_one
  have htimes := as_one_times
  have htwo := as_one_two
  have HWA := Lib.hid ha
  clear ha
  have TU := Lib.hid (fun w => turned_one k a b lo hi c0 c1 c2 c3 s hk w)
  clear hk
  go_enter Tryd.func85, Tryd.ntmps85
  go_wp2_with fail
  refine (TU.out _).mono ?_; rintro e w1 ⟨rfl, hb1⟩
  have H1 := Lib.hid ((MvB.new w #[.int .i64 k, .int .i64 a, .int .i64 b, .int .i64 lo, .int .i64 hi, .int .u64 c0, .int .u64 c1, .int .u64 c2, .int .u64 c3, .string s]).later hb1)
  clear hb1 TU
  have g1 := H1.out.src
  have ef1 := g1.frozen
  obtain ⟨e0, e1, e2, e3, e4, e5, e6, e7, e8, e9⟩ := ten_cells g1
  clear g1
  have hwa := HWA.out
  go_upto_region 7 with (fail)
  have H2 : Hid (MvB w #[.int .i64 k, .int .i64 (a + d), .int .i64 b, .int .i64 lo, .int .i64 hi, .int .u64 c0, .int .u64 c1, .int .u64 c2, .int .u64 c3, .string s] _) := H1.out.set 1 (.int .i64 (a + d))
  generalize w1.setCell ⟨w.heap.size, 1, none⟩ (.int .i64 (a + d)) = w2 at *
  clear e0 e1 e2 e3 e4 e5 e6 e7 e8 e9 ef1 hwa
  have g2 := H2.out.src
  have ef2 := g2.frozen
  obtain ⟨e0, e1, e2, e3, e4, e5, e6, e7, e8, e9⟩ := ten_cells g2
  clear g2
  go_wp2_with fail
  refine (clone_any _ _ hs).mono ?_; rintro e wc ⟨rfl, hbc⟩
  have HC := Lib.hid (H2.out.later hbc)
  clear hbc e0 e1 e2 e3 e4 e5 e6 e7 e8 e9 ef2
  have g := HC.out.src
  have ef := g.frozen
  obtain ⟨e0, e1, e2, e3, e4, e5, e6, e7, e8, e9⟩ := ten_cells g
  clear g
  go_upto_region 8 with (fail)
  have HD : Hid (MvB w #[.int .i64 k, .int .i64 (a + d), .int .i64 b, .int .i64 lo, .int .i64 hi, .int .u64 c0, .int .u64 c1, .int .u64 c2, .int .u64 c3, .string s] _) := HC.out.set 9 (.string s)
  generalize wc.setCell ⟨w.heap.size, 9, none⟩ (.string s) = wd at *
  clear e0 e1 e2 e3 e4 e5 e6 e7 e8 e9 ef
  have g := HD.out.src
  obtain ⟨e0, e1, e2, e3, e4, e5, e6, e7, e8, e9⟩ := ten_cells g
  clear g
  have hk := HD.out.res
  unfold z10 at hk
  have ef := hk.frozen
  obtain ⟨r0, r1, r2, r3, r4, r5, r6, r7, r8, r9⟩ := ten_cells hk
  obtain ⟨s0, s1, s2, s3, s4, s5, s6, s7, s8, s9⟩ := ten hk
  clear hk
  go_wp2
  exact bodyPost_ret (v := .agg #[.int .i64 k, .int .i64 (a + d), .int .i64 b, .int .i64 lo, .int .i64 hi, .int .u64 c0, .int .u64 c1, .int .u64 c2, .int .u64 c3, .string s]) (by simp [results, Tryd.results85, go_sem, s0, s1, s2, s3, s4, s5, s6, s7, s8, s9]) rfl ⟨rfl, below10 HD.out.bel (Nat.le_succ _) _ _ _ _ _ _ _ _ _ _⟩
set_option maxHeartbeats 8000000 in
set_option maxRecDepth 100000 in
theorem moved_times (a b lo hi c0 c1 c2 c3 d : Int) (s : ByteArray) (ha : IntKind.i64.wrap (a + d) = a + d) (hs : s.size ≤ 281474976710656) (w : World) : Calls Tryd.prog 85 #[.agg #[.int .i64 7, .int .i64 a, .int .i64 b, .int .i64 lo, .int .i64 hi, .int .u64 c0, .int .u64 c1, .int .u64 c2, .int .u64 c3, .string s], .int .i64 d] w (Ans w (.agg #[.int .i64 7, .int .i64 (a + d), .int .i64 b, .int .i64 lo, .int .i64 hi, .int .u64 c0, .int .u64 c1, .int .u64 c2, .int .u64 c3, .string s])) := by
  have hone := as_times_one
  have htimes := as_times_times
  have htwo := as_times_two
  have HWA := Lib.hid ha
  clear ha
  have TU := Lib.hid (fun w => turned_times a b lo hi c0 c1 c2 c3 s w)
  go_enter Tryd.func85, Tryd.ntmps85
  go_wp2_with fail
  refine (TU.out _).mono ?_; rintro e w1 ⟨rfl, hb1⟩
  have H1 := Lib.hid ((MvB.new w #[.int .i64 7, .int .i64 a, .int .i64 b, .int .i64 lo, .int .i64 hi, .int .u64 c0, .int .u64 c1, .int .u64 c2, .int .u64 c3, .string s]).later hb1)
  clear hb1 TU
  have g1 := H1.out.src
  have ef1 := g1.frozen
  obtain ⟨e0, e1, e2, e3, e4, e5, e6, e7, e8, e9⟩ := ten_cells g1
  clear g1
  have hwa := HWA.out
  go_upto_region 7 with (fail)
  have H2 : Hid (MvB w #[.int .i64 7, .int .i64 (a + d), .int .i64 b, .int .i64 lo, .int .i64 hi, .int .u64 c0, .int .u64 c1, .int .u64 c2, .int .u64 c3, .string s] _) := H1.out.set 1 (.int .i64 (a + d))
  generalize w1.setCell ⟨w.heap.size, 1, none⟩ (.int .i64 (a + d)) = w2 at *
  clear e0 e1 e2 e3 e4 e5 e6 e7 e8 e9 ef1 hwa
  have g2 := H2.out.src
  have ef2 := g2.frozen
  obtain ⟨e0, e1, e2, e3, e4, e5, e6, e7, e8, e9⟩ := ten_cells g2
  clear g2
  go_wp2_with fail
  refine (clone_any _ _ hs).mono ?_; rintro e wc ⟨rfl, hbc⟩
  have HC := Lib.hid (H2.out.later hbc)
  clear hbc e0 e1 e2 e3 e4 e5 e6 e7 e8 e9 ef2
  have g := HC.out.src
  have ef := g.frozen
  obtain ⟨e0, e1, e2, e3, e4, e5, e6, e7, e8, e9⟩ := ten_cells g
  clear g
  go_upto_region 8 with (fail)
  have HD : Hid (MvB w #[.int .i64 7, .int .i64 (a + d), .int .i64 b, .int .i64 lo, .int .i64 hi, .int .u64 c0, .int .u64 c1, .int .u64 c2, .int .u64 c3, .string s] _) := HC.out.set 9 (.string s)
  generalize wc.setCell ⟨w.heap.size, 9, none⟩ (.string s) = wd at *
  clear e0 e1 e2 e3 e4 e5 e6 e7 e8 e9 ef
  have g := HD.out.src
  obtain ⟨e0, e1, e2, e3, e4, e5, e6, e7, e8, e9⟩ := ten_cells g
  clear g
  have hk := HD.out.res
  unfold z10 at hk
  have ef := hk.frozen
  obtain ⟨r0, r1, r2, r3, r4, r5, r6, r7, r8, r9⟩ := ten_cells hk
  obtain ⟨s0, s1, s2, s3, s4, s5, s6, s7, s8, s9⟩ := ten hk
  clear hk
  go_wp2
  exact bodyPost_ret (v := .agg #[.int .i64 7, .int .i64 (a + d), .int .i64 b, .int .i64 lo, .int .i64 hi, .int .u64 c0, .int .u64 c1, .int .u64 c2, .int .u64 c3, .string s]) (by simp [results, Tryd.results85, go_sem, s0, s1, s2, s3, s4, s5, s6, s7, s8, s9]) rfl ⟨rfl, below10 HD.out.bel (Nat.le_succ _) _ _ _ _ _ _ _ _ _ _⟩
set_option maxHeartbeats 8000000 in
set_option maxRecDepth 100000 in
theorem moved_two (k a b lo hi c0 c1 c2 c3 d : Int) (s : ByteArray) (hk : k = 4 ∨ k = 5) (ha : IntKind.i64.wrap (a + d) = a + d) (hb : IntKind.i64.wrap (b + d) = b + d) (hs : s.size ≤ 281474976710656) (w : World) : Calls Tryd.prog 85 #[.agg #[.int .i64 k, .int .i64 a, .int .i64 b, .int .i64 lo, .int .i64 hi, .int .u64 c0, .int .u64 c1, .int .u64 c2, .int .u64 c3, .string s], .int .i64 d] w (Ans w (.agg #[.int .i64 k, .int .i64 (a + d), .int .i64 (b + d), .int .i64 lo, .int .i64 hi, .int .u64 c0, .int .u64 c1, .int .u64 c2, .int .u64 c3, .string s])) := by
  have hone := as_two_one
  have htimes := as_two_times
  have htwo := as_two_two
  have HWA := Lib.hid ha
  clear ha
  have HWB := Lib.hid hb
  clear hb
  have TU := Lib.hid (fun w => turned_two k a b lo hi c0 c1 c2 c3 s hk w)
  clear hk
  go_enter Tryd.func85, Tryd.ntmps85
  go_wp2_with fail
  refine (TU.out _).mono ?_; rintro e w1 ⟨rfl, hb1⟩
  have H1 := Lib.hid ((MvB.new w #[.int .i64 k, .int .i64 a, .int .i64 b, .int .i64 lo, .int .i64 hi, .int .u64 c0, .int .u64 c1, .int .u64 c2, .int .u64 c3, .string s]).later hb1)
  clear hb1 TU
  have g1 := H1.out.src
  have ef1 := g1.frozen
  obtain ⟨e0, e1, e2, e3, e4, e5, e6, e7, e8, e9⟩ := ten_cells g1
  clear g1
  have hwa := HWA.out
  go_upto_region 6 with (fail)
  have H2 : Hid (MvB w #[.int .i64 k, .int .i64 (a + d), .int .i64 b, .int .i64 lo, .int .i64 hi, .int .u64 c0, .int .u64 c1, .int .u64 c2, .int .u64 c3, .string s] _) := H1.out.set 1 (.int .i64 (a + d))
  generalize w1.setCell ⟨w.heap.size, 1, none⟩ (.int .i64 (a + d)) = w2 at *
  clear e0 e1 e2 e3 e4 e5 e6 e7 e8 e9 ef1 hwa
  have g2 := H2.out.src
  have ef2 := g2.frozen
  obtain ⟨e0, e1, e2, e3, e4, e5, e6, e7, e8, e9⟩ := ten_cells g2
  clear g2
  have hwb := HWB.out
  go_upto_region 7 with (fail)
  have H3 : Hid (MvB w #[.int .i64 k, .int .i64 (a + d), .int .i64 (b + d), .int .i64 lo, .int .i64 hi, .int .u64 c0, .int .u64 c1, .int .u64 c2, .int .u64 c3, .string s] _) := H2.out.set 2 (.int .i64 (b + d))
  generalize w2.setCell ⟨w.heap.size, 2, none⟩ (.int .i64 (b + d)) = w3 at *
  clear e0 e1 e2 e3 e4 e5 e6 e7 e8 e9 ef2 hwb
  have g3 := H3.out.src
  have ef3 := g3.frozen
  obtain ⟨e0, e1, e2, e3, e4, e5, e6, e7, e8, e9⟩ := ten_cells g3
  clear g3
  go_wp2_with fail
  refine (clone_any _ _ hs).mono ?_; rintro e wc ⟨rfl, hbc⟩
  have HC := Lib.hid (H3.out.later hbc)
  clear hbc e0 e1 e2 e3 e4 e5 e6 e7 e8 e9 ef3
  have g := HC.out.src
  have ef := g.frozen
  obtain ⟨e0, e1, e2, e3, e4, e5, e6, e7, e8, e9⟩ := ten_cells g
  clear g
  go_upto_region 8 with (fail)
  have HD : Hid (MvB w #[.int .i64 k, .int .i64 (a + d), .int .i64 (b + d), .int .i64 lo, .int .i64 hi, .int .u64 c0, .int .u64 c1, .int .u64 c2, .int .u64 c3, .string s] _) := HC.out.set 9 (.string s)
  generalize wc.setCell ⟨w.heap.size, 9, none⟩ (.string s) = wd at *
  clear e0 e1 e2 e3 e4 e5 e6 e7 e8 e9 ef
  have g := HD.out.src
  obtain ⟨e0, e1, e2, e3, e4, e5, e6, e7, e8, e9⟩ := ten_cells g
  clear g
  have hk := HD.out.res
  unfold z10 at hk
  have ef := hk.frozen
  obtain ⟨r0, r1, r2, r3, r4, r5, r6, r7, r8, r9⟩ := ten_cells hk
  obtain ⟨s0, s1, s2, s3, s4, s5, s6, s7, s8, s9⟩ := ten hk
  clear hk
  go_wp2
  exact bodyPost_ret (v := .agg #[.int .i64 k, .int .i64 (a + d), .int .i64 (b + d), .int .i64 lo, .int .i64 hi, .int .u64 c0, .int .u64 c1, .int .u64 c2, .int .u64 c3, .string s]) (by simp [results, Tryd.results85, go_sem, s0, s1, s2, s3, s4, s5, s6, s7, s8, s9]) rfl ⟨rfl, below10 HD.out.bel (Nat.le_succ _) _ _ _ _ _ _ _ _ _ _⟩
set_option maxHeartbeats 8000000 in
set_option maxRecDepth 100000 in
theorem moved_nil (k a b lo hi c0 c1 c2 c3 d : Int) (s : ByteArray) (h4 : ¬ (4 ≤ k ∧ k ≤ 9)) (h1 : k ≠ 1) (h2 : k ≠ 2) (h3 : k ≠ 3) (hs : s.size ≤ 281474976710656) (w : World) : Calls Tryd.prog 85 #[.agg #[.int .i64 k, .int .i64 a, .int .i64 b, .int .i64 lo, .int .i64 hi, .int .u64 c0, .int .u64 c1, .int .u64 c2, .int .u64 c3, .string s], .int .i64 d] w (Ans w (.agg #[.int .i64 k, .int .i64 a, .int .i64 b, .int .i64 lo, .int .i64 hi, .int .u64 c0, .int .u64 c1, .int .u64 c2, .int .u64 c3, .string s])) := by
  have hone := as_nil_one
  have htimes := as_nil_times
  have htwo := as_nil_two
  have TU := Lib.hid (fun w => turned_nil k a b lo hi c0 c1 c2 c3 s h4 h1 h2 h3 w)
  clear h4 h1 h2 h3
  go_enter Tryd.func85, Tryd.ntmps85
  go_wp2_with fail
  refine (TU.out _).mono ?_; rintro e w1 ⟨rfl, hb1⟩
  have H1 := Lib.hid ((MvB.new w #[.int .i64 k, .int .i64 a, .int .i64 b, .int .i64 lo, .int .i64 hi, .int .u64 c0, .int .u64 c1, .int .u64 c2, .int .u64 c3, .string s]).later hb1)
  clear hb1 TU
  have g1 := H1.out.src
  have ef1 := g1.frozen
  obtain ⟨e0, e1, e2, e3, e4, e5, e6, e7, e8, e9⟩ := ten_cells g1
  clear g1
  go_wp2_with fail
  refine (clone_any _ _ hs).mono ?_; rintro e wc ⟨rfl, hbc⟩
  have HC := Lib.hid (H1.out.later hbc)
  clear hbc e0 e1 e2 e3 e4 e5 e6 e7 e8 e9 ef1
  have g := HC.out.src
  have ef := g.frozen
  obtain ⟨e0, e1, e2, e3, e4, e5, e6, e7, e8, e9⟩ := ten_cells g
  clear g
  go_upto_region 8 with (fail)
  have HD : Hid (MvB w #[.int .i64 k, .int .i64 a, .int .i64 b, .int .i64 lo, .int .i64 hi, .int .u64 c0, .int .u64 c1, .int .u64 c2, .int .u64 c3, .string s] _) := HC.out.set 9 (.string s)
  generalize wc.setCell ⟨w.heap.size, 9, none⟩ (.string s) = wd at *
  clear e0 e1 e2 e3 e4 e5 e6 e7 e8 e9 ef
  have g := HD.out.src
  obtain ⟨e0, e1, e2, e3, e4, e5, e6, e7, e8, e9⟩ := ten_cells g
  clear g
  have hk := HD.out.res
  unfold z10 at hk
  have ef := hk.frozen
  obtain ⟨r0, r1, r2, r3, r4, r5, r6, r7, r8, r9⟩ := ten_cells hk
  obtain ⟨s0, s1, s2, s3, s4, s5, s6, s7, s8, s9⟩ := ten hk
  clear hk
  go_wp2
  exact bodyPost_ret (v := .agg #[.int .i64 k, .int .i64 a, .int .i64 b, .int .i64 lo, .int .i64 hi, .int .u64 c0, .int .u64 c1, .int .u64 c2, .int .u64 c3, .string s]) (by simp [results, Tryd.results85, go_sem, s0, s1, s2, s3, s4, s5, s6, s7, s8, s9]) rfl ⟨rfl, below10 HD.out.bel (Nat.le_succ _) _ _ _ _ _ _ _ _ _ _⟩
end Go.Proofs.YtcgjmnhmhiddkaaDoor
/- Tokens: the same, or not. -/
namespace Go.Proofs.YtcgjmnhmhiddkaaDoor
open Go Go.RowKit
set_option linter.unusedVariables false
set_option linter.unusedSimpArgs false

theorem equalIn_cls (d : Nat) (x y : BitVec 256) (w : World) : (Op.equalIn (d + 2) 33 (cls x) (cls y)).run Tryd.prog w = .ok (x == y) w := by
  obtain ⟨i, hi⟩ : ∃ i, Tryd.prog.info? 31 = some i := Option.isSome_iff_exists.1 (by kernel_rfl)
  have hc : Tryd.prog.cellsOf 31 = 1 := by kernel_rfl
  unfold cls
  rw [← beq_words]
  rw [show d + 2 = (d + 1) + 1 from rfl, run_equalIn_array w (d + 1) _ _ Tryd.underlying33 hi, hc]
  rw [show List.range 4 = [0, 1, 2, 3] from rfl]
  simp [Op.eqItems, part, go_sem, equalIn_u64 d]
  by_cases e0 : wd x 0 = wd y 0 <;> by_cases e1 : wd x 1 = wd y 1 <;> by_cases e2 : wd x 2 = wd y 2 <;> by_cases e3 : wd x 3 = wd y 3 <;> simp [e0, e1, e2, e3] <;> omega
theorem bs_beq (a b : List UInt8) : (bs a == bs b) = decide (a = b) := by
  rw [beq_toListBytes, Lib.toList_data, Lib.toList_data, bs_data, bs_data]
  rw [Bool.eq_iff_iff, beq_iff_eq, decide_eq_true_iff]
theorem equalIn_i64 (d : Nat) (a b : Int) (w : World) : (Op.equalIn (d + 1) 3 (.int .i64 a) (.int .i64 b)).run Tryd.prog w = .ok (a == b) w := by
  simp [Op.equalIn, go_sem]
theorem equalIn_str (d : Nat) (a b : ByteArray) (w : World) : (Op.equalIn (d + 1) 9 (.string a) (.string b)).run Tryd.prog w = .ok (a == b) w := by
  simp [Op.equalIn, go_sem]
end Go.Proofs.YtcgjmnhmhiddkaaDoor
/- Rows of nodes in memory. -/
namespace Go.Proofs.YtcgjmnhmhiddkaaDoor
open Go Go.RowKit
set_option linter.unusedVariables false

def flat10 : List Nd → List Value
  | [] => []
  | t :: l => (ndC t).toList ++ flat10 l
theorem ndC_size (t : Nd) : (ndC t).toList.length = 10 := rfl
theorem flat10_length : ∀ l, (flat10 l).length = l.length * 10
  | [] => rfl
  | s :: l => by simp only [flat10, List.length_append, ndC_size, List.length_cons, flat10_length l]; omega
theorem flat10_append : ∀ l m, flat10 (l ++ m) = flat10 l ++ flat10 m
  | [], _ => rfl
  | s :: l, m => by simp only [List.cons_append, flat10, flat10_append l m, List.append_assoc]
theorem flat10_get : ∀ (l : List Nd) (i j : Nat), i < l.length → j < 10 → (flat10 l)[i * 10 + j]? = (ndC (l.getD i nd0))[j]?
  | [], i, j, hi, _ => by simp at hi
  | s :: l, 0, j, _, hj => by
    show ((ndC s).toList ++ flat10 l)[0 * 10 + j]? = _
    rw [Nat.zero_mul, Nat.zero_add, List.getElem?_append_left (by rw [ndC_size]; exact hj)]; simp
  | s :: l, i + 1, j, hi, hj => by
    have ih := flat10_get l i j (by simpa using hi) hj
    show ((ndC s).toList ++ flat10 l)[(i + 1) * 10 + j]? = _
    rw [List.getElem?_append_right (by rw [ndC_size]; omega), ndC_size, show (i + 1) * 10 + j - 10 = i * 10 + j by omega, ih]
    simp
/-- A row of tokens that is read. -/
def NRow (w : World) (a : Option Addr) (l : List Nd) : Prop :=
  ∀ i, i < l.length → ∃ b off, a = some ⟨b, off, none⟩ ∧ b < w.heap.size ∧ ∀ j, j < 10 → w.cell? ⟨b, off + i * 10 + j, none⟩ = (ndC (l.getD i nd0))[j]?
theorem NRow.later {w w' : World} {a : Option Addr} {l : List Nd} (h : NRow w a l) (hb : Below w.heap.size w w') : NRow w' a l := fun i hi => by
  obtain ⟨b, off, ha, hlt, hc⟩ := h i hi
  exact ⟨b, off, ha, Nat.lt_of_lt_of_le hlt hb.size, fun j hj => (hb.cell (p := ⟨b, off + i * 10 + j, none⟩) hlt).trans (hc j hj)⟩
theorem NRow.nil (w : World) (a : Option Addr) : NRow w a [] := fun i hi => by simp at hi
/-- A row of tokens that a call owns. -/
def OwnN (w : World) (base : Nat) (v : Value) (l : List Nd) : Prop := w.ownsRow base 35 10 v l.length (flat10 l)
theorem OwnN.nil (w : World) (base : Nat) : OwnN w base (.slice none 0 0) [] := ⟨rfl, .inl ⟨rfl, rfl⟩⟩
theorem OwnN.later {w w' : World} {base : Nat} {v : Value} {l : List Nd} (h : OwnN w base v l) (hb : Below w.heap.size w w') : OwnN w' base v l := ownsRow_later h hb
theorem OwnN.row {w : World} {base : Nat} {v : Value} {l : List Nd} (h : OwnN w base v l) : ∃ a cap, v = .slice a l.length cap ∧ NRow w a l := by
  obtain ⟨_, ⟨hv, hn⟩ | ⟨g, cap, cur, hv, hb, hg, hc, hm, hs, ht⟩⟩ := h
  · have : l = [] := List.length_eq_zero_iff.1 hn
    subst this
    exact ⟨none, 0, hv, NRow.nil _ _⟩
  · refine ⟨_, cap, hv, fun i hi => ⟨g, 0, rfl, Blk.lt (w := w) (b := g) (vs := cur) (t := 35) hg, fun j hj => ?_⟩⟩
    have hc2 := Blk.cell (w := w) (b := g) (vs := cur) (t := 35) hg (i * 10 + j)
    rw [Nat.zero_add, hc2, ← flat10_get l i j hi hj, ← ht, List.getElem?_take, if_pos (by omega)]
    simp
theorem infoNd : (Tryd.prog.info? 35).map (fun i => (i.zero, i.size, i.bytes)) = some (some (.agg z10), 10, 88) := by kernel_rfl
/-- An append to a row of its own. -/
theorem wp_append_nd {w : World} {o : Oper} {a : Act} {K : Act → World → Prop} {Q : Exit → Act → World → Prop} (s x : Operand)
    (ho : o.op = .call { callee := .builtin .append, args := #[s, x], argTypes := #[23, 23] })
    (base : Nat) (v : Value) (l : List Nd) (hs : a.eval s = v) (hown : OwnN w base v l)
    (b : Nat) (t : Nd) (hx : a.eval x = .slice (some ⟨b, 0, none⟩) 1 1) (hnew : Blk w b (ndC t) 35) (hlen : l.length < 1073741824) (hbase : base ≤ w.heap.size)
    (h : ∀ v' w', OwnN w' base v' (l ++ [t]) → (∀ B, B ≤ base → Below B w w') → K (a.put o.dst v') w') : o.wp Tryd.prog a w K Q := by
  obtain ⟨ib, hib, hz0, hz1, hz2⟩ := info_parts infoNd
  have hf1 : flat10 [t] = (ndC t).toList := by simp [flat10]
  have hnews : ∀ (j : Nat) (u : Value), (flat10 [t])[j]? = some u → w.cell? ((⟨b, 0, none⟩ : Addr).add j) = some u := by
    intro j u hu
    have hadd : (⟨b, 0, none⟩ : Addr).add j = ⟨b, j, none⟩ := by unfold Addr.add; split <;> simp_all
    rw [hf1] at hu
    rw [hadd, hnew.cell, ← hu]; simp
  have hone : ∀ u ∈ flat10 [t], u.oneCell' = true := by
    intro u hu
    rw [hf1] at hu
    simp only [ndC, List.mem_cons, List.not_mem_nil, or_false] at hu
    rcases hu with rfl | rfl | rfl | rfl | rfl | rfl | rfl | rfl | rfl | rfl <;> rfl
  obtain ⟨v', w', hr, h2, h3, _⟩ := run_append_own (P := Tryd.prog) w base 23 o.type 35 ib _ 10 88 Tryd.underlying23 hib hz0 hz1 hz2 rfl (by decide) v l.length (flat10 l) hown ⟨b, 0, none⟩ 1 1 (flat10 [t]) rfl hnews hone (by unfold maxLen; omega) (by omega) hbase
  have h2' : OwnN w' base v' (l ++ [t]) := by unfold OwnN; rw [List.length_append, flat10_append]; exact h2
  unfold Oper.wp execOp
  simp only [ho, resolve, invoke, builtin, Sem.run_bind, Sem.run_pure, Result.andThen_ok, List.map_toArray, List.map_cons, List.map_nil, hs, hx, hr]
  exact h v' w' h2' fun B hB => (Below.refl B w).grown h3 (Nat.le_trans hB hbase) fun k hk => Nat.le_trans hB ((World.ownsRow.lt hown k hk).1)
theorem wpList_append_nd {w : World} {ops : Array Oper} {rest : List Oper} {o : Oper} {a : Act} {Q : Exit → Act → World → Prop} (hgd : o.guard = none) (s x : Operand)
    (ho : o.op = .call { callee := .builtin .append, args := #[s, x], argTypes := #[23, 23] })
    (base : Nat) (v : Value) (l : List Nd) (hs : a.eval s = v) (hown : OwnN w base v l)
    (b : Nat) (t : Nd) (hx : a.eval x = .slice (some ⟨b, 0, none⟩) 1 1) (hnew : Blk w b (ndC t) 35) (hlen : l.length < 1073741824) (hbase : base ≤ w.heap.size)
    (h : ∀ v' w', OwnN w' base v' (l ++ [t]) → (∀ B, B ≤ base → Below B w w') → wpList Tryd.prog ops Q rest (a.put o.dst v') w') : wpList Tryd.prog ops Q (o :: rest) a w :=
  wpList_plain hgd fun K hK => wp_append_nd s x ho base v l hs hown b t hx hnew hlen hbase fun v' w' h1 h2 => hK _ _ (h v' w' h1 h2)
end Go.Proofs.YtcgjmnhmhiddkaaDoor
