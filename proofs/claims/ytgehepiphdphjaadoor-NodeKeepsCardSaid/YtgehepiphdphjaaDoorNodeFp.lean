/- The first part of a node, the first one of a node's: walked. -/
import Derived.Test.YtgehepiphdphjaaDoorNodeLaid
namespace Go.Proofs.YtgehepiphdphjaaDoor
open Go Go.RowKit
set_option linter.unusedVariables false
set_option linter.unusedSimpArgs false

set_option maxHeartbeats 8000000 in
set_option maxRecDepth 100000 in
theorem fpart_empty (a b lo hi c0 c1 c2 c3 : Int) (s : ByteArray) (w : World) : Calls Tryd.prog 59 #[.agg #[.int .i64 1, .int .i64 a, .int .i64 b, .int .i64 lo, .int .i64 hi, .int .u64 c0, .int .u64 c1, .int .u64 c2, .int .u64 c3, .string s]] w (Ans w (.tuple #[.int .i64 0, .bool false])) := by
  have hone := as_empty_one
  have htimes := as_empty_times
  have htwo := as_empty_two
  have TU := Lib.hid (fun w => turned_empty a b lo hi c0 c1 c2 c3 s w)
  go_enter Tryd.func59, Tryd.ntmps59
  go_wp2_with fail
  refine (TU.out _).mono ?_; rintro e w1 ⟨rfl, hb1⟩
  have HB1 := Lib.hid (((Below.refl w.heap.size w).alloc (Nat.le_refl _) (.cells #[.int .i64 1, .int .i64 a, .int .i64 b, .int .i64 lo, .int .i64 hi, .int .u64 c0, .int .u64 c1, .int .u64 c2, .int .u64 c3, .string s] 59)).trans (hb1.mono (by simp)))
  clear hb1 TU
  go_wp2
  go_ret2
  exact ⟨rfl, HB1.out⟩
set_option maxHeartbeats 8000000 in
set_option maxRecDepth 100000 in
theorem fpart_set (a b lo hi c0 c1 c2 c3 : Int) (s : ByteArray) (w : World) : Calls Tryd.prog 59 #[.agg #[.int .i64 2, .int .i64 a, .int .i64 b, .int .i64 lo, .int .i64 hi, .int .u64 c0, .int .u64 c1, .int .u64 c2, .int .u64 c3, .string s]] w (Ans w (.tuple #[.int .i64 0, .bool false])) := by
  have hone := as_set_one
  have htimes := as_set_times
  have htwo := as_set_two
  have TU := Lib.hid (fun w => turned_set a b lo hi c0 c1 c2 c3 s w)
  go_enter Tryd.func59, Tryd.ntmps59
  go_wp2_with fail
  refine (TU.out _).mono ?_; rintro e w1 ⟨rfl, hb1⟩
  have HB1 := Lib.hid (((Below.refl w.heap.size w).alloc (Nat.le_refl _) (.cells #[.int .i64 2, .int .i64 a, .int .i64 b, .int .i64 lo, .int .i64 hi, .int .u64 c0, .int .u64 c1, .int .u64 c2, .int .u64 c3, .string s] 59)).trans (hb1.mono (by simp)))
  clear hb1 TU
  go_wp2
  go_ret2
  exact ⟨rfl, HB1.out⟩
set_option maxHeartbeats 8000000 in
set_option maxRecDepth 100000 in
theorem fpart_text (a b lo hi c0 c1 c2 c3 : Int) (s : ByteArray) (w : World) : Calls Tryd.prog 59 #[.agg #[.int .i64 3, .int .i64 a, .int .i64 b, .int .i64 lo, .int .i64 hi, .int .u64 c0, .int .u64 c1, .int .u64 c2, .int .u64 c3, .string s]] w (Ans w (.tuple #[.int .i64 0, .bool false])) := by
  have hone := as_text_one
  have htimes := as_text_times
  have htwo := as_text_two
  have TU := Lib.hid (fun w => turned_text a b lo hi c0 c1 c2 c3 s w)
  go_enter Tryd.func59, Tryd.ntmps59
  go_wp2_with fail
  refine (TU.out _).mono ?_; rintro e w1 ⟨rfl, hb1⟩
  have HB1 := Lib.hid (((Below.refl w.heap.size w).alloc (Nat.le_refl _) (.cells #[.int .i64 3, .int .i64 a, .int .i64 b, .int .i64 lo, .int .i64 hi, .int .u64 c0, .int .u64 c1, .int .u64 c2, .int .u64 c3, .string s] 59)).trans (hb1.mono (by simp)))
  clear hb1 TU
  go_wp2
  go_ret2
  exact ⟨rfl, HB1.out⟩
set_option maxHeartbeats 8000000 in
set_option maxRecDepth 100000 in
theorem fpart_one (k a b lo hi c0 c1 c2 c3 : Int) (s : ByteArray) (hk : k = 6 ∨ k = 8 ∨ k = 9) (w : World) : Calls Tryd.prog 59 #[.agg #[.int .i64 k, .int .i64 a, .int .i64 b, .int .i64 lo, .int .i64 hi, .int .u64 c0, .int .u64 c1, .int .u64 c2, .int .u64 c3, .string s]] w (Ans w (.tuple #[.int .i64 a, .bool true])) := by
  have hone := as_one_one
  have htimes := as_one_times
  have htwo := as_one_two
  have TU := Lib.hid (fun w => turned_one k a b lo hi c0 c1 c2 c3 s hk w)
  clear hk
  go_enter Tryd.func59, Tryd.ntmps59
  go_wp2_with fail
  refine (TU.out _).mono ?_; rintro e w1 ⟨rfl, hb1⟩
  have HB1 := Lib.hid (((Below.refl w.heap.size w).alloc (Nat.le_refl _) (.cells #[.int .i64 k, .int .i64 a, .int .i64 b, .int .i64 lo, .int .i64 hi, .int .u64 c0, .int .u64 c1, .int .u64 c2, .int .u64 c3, .string s] 59)).trans (hb1.mono (by simp)))
  clear hb1 TU
  go_wp2
  go_ret2
  exact ⟨rfl, HB1.out.alloc HB1.out.size _⟩
set_option maxHeartbeats 8000000 in
set_option maxRecDepth 100000 in
theorem fpart_times (a b lo hi c0 c1 c2 c3 : Int) (s : ByteArray) (w : World) : Calls Tryd.prog 59 #[.agg #[.int .i64 7, .int .i64 a, .int .i64 b, .int .i64 lo, .int .i64 hi, .int .u64 c0, .int .u64 c1, .int .u64 c2, .int .u64 c3, .string s]] w (Ans w (.tuple #[.int .i64 a, .bool true])) := by
  have hone := as_times_one
  have htimes := as_times_times
  have htwo := as_times_two
  have TU := Lib.hid (fun w => turned_times a b lo hi c0 c1 c2 c3 s w)
  go_enter Tryd.func59, Tryd.ntmps59
  go_wp2_with fail
  refine (TU.out _).mono ?_; rintro e w1 ⟨rfl, hb1⟩
  have HB1 := Lib.hid (((Below.refl w.heap.size w).alloc (Nat.le_refl _) (.cells #[.int .i64 7, .int .i64 a, .int .i64 b, .int .i64 lo, .int .i64 hi, .int .u64 c0, .int .u64 c1, .int .u64 c2, .int .u64 c3, .string s] 59)).trans (hb1.mono (by simp)))
  clear hb1 TU
  go_wp2
  go_ret2
  exact ⟨rfl, HB1.out.alloc HB1.out.size _⟩
set_option maxHeartbeats 8000000 in
set_option maxRecDepth 100000 in
theorem fpart_two (k a b lo hi c0 c1 c2 c3 : Int) (s : ByteArray) (hk : k = 4 ∨ k = 5) (w : World) : Calls Tryd.prog 59 #[.agg #[.int .i64 k, .int .i64 a, .int .i64 b, .int .i64 lo, .int .i64 hi, .int .u64 c0, .int .u64 c1, .int .u64 c2, .int .u64 c3, .string s]] w (Ans w (.tuple #[.int .i64 a, .bool true])) := by
  have hone := as_two_one
  have htimes := as_two_times
  have htwo := as_two_two
  have TU := Lib.hid (fun w => turned_two k a b lo hi c0 c1 c2 c3 s hk w)
  clear hk
  go_enter Tryd.func59, Tryd.ntmps59
  go_wp2_with fail
  refine (TU.out _).mono ?_; rintro e w1 ⟨rfl, hb1⟩
  have HB1 := Lib.hid (((Below.refl w.heap.size w).alloc (Nat.le_refl _) (.cells #[.int .i64 k, .int .i64 a, .int .i64 b, .int .i64 lo, .int .i64 hi, .int .u64 c0, .int .u64 c1, .int .u64 c2, .int .u64 c3, .string s] 59)).trans (hb1.mono (by simp)))
  clear hb1 TU
  go_wp2
  go_ret2
  exact ⟨rfl, HB1.out.alloc HB1.out.size _⟩
set_option maxHeartbeats 8000000 in
set_option maxRecDepth 100000 in
theorem fpart_nil (k a b lo hi c0 c1 c2 c3 : Int) (s : ByteArray) (h4 : ¬ (4 ≤ k ∧ k ≤ 9)) (h1 : k ≠ 1) (h2 : k ≠ 2) (h3 : k ≠ 3) (w : World) : Calls Tryd.prog 59 #[.agg #[.int .i64 k, .int .i64 a, .int .i64 b, .int .i64 lo, .int .i64 hi, .int .u64 c0, .int .u64 c1, .int .u64 c2, .int .u64 c3, .string s]] w (Ans w (.tuple #[.int .i64 0, .bool false])) := by
  have hone := as_nil_one
  have htimes := as_nil_times
  have htwo := as_nil_two
  have TU := Lib.hid (fun w => turned_nil k a b lo hi c0 c1 c2 c3 s h4 h1 h2 h3 w)
  clear h4 h1 h2 h3
  go_enter Tryd.func59, Tryd.ntmps59
  go_wp2_with fail
  refine (TU.out _).mono ?_; rintro e w1 ⟨rfl, hb1⟩
  have HB1 := Lib.hid (((Below.refl w.heap.size w).alloc (Nat.le_refl _) (.cells #[.int .i64 k, .int .i64 a, .int .i64 b, .int .i64 lo, .int .i64 hi, .int .u64 c0, .int .u64 c1, .int .u64 c2, .int .u64 c3, .string s] 59)).trans (hb1.mono (by simp)))
  clear hb1 TU
  go_wp2
  go_ret2
  exact ⟨rfl, HB1.out⟩
theorem fpart_yes {n : Nd} (h : partK n.kind) (w : World) : Calls Tryd.prog 59 #[.agg (ndC n)] w (Ans w (.tuple #[.int .i64 n.a, .bool true])) := by
  obtain ⟨k, a, b, lo, hi, cls, text⟩ := n
  have h : 4 ≤ k ∧ k ≤ 9 := h
  by_cases c6 : k = 6 ∨ k = 8 ∨ k = 9
  · exact fpart_one k a b lo hi _ _ _ _ (bs text) c6 w
  by_cases c7 : k = 7
  · subst c7; exact fpart_times a b lo hi _ _ _ _ (bs text) w
  · exact fpart_two k a b lo hi _ _ _ _ (bs text) (by omega) w
theorem fpart_no {n : Nd} (h : ¬ partK n.kind) (w : World) : Calls Tryd.prog 59 #[.agg (ndC n)] w (Ans w (.tuple #[.int .i64 0, .bool false])) := by
  obtain ⟨k, a, b, lo, hi, cls, text⟩ := n
  have h : ¬ (4 ≤ k ∧ k ≤ 9) := h
  by_cases c1 : k = 1
  · subst c1; exact fpart_empty a b lo hi _ _ _ _ (bs text) w
  by_cases c2 : k = 2
  · subst c2; exact fpart_set a b lo hi _ _ _ _ (bs text) w
  by_cases c3 : k = 3
  · subst c3; exact fpart_text a b lo hi _ _ _ _ (bs text) w
  · exact fpart_nil k a b lo hi _ _ _ _ (bs text) h c1 c2 c3 w
/-- There is such a node. -/
theorem there_any (l : List Nd) (A : Option Addr) (c i : Nat) (hi : i < l.length) (w : World) : Calls Tryd.prog 58 #[.agg #[.slice A l.length c], .int .i64 (i : Int)] w (Ans w (.bool true)) := by
  have h1 : (i : Int) ≥ 0 := by omega
  have h2 : (i : Int) < (l.length : Int) := by omega
  go_enter Tryd.func58, Tryd.ntmps58
  go_wp2
  go_ret
  exact ⟨rfl, (Below.refl _ _).alloc (Nat.le_refl _) _⟩
theorem ahead_any (a : Int) (i : Nat) (hi : i < 1073741824) (w : World) : Calls Tryd.prog 81 #[.int .i64 a, .int .i64 (i : Int)] w (Ans w (.bool (decide (0 ≤ a ∧ a = (i : Int) - 1)))) := by
  obtain ⟨v, hv⟩ : ∃ v, decide (0 ≤ a ∧ a = (i : Int) - 1) = v := ⟨_, rfl⟩
  rw [hv]
  have HV := Lib.hid hv
  clear hv
  by_cases h0 : 0 ≤ a
  · have h1 : a ≥ 0 := h0
    cases hd : (a == (i : Int) - 1) with
    | true =>
      have HD : Hid (v = true) := by unfold Hid; rw [← HV.out, decide_eq_true_iff]; exact ⟨h0, by simpa using hd⟩
      go_enter Tryd.func81, Tryd.ntmps81
      go_wp2
      go_ret
      exact ⟨by rw [HD.out]; rfl, Below.refl _ _⟩
    | false =>
      have HD : Hid (v = false) := by unfold Hid; rw [← HV.out, decide_eq_false_iff_not]; rintro ⟨_, e⟩; simp [e] at hd
      go_enter Tryd.func81, Tryd.ntmps81
      go_wp2
      go_ret
      exact ⟨by rw [HD.out]; rfl, Below.refl _ _⟩
  · have h1 : ¬ a ≥ 0 := h0
    have HD : Hid (v = false) := by unfold Hid; rw [← HV.out, decide_eq_false_iff_not]; exact fun h => h0 h.1
    clear h0
    go_enter Tryd.func81, Tryd.ntmps81
    go_wp2
    go_ret
    exact ⟨by rw [HD.out]; rfl, Below.refl _ _⟩
structure FstS (w0 : World) (A : Option Addr) (l : List Nd) (c : Nat) (w : World) : Prop where
  bel : Below w0.heap.size w0 w
  row : NRow w A l
  box : Blk w w0.heap.size #[.slice A l.length c] 49
theorem FstS.later {w0 w w' : World} {A : Option Addr} {l : List Nd} {c : Nat} (h : FstS w0 A l c w) (hb : Below w.heap.size w w') : FstS w0 A l c w' :=
  ⟨h.bel.trans (hb.mono h.bel.size), h.row.later hb, h.box.later hb⟩
def FstL (w0 : World) (A : Option Addr) (l : List Nd) (c i0 : Nat) (i : Value) (w : World) : Prop := ∃ k : Nat, k < l.length ∧ i = .int .i64 (k : Int) ∧ firstP l k = firstP l i0 ∧ FstS w0 A l c w
set_option maxHeartbeats 8000000 in
set_option maxRecDepth 100000 in
theorem first_any (l : List Nd) (A : Option Addr) (c i : Nat) (hi : i < l.length) (w : World) (hrow : NRow w A l) : Calls Tryd.prog 34 #[.agg #[.slice A l.length c], .int .i64 (i : Int)] w (Ans w (.int .i64 (firstP l i : Int))) := by
  have HS0 : Hid (FstS w A l c (w.alloc (.cells #[.slice A l.length c] 49))) := ⟨(Below.refl _ _).alloc (Nat.le_refl _) _, hrow.later ((Below.refl _ _).alloc (Nat.le_refl _) _), Blk.new _ _ _⟩
  clear hrow
  go_enter Tryd.func34, Tryd.ntmps34
  go_upto_region 1 with (fail)
  generalize w.alloc (.cells #[.slice A l.length c] 49) = w1 at *
  have e0 := HS0.out.box.cell 0
  simp at e0
  go_wp2_with fail
  refine (there_any l A c i hi _).mono ?_; rintro e w2 ⟨rfl, hb2⟩
  have HS2 := Lib.hid (HS0.out.later hb2)
  clear hb2 e0 HS0
  go_wp2
  go_loopw [1] (FstL w A l c i) (fun i _ => (intOf i).toNat)
  case atStart => exact ⟨i, hi, rfl, rfl, HS2.out⟩
  case round =>
    obtain ⟨k, hk, rfl, hf, hs⟩ := hrel
    have HS := Lib.hid hs
    have HF := Lib.hid hf
    obtain ⟨ba, oa, rfl, -, -⟩ := hs.row k hk
    have g : At10 wr ba (oa + k * 10) (l.getD k nd0) := hs.row.at hk rfl
    have e0 := hs.box.cell 0
    simp at e0
    have hkz : (k : Int) < (l.length : Int) := by omega
    have hat : atN l k = l.getD k nd0 := rfl
    have HGO : Hid (partK (l.getD k nd0).kind → 0 ≤ (l.getD k nd0).a → (l.getD k nd0).a < (k : Int) → firstP l (l.getD k nd0).a.toNat = firstP l i) := fun h1 h2 h3 => by rw [← hf]; exact (firstP_go h1 h2 h3).symm
    have HST : Hid (¬ (partK (l.getD k nd0).kind ∧ 0 ≤ (l.getD k nd0).a ∧ (l.getD k nd0).a < (k : Int)) → (firstP l i : Int) = (k : Int)) := fun h => by rw [← hf, firstP_stop h]
    clear hs hf hat
    generalize l.getD k nd0 = n at *
    unfold At10 at g
    obtain ⟨g0, g1, g2, g3, g4, g5, g6, g7, g8, g9⟩ := g
    by_cases hp : partK n.kind
    · have HP := Lib.hid hp
      go_wp2_with fail
      refine (fpart_yes HP.out _).mono ?_; rintro e w3 ⟨rfl, hb3⟩
      have HS3 := Lib.hid (HS.out.later hb3)
      clear hb3 g0 g1 g2 g3 g4 g5 g6 g7 g8 g9 e0 hp
      generalize n.a = x at *
      by_cases h0 : x < 0
      · have hx : (firstP l i : Int) = (k : Int) := HST.out (fun h => by have := h.2.1; omega)
        have HX := Lib.hid hx
        clear hx
        go_wp2
        go_ret
        exact ⟨by rw [HX.out]; rfl, HS3.out.bel⟩
      · by_cases h1 : x ≥ (k : Int)
        · have hx : (firstP l i : Int) = (k : Int) := HST.out (fun h => by have := h.2.2; omega)
          have HX := Lib.hid hx
          clear hx
          go_wp2
          go_ret
          exact ⟨by rw [HX.out]; rfl, HS3.out.bel⟩
        · have hx := HGO.out HP.out (by omega) (by omega)
          obtain ⟨j, rfl⟩ : ∃ j : Nat, x = (j : Int) := ⟨x.toNat, by omega⟩
          rw [Int.toNat_natCast] at hx
          have HX := Lib.hid hx
          clear hx
          go_wp2
          go_roundw
          case rel => exact ⟨j, by omega, by first | rfl | go_num, HX.out, HS3.out⟩
          case measure => simp [intOf]; omega
    · have HP := Lib.hid hp
      have HX : Hid ((firstP l i : Int) = (k : Int)) := HST.out (fun h => HP.out h.1)
      go_wp2_with fail
      refine (fpart_no HP.out _).mono ?_; rintro e w3 ⟨rfl, hb3⟩
      have HS3 := Lib.hid (HS.out.later hb3)
      clear hb3 g0 g1 g2 g3 g4 g5 g6 g7 g8 g9 e0 hp
      go_wp2
      go_ret
      exact ⟨by rw [HX.out]; rfl, HS3.out.bel⟩
end Go.Proofs.YtgehepiphdphjaaDoor
