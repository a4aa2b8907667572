/- Nodes laid behind others: walked. -/
import Derived.Test.YtcgjmnhmhiddkaaGreatDoorM06
import Derived.Test.YtcgjmnhmhiddkaaGreatDoorM09
import Derived.Test.YtcgjmnhmhiddkaaGreatDoorM03
namespace Go.Proofs.YtcgjmnhmhiddkaaGreatDoor
open Go Go.RowKit
set_option linter.unusedVariables false
set_option linter.unusedSimpArgs false

/-- A node that may be moved so far. -/
structure MvOk (d : Int) (n : Nd) : Prop where
  txt : n.text.length ≤ 281474976710656
  fa : partK n.kind → IntKind.i64.wrap (n.a + d) = n.a + d
  fb : n.kind = 4 ∨ n.kind = 5 → IntKind.i64.wrap (n.b + d) = n.b + d
theorem moved_any (n : Nd) (d : Int) (h : MvOk d n) (w : World) : Calls Tryz.prog 186 #[.agg (ndC n), .int .i64 d] w (Ans w (.agg (ndC (mvN d n)))) := by
  obtain ⟨k, a, b, lo, hi, cls, text⟩ := n
  obtain ⟨h1, h2, h3⟩ := h
  simp only at h1 h2 h3
  have hs : (bs text).size ≤ 281474976710656 := by rw [bs_size]; exact h1
  unfold partK at h2
  by_cases c1 : k = 1
  · subst c1; exact moved_empty a b lo hi _ _ _ _ d (bs text) hs w
  by_cases c2 : k = 2
  · subst c2; exact moved_set a b lo hi _ _ _ _ d (bs text) hs w
  by_cases c3 : k = 3
  · subst c3; exact moved_text a b lo hi _ _ _ _ d (bs text) hs w
  by_cases c6 : k = 6 ∨ k = 8 ∨ k = 9
  · have e : mvN d ⟨k, a, b, lo, hi, cls, text⟩ = ⟨k, a + d, b, lo, hi, cls, text⟩ := by unfold mvN; rw [if_pos (by simp only; omega)]
    rw [e]; exact moved_one k a b lo hi _ _ _ _ d (bs text) c6 (h2 (by omega)) hs w
  by_cases c7 : k = 7
  · subst c7; exact moved_times a b lo hi _ _ _ _ d (bs text) (h2 (by omega)) hs w
  by_cases c4 : k = 4 ∨ k = 5
  · have e : mvN d ⟨k, a, b, lo, hi, cls, text⟩ = ⟨k, a + d, b + d, lo, hi, cls, text⟩ := by unfold mvN; rw [if_neg (by simp only; omega), if_pos c4]
    rw [e]; exact moved_two k a b lo hi _ _ _ _ d (bs text) c4 (h2 (by omega)) (h3 c4) hs w
  · have e : mvN d ⟨k, a, b, lo, hi, cls, text⟩ = ⟨k, a, b, lo, hi, cls, text⟩ := by unfold mvN; rw [if_neg (by simp only; omega), if_neg c4]
    rw [e]; exact moved_nil k a b lo hi _ _ _ _ d (bs text) (by omega) c1 c2 c3 hs w
structure LaidS (w0 : World) (base : Nat) (A : Option Addr) (m : List Nd) (lst : Value) (L : List Nd) (w : World) : Prop where
  bel : Below base w0 w
  own : OwnN w base lst L
  row : NRow w A m
  low : base ≤ w.heap.size
theorem LaidS.later {w0 w w' : World} {base : Nat} {A : Option Addr} {m L : List Nd} {lst : Value} (h : LaidS w0 base A m lst L w) (hb : Below w.heap.size w w') : LaidS w0 base A m lst L w' :=
  ⟨h.bel.trans (hb.mono h.low), h.own.later hb, h.row.later hb, Nat.le_trans h.low hb.size⟩
theorem NRow.below {w w' : World} {a : Option Addr} {l : List Nd} {B : Nat} (h : NRow w a l) (ha : ∀ b o, a = some ⟨b, o, none⟩ → b < B) (hb : Below B w w') (hs : w.heap.size ≤ w'.heap.size) : NRow w' a l := fun i hi => by
  obtain ⟨b, off, h1, hlt, hc⟩ := h i hi
  exact ⟨b, off, h1, Nat.lt_of_lt_of_le hlt hs, fun j hj => (hb.cell (p := ⟨b, off + i * 10 + j, none⟩) (ha b off h1)).trans (hc j hj)⟩
def LaidL (w0 : World) (base : Nat) (A : Option Addr) (l0 m : List Nd) (d : Int) (lst i : Value) (w : World) : Prop :=
  ∃ k : Nat, k ≤ m.length ∧ i = .int .i64 (k : Int) ∧ LaidS w0 base A m lst (l0 ++ (m.take k).map (mvN d)) w
def LaidPost (w0 : World) (base : Nat) (L : List Nd) (e : Ending) (w' : World) : Prop := ∃ v, e = .returned v ∧ OwnN w' base v L ∧ Below base w0 w'
set_option maxHeartbeats 8000000 in
set_option maxRecDepth 100000 in
theorem laid_any (l0 m : List Nd) (d : Int) (v : Value) (A : Option Addr) (c base : Nat) (w : World) (hown : OwnN w base v l0) (hrow : NRow w A m)
    (hA : ∀ b o, A = some ⟨b, o, none⟩ → b < base) (hbase : base ≤ w.heap.size) (hlen : l0.length + m.length < 1073741824) (hok : ∀ n ∈ m, MvOk d n) :
    Calls Tryz.prog 185 #[v, .slice A m.length c, .int .i64 d] w (LaidPost w base (l0 ++ m.map (mvN d))) := by
  have HS0 : Hid (LaidS w base A m v l0 w) := ⟨Below.refl _ _, hown, hrow, hbase⟩
  have HA := Lib.hid hA
  have HOK := Lib.hid hok
  clear hown hrow hA hok hbase
  go_enter Tryz.func185, Tryz.ntmps185
  go_wp2
  go_loopw [0, 11] (LaidL w base A l0 m d) (fun _ i _ => m.length - (intOf i).toNat)
  case atStart => exact ⟨0, Nat.zero_le _, rfl, by simpa using HS0.out⟩
  case round =>
    obtain ⟨k, hk, rfl, hs⟩ := hrel
    have HS := Lib.hid hs
    by_cases hlt : k < m.length
    · have hltz : (k : Int) < (m.length : Int) := by omega
      obtain ⟨ba, oa, rfl, -, -⟩ := hs.row k hlt
      have g : At10 wr ba (oa + k * 10) (m.getD k nd0) := hs.row.at hlt rfl
      have HN : Hid ((m.take (k + 1)).map (mvN d) = (m.take k).map (mvN d) ++ [mvN d (m.getD k nd0)]) := by
        unfold Hid
        rw [List.take_succ_eq_append_getElem hlt, List.map_append, List.getD_eq_getElem?_getD, List.getElem?_eq_getElem hlt]; rfl
      have HM := Lib.hid (HOK.out (m.getD k nd0) (by rw [List.getD_eq_getElem?_getD, List.getElem?_eq_getElem hlt]; exact List.getElem_mem _))
      have hcnt : (l0 ++ (m.take k).map (mvN d)).length < 1073741824 := by rw [List.length_append, List.length_map, List.length_take]; omega
      have HCN := Lib.hid hcnt
      generalize (m.take k).map (mvN d) = L at *
      generalize m.getD k nd0 = n at *
      clear hs hcnt
      unfold At10 at g
      obtain ⟨g0, g1, g2, g3, g4, g5, g6, g7, g8, g9⟩ := g
      go_upto_region 4 with (fail)
      have HS2 := Lib.hid (HS.out.later ((Below.refl _ _).alloc (Nat.le_refl _) (.cells (ndC n) 44)))
      have HB2 := Lib.hid (Blk.new wr (ndC n) 44)
      unfold ndC at HS2 HB2
      generalize wr.alloc (.cells #[.int .i64 n.kind, .int .i64 n.a, .int .i64 n.b, .int .i64 n.lo, .int .i64 n.hi, .int .u64 (wd n.cls 0), .int .u64 (wd n.cls 1), .int .u64 (wd n.cls 2), .int .u64 (wd n.cls 3), .string (bs n.text)] 44) = w2 at *
      generalize wr.heap.size = bx at *
      clear g0 g1 g2 g3 g4 g5 g6 g7 g8 g9
      obtain ⟨g0, g1, g2, g3, g4, g5, g6, g7, g8, g9⟩ := ten_cells HB2.out
      go_wp2_with fail
      refine (moved_any n d HM.out _).mono ?_; rintro e w3 ⟨rfl, hb3⟩
      have HS3 := Lib.hid (HS2.out.later hb3)
      clear hb3 g0 g1 g2 g3 g4 g5 g6 g7 g8 g9
      generalize mvN d n = x at *
      unfold ndC
      have HS4 := Lib.hid (HS3.out.later ((Below.refl _ _).alloc (Nat.le_refl _) (.cells (ndC x) 44)))
      have HK := Lib.hid (Blk.new w3 (ndC x) 44)
      have hbase4 := HS4.out.low
      unfold ndC at HS4 HK hbase4
      go_wp2_with (at_builtin; refine wpList_append_nd rfl _ _ rfl base _ _ rfl HS4.out.own w3.heap.size x rfl HK.out HCN.out hbase4 ?_; intro v' w7 ho7 hb7; have HO7 := Lib.hid ho7; have HB7 := Lib.hid (hb7 _ (Nat.le_refl _)); clear ho7 hb7)
      have HS7 : Hid (LaidS w base (some ⟨ba, oa, none⟩) m v' (l0 ++ (L ++ [x])) w7) := by
        refine ⟨HS4.out.bel.trans HB7.out, by rw [← List.append_assoc]; exact HO7.out, HS4.out.row.below HA.out HB7.out HB7.out.size, Nat.le_trans HS4.out.low HB7.out.size⟩
      go_roundw
      case rel => exact ⟨k + 1, by omega, by go_num, by rw [HN.out]; exact HS7.out⟩
      case measure => simp [intOf]; omega
    · obtain rfl : k = m.length := by omega
      have HO : Hid (LaidPost w base (l0 ++ m.map (mvN d)) (.returned u0) wr) := by
        have h := hs.own
        rw [List.take_length] at h
        exact ⟨_, rfl, h, hs.bel⟩
      clear hs
      go_wp2
      go_ret
      exact HO.out
end Go.Proofs.YtcgjmnhmhiddkaaGreatDoor
/- The first part of a node, the first one of a node's: walked. -/
namespace Go.Proofs.YtcgjmnhmhiddkaaGreatDoor
open Go Go.RowKit
set_option linter.unusedVariables false
set_option linter.unusedSimpArgs false

set_option maxHeartbeats 8000000 in
set_option maxRecDepth 100000 in
theorem fpart_empty (a b lo hi c0 c1 c2 c3 : Int) (s : ByteArray) (w : World) : Calls Tryz.prog 70 #[.agg #[.int .i64 1, .int .i64 a, .int .i64 b, .int .i64 lo, .int .i64 hi, .int .u64 c0, .int .u64 c1, .int .u64 c2, .int .u64 c3, .string s]] w (Ans w (.tuple #[.int .i64 0, .bool false])) := by
  have hone := as_empty_one
  have htimes := as_empty_times
  have htwo := as_empty_two
  have TU := Lib.hid (fun w => turned_empty a b lo hi c0 c1 c2 c3 s w)
  go_enter Tryz.func70, Tryz.ntmps70
  go_wp2_with fail
  refine (TU.out _).mono ?_; rintro e w1 ⟨rfl, hb1⟩
  have HB1 := Lib.hid (((Below.refl w.heap.size w).alloc (Nat.le_refl _) (.cells #[.int .i64 1, .int .i64 a, .int .i64 b, .int .i64 lo, .int .i64 hi, .int .u64 c0, .int .u64 c1, .int .u64 c2, .int .u64 c3, .string s] 44)).trans (hb1.mono (by simp)))
  clear hb1 TU
  go_wp2
  go_ret2
  exact ⟨rfl, HB1.out⟩
set_option maxHeartbeats 8000000 in
set_option maxRecDepth 100000 in
theorem fpart_set (a b lo hi c0 c1 c2 c3 : Int) (s : ByteArray) (w : World) : Calls Tryz.prog 70 #[.agg #[.int .i64 2, .int .i64 a, .int .i64 b, .int .i64 lo, .int .i64 hi, .int .u64 c0, .int .u64 c1, .int .u64 c2, .int .u64 c3, .string s]] w (Ans w (.tuple #[.int .i64 0, .bool false])) := by
  have hone := as_set_one
  have htimes := as_set_times
  have htwo := as_set_two
  have TU := Lib.hid (fun w => turned_set a b lo hi c0 c1 c2 c3 s w)
  go_enter Tryz.func70, Tryz.ntmps70
  go_wp2_with fail
  refine (TU.out _).mono ?_; rintro e w1 ⟨rfl, hb1⟩
  have HB1 := Lib.hid (((Below.refl w.heap.size w).alloc (Nat.le_refl _) (.cells #[.int .i64 2, .int .i64 a, .int .i64 b, .int .i64 lo, .int .i64 hi, .int .u64 c0, .int .u64 c1, .int .u64 c2, .int .u64 c3, .string s] 44)).trans (hb1.mono (by simp)))
  clear hb1 TU
  go_wp2
  go_ret2
  exact ⟨rfl, HB1.out⟩
set_option maxHeartbeats 8000000 in
set_option maxRecDepth 100000 in
theorem fpart_text (a b lo hi c0 c1 c2 c3 : Int) (s : ByteArray) (w : World) : Calls Tryz.prog 70 #[.agg #[.int .i64 3, .int .i64 a, .int .i64 b, .int .i64 lo, .int .i64 hi, .int .u64 c0, .int .u64 c1, .int .u64 c2, .int .u64 c3, .string s]] w (Ans w (.tuple #[.int .i64 0, .bool false])) := by
  have hone := as_text_one
  have htimes := as_text_times
  have htwo := as_text_two
  have TU := Lib.hid (fun w => turned_text a b lo hi c0 c1 c2 c3 s w)
  go_enter Tryz.func70, Tryz.ntmps70
  go_wp2_with fail
  refine (TU.out _).mono ?_; rintro e w1 ⟨rfl, hb1⟩
  have HB1 := Lib.hid (((Below.refl w.heap.size w).alloc (Nat.le_refl _) (.cells #[.int .i64 3, .int .i64 a, .int .i64 b, .int .i64 lo, .int .i64 hi, .int .u64 c0, .int .u64 c1, .int .u64 c2, .int .u64 c3, .string s] 44)).trans (hb1.mono (by simp)))
  clear hb1 TU
  go_wp2
  go_ret2
  exact ⟨rfl, HB1.out⟩
set_option maxHeartbeats 8000000 in
set_option maxRecDepth 100000 in
theorem fpart_one (k a b lo hi c0 c1 c2 c3 : Int) (s : ByteArray) (hk : k = 6 ∨ k = 8 ∨ k = 9) (w : World) : Calls Tryz.prog 70 #[.agg #[.int .i64 k, .int .i64 a, .int .i64 b, .int .i64 lo, .int .i64 hi, .int .u64 c0, .int .u64 c1, .int .u64 c2, .int .u64 c3, .string s]] w (Ans w (.tuple #[.int .i64 a, .bool true])) := by
  have hone := as_one_one
  have htimes := as_one_times
  have htwo := as_one_two
  have TU := Lib.hid (fun w => turned_one k a b lo hi c0 c1 c2 c3 s hk w)
  clear hk
  go_enter Tryz.func70, Tryz.ntmps70
  go_wp2_with fail
  refine (TU.out _).mono ?_; rintro e w1 ⟨rfl, hb1⟩
  have HB1 := Lib.hid (((Below.refl w.heap.size w).alloc (Nat.le_refl _) (.cells #[.int .i64 k, .int .i64 a, .int .i64 b, .int .i64 lo, .int .i64 hi, .int .u64 c0, .int .u64 c1, .int .u64 c2, .int .u64 c3, .string s] 44)).trans (hb1.mono (by simp)))
  clear hb1 TU
  go_wp2
  go_ret2
  exact ⟨rfl, HB1.out.alloc HB1.out.size _⟩
set_option maxHeartbeats 8000000 in
set_option maxRecDepth 100000 in
theorem fpart_times (a b lo hi c0 c1 c2 c3 : Int) (s : ByteArray) (w : World) : Calls Tryz.prog 70 #[.agg #[.int .i64 7, .int .i64 a, .int .i64 b, .int .i64 lo, .int .i64 hi, .int .u64 c0, .int .u64 c1, .int .u64 c2, .int .u64 c3, .string s]] w (Ans w (.tuple #[.int .i64 a, .bool true])) := by
  have hone := as_times_one
  have htimes := as_times_times
  have htwo := as_times_two
  have TU := Lib.hid (fun w => turned_times a b lo hi c0 c1 c2 c3 s w)
  go_enter Tryz.func70, Tryz.ntmps70
  go_wp2_with fail
  refine (TU.out _).mono ?_; rintro e w1 ⟨rfl, hb1⟩
  have HB1 := Lib.hid (((Below.refl w.heap.size w).alloc (Nat.le_refl _) (.cells #[.int .i64 7, .int .i64 a, .int .i64 b, .int .i64 lo, .int .i64 hi, .int .u64 c0, .int .u64 c1, .int .u64 c2, .int .u64 c3, .string s] 44)).trans (hb1.mono (by simp)))
  clear hb1 TU
  go_wp2
  go_ret2
  exact ⟨rfl, HB1.out.alloc HB1.out.size _⟩
set_option maxHeartbeats 8000000 in
set_option maxRecDepth 100000 in
theorem fpart_two (k a b lo hi c0 c1 c2 c3 : Int) (s : ByteArray) (hk : k = 4 ∨ k = 5) (w : World) : Calls Tryz.prog 70 #[.agg #[.int .i64 k, .int .i64 a, .int .i64 b, .int .i64 lo, .int .i64 hi, .int .u64 c0, .int .u64 c1, .int .u64 c2, .int .u64 c3, .string s]] w (Ans w (.tuple #[.int .i64 a, .bool true])) := by
  have hone := as_two_one
  have htimes := as_two_times
  have htwo := as_two_two
  have TU := Lib.hid (fun w => turned_two k a b lo hi c0 c1 c2 c3 s hk w)
  clear hk
  go_enter Tryz.func70, Tryz.ntmps70
  go_wp2_with fail
  refine (TU.out _).mono ?_; rintro e w1 ⟨rfl, hb1⟩
  have HB1 := Lib.hid (((Below.refl w.heap.size w).alloc (Nat.le_refl _) (.cells #[.int .i64 k, .int .i64 a, .int .i64 b, .int .i64 lo, .int .i64 hi, .int .u64 c0, .int .u64 c1, .int .u64 c2, .int .u64 c3, .string s] 44)).trans (hb1.mono (by simp)))
  clear hb1 TU
  go_wp2
  go_ret2
  exact ⟨rfl, HB1.out.alloc HB1.out.size _⟩
set_option maxHeartbeats 8000000 in
set_option maxRecDepth 100000 in
theorem fpart_nil (k a b lo hi c0 c1 c2 c3 : Int) (s : ByteArray) (h4 : ¬ (4 ≤ k ∧ k ≤ 9)) (h1 : k ≠ 1) (h2 : k ≠ 2) (h3 : k ≠ 3) (w : World) : Calls Tryz.prog 70 #[.agg #[.int .i64 k, .int .i64 a, .int .i64 b, .int .i64 lo, .int .i64 hi, .int .u64 c0, .int .u64 c1, .int .u64 c2, .int .u64 c3, .string s]] w (Ans w (.tuple #[.int .i64 0, .bool false])) := by
  have hone := as_nil_one
  have htimes := as_nil_times
  have htwo := as_nil_two
  have TU := Lib.hid (fun w => turned_nil k a b lo hi c0 c1 c2 c3 s h4 h1 h2 h3 w)
  clear h4 h1 h2 h3
  go_enter Tryz.func70, Tryz.ntmps70
  go_wp2_with fail
  refine (TU.out _).mono ?_; rintro e w1 ⟨rfl, hb1⟩
  have HB1 := Lib.hid (((Below.refl w.heap.size w).alloc (Nat.le_refl _) (.cells #[.int .i64 k, .int .i64 a, .int .i64 b, .int .i64 lo, .int .i64 hi, .int .u64 c0, .int .u64 c1, .int .u64 c2, .int .u64 c3, .string s] 44)).trans (hb1.mono (by simp)))
  clear hb1 TU
  go_wp2
  go_ret2
  exact ⟨rfl, HB1.out⟩
theorem fpart_yes {n : Nd} (h : partK n.kind) (w : World) : Calls Tryz.prog 70 #[.agg (ndC n)] w (Ans w (.tuple #[.int .i64 n.a, .bool true])) := by
  obtain ⟨k, a, b, lo, hi, cls, text⟩ := n
  have h : 4 ≤ k ∧ k ≤ 9 := h
  by_cases c6 : k = 6 ∨ k = 8 ∨ k = 9
  · exact fpart_one k a b lo hi _ _ _ _ (bs text) c6 w
  by_cases c7 : k = 7
  · subst c7; exact fpart_times a b lo hi _ _ _ _ (bs text) w
  · exact fpart_two k a b lo hi _ _ _ _ (bs text) (by omega) w
theorem fpart_no {n : Nd} (h : ¬ partK n.kind) (w : World) : Calls Tryz.prog 70 #[.agg (ndC n)] w (Ans w (.tuple #[.int .i64 0, .bool false])) := by
  obtain ⟨k, a, b, lo, hi, cls, text⟩ := n
  have h : ¬ (4 ≤ k ∧ k ≤ 9) := h
  by_cases c1 : k = 1
  · subst c1; exact fpart_empty a b lo hi _ _ _ _ (bs text) w
  by_cases c2 : k = 2
  · subst c2; exact fpart_set a b lo hi _ _ _ _ (bs text) w
  by_cases c3 : k = 3
  · subst c3; exact fpart_text a b lo hi _ _ _ _ (bs text) w
  · exact fpart_nil k a b lo hi _ _ _ _ (bs text) h c1 c2 c3 w
/-- There is such a node. -/
theorem there_any (l : List Nd) (A : Option Addr) (c i : Nat) (hi : i < l.length) (w : World) : Calls Tryz.prog 69 #[.agg #[.slice A l.length c], .int .i64 (i : Int)] w (Ans w (.bool true)) := by
  have h1 : (i : Int) ≥ 0 := by omega
  have h2 : (i : Int) < (l.length : Int) := by omega
  go_enter Tryz.func69, Tryz.ntmps69
  go_wp2
  go_ret
  exact ⟨rfl, (Below.refl _ _).alloc (Nat.le_refl _) _⟩
theorem ahead_any (a : Int) (i : Nat) (hi : i < 1073741824) (w : World) : Calls Tryz.prog 68 #[.int .i64 a, .int .i64 (i : Int)] w (Ans w (.bool (decide (0 ≤ a ∧ a = (i : Int) - 1)))) := by
  obtain ⟨v, hv⟩ : ∃ v, decide (0 ≤ a ∧ a = (i : Int) - 1) = v := ⟨_, rfl⟩
  rw [hv]
  have HV := Lib.hid hv
  clear hv
  by_cases h0 : 0 ≤ a
  · have h1 : a ≥ 0 := h0
    cases hd : (a == (i : Int) - 1) with
    | true =>
      have HD : Hid (v = true) := by unfold Hid; rw [← HV.out, decide_eq_true_iff]; exact ⟨h0, by simpa using hd⟩
      go_enter Tryz.func68, Tryz.ntmps68
      go_wp2
      go_ret
      exact ⟨by rw [HD.out]; rfl, Below.refl _ _⟩
    | false =>
      have HD : Hid (v = false) := by unfold Hid; rw [← HV.out, decide_eq_false_iff_not]; rintro ⟨_, e⟩; simp [e] at hd
      go_enter Tryz.func68, Tryz.ntmps68
      go_wp2
      go_ret
      exact ⟨by rw [HD.out]; rfl, Below.refl _ _⟩
  · have h1 : ¬ a ≥ 0 := h0
    have HD : Hid (v = false) := by unfold Hid; rw [← HV.out, decide_eq_false_iff_not]; exact fun h => h0 h.1
    clear h0
    go_enter Tryz.func68, Tryz.ntmps68
    go_wp2
    go_ret
    exact ⟨by rw [HD.out]; rfl, Below.refl _ _⟩
structure FstS (w0 : World) (A : Option Addr) (l : List Nd) (c : Nat) (w : World) : Prop where
  bel : Below w0.heap.size w0 w
  row : NRow w A l
  box : Blk w w0.heap.size #[.slice A l.length c] 25
theorem FstS.later {w0 w w' : World} {A : Option Addr} {l : List Nd} {c : Nat} (h : FstS w0 A l c w) (hb : Below w.heap.size w w') : FstS w0 A l c w' :=
  ⟨h.bel.trans (hb.mono h.bel.size), h.row.later hb, h.box.later hb⟩
def FstL (w0 : World) (A : Option Addr) (l : List Nd) (c i0 : Nat) (i : Value) (w : World) : Prop := ∃ k : Nat, k < l.length ∧ i = .int .i64 (k : Int) ∧ firstP l k = firstP l i0 ∧ FstS w0 A l c w
set_option maxHeartbeats 8000000 in
set_option maxRecDepth 100000 in
theorem first_any (l : List Nd) (A : Option Addr) (c i : Nat) (hi : i < l.length) (w : World) (hrow : NRow w A l) : Calls Tryz.prog 45 #[.agg #[.slice A l.length c], .int .i64 (i : Int)] w (Ans w (.int .i64 (firstP l i : Int))) := by
  have HS0 : Hid (FstS w A l c (w.alloc (.cells #[.slice A l.length c] 25))) := ⟨(Below.refl _ _).alloc (Nat.le_refl _) _, hrow.later ((Below.refl _ _).alloc (Nat.le_refl _) _), Blk.new _ _ _⟩
  clear hrow
  go_enter Tryz.func45, Tryz.ntmps45
  go_upto_region 1 with (fail)
  generalize w.alloc (.cells #[.slice A l.length c] 25) = w1 at *
  have e0 := HS0.out.box.cell 0
  simp at e0
  go_wp2_with fail
  refine (there_any l A c i hi _).mono ?_; rintro e w2 ⟨rfl, hb2⟩
  have HS2 := Lib.hid (HS0.out.later hb2)
  clear hb2 e0 HS0
  go_wp2
  go_loopw [1] (FstL w A l c i) (fun i _ => (intOf i).toNat)
  case atStart => exact ⟨i, hi, rfl, rfl, HS2.out⟩
  case round =>
    obtain ⟨k, hk, rfl, hf, hs⟩ := hrel
    have HS := Lib.hid hs
    have HF := Lib.hid hf
    obtain ⟨ba, oa, rfl, -, -⟩ := hs.row k hk
    have g : At10 wr ba (oa + k * 10) (l.getD k nd0) := hs.row.at hk rfl
    have e0 := hs.box.cell 0
    simp at e0
    have hkz : (k : Int) < (l.length : Int) := by omega
    have hat : atN l k = l.getD k nd0 := rfl
    have HGO : Hid (partK (l.getD k nd0).kind → 0 ≤ (l.getD k nd0).a → (l.getD k nd0).a < (k : Int) → firstP l (l.getD k nd0).a.toNat = firstP l i) := fun h1 h2 h3 => by rw [← hf]; exact (firstP_go h1 h2 h3).symm
    have HST : Hid (¬ (partK (l.getD k nd0).kind ∧ 0 ≤ (l.getD k nd0).a ∧ (l.getD k nd0).a < (k : Int)) → (firstP l i : Int) = (k : Int)) := fun h => by rw [← hf, firstP_stop h]
    clear hs hf hat
    generalize l.getD k nd0 = n at *
    unfold At10 at g
    obtain ⟨g0, g1, g2, g3, g4, g5, g6, g7, g8, g9⟩ := g
    by_cases hp : partK n.kind
    · have HP := Lib.hid hp
      go_wp2_with fail
      refine (fpart_yes HP.out _).mono ?_; rintro e w3 ⟨rfl, hb3⟩
      have HS3 := Lib.hid (HS.out.later hb3)
      clear hb3 g0 g1 g2 g3 g4 g5 g6 g7 g8 g9 e0 hp
      generalize n.a = x at *
      by_cases h0 : x < 0
      · have hx : (firstP l i : Int) = (k : Int) := HST.out (fun h => by have := h.2.1; omega)
        have HX := Lib.hid hx
        clear hx
        go_wp2
        go_ret
        exact ⟨by rw [HX.out]; rfl, HS3.out.bel⟩
      · by_cases h1 : x ≥ (k : Int)
        · have hx : (firstP l i : Int) = (k : Int) := HST.out (fun h => by have := h.2.2; omega)
          have HX := Lib.hid hx
          clear hx
          go_wp2
          go_ret
          exact ⟨by rw [HX.out]; rfl, HS3.out.bel⟩
        · have hx := HGO.out HP.out (by omega) (by omega)
          obtain ⟨j, rfl⟩ : ∃ j : Nat, x = (j : Int) := ⟨x.toNat, by omega⟩
          rw [Int.toNat_natCast] at hx
          have HX := Lib.hid hx
          clear hx
          go_wp2
          go_roundw
          case rel => exact ⟨j, by omega, by first | rfl | go_num, HX.out, HS3.out⟩
          case measure => simp [intOf]; omega
    · have HP := Lib.hid hp
      have HX : Hid ((firstP l i : Int) = (k : Int)) := HST.out (fun h => HP.out h.1)
      go_wp2_with fail
      refine (fpart_no HP.out _).mono ?_; rintro e w3 ⟨rfl, hb3⟩
      have HS3 := Lib.hid (HS.out.later hb3)
      clear hb3 g0 g1 g2 g3 g4 g5 g6 g7 g8 g9 e0 hp
      go_wp2
      go_ret
      exact ⟨by rw [HX.out]; rfl, HS3.out.bel⟩
end Go.Proofs.YtcgjmnhmhiddkaaGreatDoor
/- A node's form: walked. -/
namespace Go.Proofs.YtcgjmnhmhiddkaaGreatDoor
open Go Go.RowKit
set_option linter.unusedVariables false
set_option linter.unusedSimpArgs false

theorem zcls : wd 0#256 0 = 0 ∧ wd 0#256 1 = 0 ∧ wd 0#256 2 = 0 ∧ wd 0#256 3 = 0 := by decide
theorem ndC_zero (k a b lo hi : Int) (t : List UInt8) : ndC ⟨k, a, b, lo, hi, 0#256, t⟩ = #[.int .i64 k, .int .i64 a, .int .i64 b, .int .i64 lo, .int .i64 hi, .int .u64 0, .int .u64 0, .int .u64 0, .int .u64 0, .string (bs t)] := by
  obtain ⟨z0, z1, z2, z3⟩ := zcls
  unfold ndC; simp only [z0, z1, z2, z3]; rfl
theorem bs_nil : bs [] = ⟨#[]⟩ := rfl
theorem back_any (n : Nd) (w : World) : Calls Tryz.prog 65 #[anyV n.kind n.a n.b n.lo n.hi (wd n.cls 0) (wd n.cls 1) (wd n.cls 2) (wd n.cls 3) (bs n.text)] w (Ans w (.agg (ndC (backN n)))) := by
  obtain ⟨k, a, b, lo, hi, cls, text⟩ := n
  unfold anyV backN
  simp only
  by_cases c1 : k = 1
  · rw [if_pos c1, if_pos c1, ndC_zero, bs_nil]; exact back_empty w
  rw [if_neg c1, if_neg c1]
  by_cases c2 : k = 2
  · rw [if_pos c2, if_pos c2]; exact back_set _ _ _ _ w
  rw [if_neg c2, if_neg c2]
  by_cases c3 : k = 3
  · rw [if_pos c3, if_pos c3, ndC_zero]; exact back_text _ w
  rw [if_neg c3, if_neg c3]
  by_cases c6 : k = 6 ∨ k = 8 ∨ k = 9
  · rw [if_pos c6, if_pos c6, ndC_zero, bs_nil]; exact back_one _ _ w
  rw [if_neg c6, if_neg c6]
  by_cases c7 : k = 7
  · rw [if_pos c7, if_pos c7, ndC_zero, bs_nil]; exact back_times _ _ _ w
  rw [if_neg c7, if_neg c7]
  by_cases c4 : k = 4 ∨ k = 5
  · rw [if_pos c4, if_pos c4, ndC_zero, bs_nil]; exact back_two _ _ _ w
  · rw [if_neg c4, if_neg c4]; unfold nd0; rw [ndC_zero, bs_nil]; exact back_nil w
theorem contains_any (s : List UInt8) (c : UInt8) (w : World) : Calls Tryz.prog 67 #[.string (bs s), .string ⟨#[c]⟩] w (Ans w (.bool (decide (c ∈ s)))) := by
  have hi : decide (0 ≤ Lib.indexByte (bs s).data.toList c) = decide (c ∈ s) := by
    rw [bs_data, Bool.eq_iff_iff, decide_eq_true_iff, decide_eq_true_iff]
    cases hc : cutAt c s with
    | none => rw [idx_miss hc]; exact ⟨fun h => by omega, fun h => absurd h (cutAt_none.1 hc)⟩
    | some p =>
      obtain ⟨a, b⟩ := p
      rw [idx_hit hc]
      exact ⟨fun _ => by rw [(cutAt_some hc).1]; simp, fun _ => by omega⟩
  obtain ⟨v, hv⟩ : ∃ v, decide (c ∈ s) = v := ⟨_, rfl⟩
  rw [hv] at hi ⊢
  obtain ⟨x, hx⟩ : ∃ x, Lib.indexByte (bs s).data.toList c = x := ⟨_, rfl⟩
  have HI := Lib.hid (hx ▸ index1_any (bs s) c)
  rw [hx] at hi
  clear hx
  have HD := Lib.hid hi
  clear hi hv
  go_enter Tryz.func67, Tryz.ntmps67
  go_wp2_with (refine (HI.out _).mono ?_; rintro e w' ⟨rfl, rfl⟩)
  go_ret
  exact ⟨by rw [← HD.out]; rfl, Below.refl _ _⟩
section
variable {l : List Nd} {i : Nat} {n : Nd} (hn : atN l i = n)
include hn
theorem fmd_differs (h : backN n ≠ n) : fmd l i = false := by unfold fmd; rw [hn, decide_eq_false_iff_not]; exact fun ho => h ho.1
theorem fmd_plain (h : backN n = n) (hk : n.kind = 1 ∨ n.kind = 2) : fmd l i = true := by
  unfold fmd; rw [hn, decide_eq_true_iff]; exact ⟨h, by rcases hk with h | h <;> simp [h]⟩
theorem fmd_text (h : backN n = n) (hk : n.kind = 3) : fmd l i = textOk n.text := by
  unfold fmd; rw [hn, Bool.eq_iff_iff, decide_eq_true_iff]
  constructor
  · rintro ⟨_, ho⟩
    rcases ho with ho | ho | ⟨_, ho⟩ | ⟨ho, _⟩ | ⟨ho, _⟩ | ⟨ho, _⟩
    · omega
    · omega
    · exact ho
    · omega
    · omega
    · omega
  · exact fun ht => ⟨h, .inr (.inr (.inl ⟨hk, ht⟩))⟩
theorem fmd_one (h : backN n = n) (hk : n.kind = 6 ∨ n.kind = 8 ∨ n.kind = 9) : fmd l i = decide (0 ≤ n.a ∧ n.a = (i : Int) - 1) := by
  unfold fmd; rw [hn, Bool.eq_iff_iff, decide_eq_true_iff, decide_eq_true_iff]
  constructor
  · rintro ⟨_, ho⟩
    rcases ho with ho | ho | ⟨ho, _⟩ | ⟨_, ho⟩ | ⟨ho, _⟩ | ⟨ho, _⟩
    · omega
    · omega
    · omega
    · exact ho
    · omega
    · omega
  · exact fun ht => ⟨h, .inr (.inr (.inr (.inl ⟨hk, ht⟩)))⟩
theorem fmd_rep (h : backN n = n) (hk : n.kind = 7) : fmd l i = decide ((0 ≤ n.a ∧ n.a = (i : Int) - 1) ∧ 0 ≤ n.lo ∧ n.lo ≤ n.hi ∧ n.hi ≤ 255) := by
  unfold fmd; rw [hn, Bool.eq_iff_iff, decide_eq_true_iff, decide_eq_true_iff]
  constructor
  · rintro ⟨_, ho⟩
    rcases ho with ho | ho | ⟨ho, _⟩ | ⟨ho, _⟩ | ⟨_, ho⟩ | ⟨ho, _⟩
    · omega
    · omega
    · omega
    · omega
    · exact ho
    · omega
  · exact fun ht => ⟨h, .inr (.inr (.inr (.inr (.inl ⟨hk, ht⟩))))⟩
theorem fmd_two (h : backN n = n) (hk : n.kind = 4 ∨ n.kind = 5) : fmd l i = decide ((0 ≤ n.b ∧ n.b = (i : Int) - 1) ∧ 0 ≤ n.a ∧ n.a = (firstP l n.b.toNat : Int) - 1) := by
  unfold fmd; rw [hn, Bool.eq_iff_iff, decide_eq_true_iff, decide_eq_true_iff]
  constructor
  · rintro ⟨_, ho⟩
    rcases ho with ho | ho | ⟨ho, _⟩ | ⟨ho, _⟩ | ⟨ho, _⟩ | ⟨_, ho⟩
    · omega
    · omega
    · omega
    · omega
    · omega
    · exact ho
  · exact fun ht => ⟨h, .inr (.inr (.inr (.inr (.inr ⟨hk, ht⟩))))⟩
theorem fmd_none (h1 : n.kind ≠ 1) (h2 : n.kind ≠ 2) (h3 : n.kind ≠ 3) (h4 : ¬ (4 ≤ n.kind ∧ n.kind ≤ 9)) : fmd l i = false := by
  unfold fmd; rw [hn, decide_eq_false_iff_not]; rintro ⟨_, ho⟩; omega
end
structure FmS (w0 : World) (A : Option Addr) (l : List Nd) (c : Nat) (w : World) : Prop where
  fst : FstS w0 A l c w
  u8 : U8T w
theorem FmS.later {w0 w w' : World} {A : Option Addr} {l : List Nd} {c : Nat} (h : FmS w0 A l c w) (hb : Below w.heap.size w w') : FmS w0 A l c w' := ⟨h.fst.later hb, h.u8.later hb⟩
structure FmB (w0 : World) (A : Option Addr) (l : List Nd) (c bx : Nat) (vs : Array Value) (t : TypeId) (w : World) : Prop where
  s : FmS w0 A l c w
  box : Blk w bx vs t
theorem FmB.later {w0 w w' : World} {A : Option Addr} {l : List Nd} {c bx : Nat} {vs : Array Value} {t : TypeId} (h : FmB w0 A l c bx vs t w) (hb : Below w.heap.size w w') : FmB w0 A l c bx vs t w' := ⟨h.s.later hb, h.box.later hb⟩
set_option maxHeartbeats 16000000 in
set_option maxRecDepth 1000000 in
theorem formed_any (l : List Nd) (A : Option Addr) (c i : Nat) (hi : i < l.length) (hlen : l.length ≤ 1073741824) (htx : ∀ n ∈ l, n.text.length ≤ 281474976710656) (w : World) (hrow : NRow w A l) (hT : U8T w) :
    Calls Tryz.prog 44 #[.agg #[.slice A l.length c], .int .i64 (i : Int)] w (Ans w (.bool (fmd l i))) := by
  have HB := (Below.refl w.heap.size w).alloc (Nat.le_refl _) (.cells #[.slice A l.length c] 25)
  have HS0 : Hid (FmS w A l c (w.alloc (.cells #[.slice A l.length c] 25))) := ⟨⟨HB, hrow.later HB, Blk.new _ _ _⟩, hT.later HB⟩
  have htx2 := htx (l.getD i nd0) (by rw [List.getD_eq_getElem?_getD, List.getElem?_eq_getElem hi]; exact List.getElem_mem _)
  have HTX := Lib.hid htx2
  obtain ⟨ba, oa, rfl, -, -⟩ := hrow i hi
  clear hrow hT HB htx htx2
  go_enter Tryz.func44, Tryz.ntmps44
  go_upto_region 1 with (fail)
  generalize w.alloc (.cells #[.slice (some ⟨ba, oa, none⟩) l.length c] 25) = w1 at *
  have e0 := HS0.out.fst.box.cell 0
  simp at e0
  have hiz : (i : Int) < (l.length : Int) := by omega
  have FX := Lib.hid (fun (w' : World) (h : NRow w' (some ⟨ba, oa, none⟩) l) => h.at hi rfl)
  have hat : Hid (atN l i = l.getD i nd0) := rfl
  have g := FX.out _ HS0.out.fst.row
  generalize l.getD i nd0 = n at *
  unfold At10 at g
  obtain ⟨g0, g1, g2, g3, g4, g5, g6, g7, g8, g9⟩ := g
  obtain ⟨V, hV⟩ : ∃ V, V = anyV n.kind n.a n.b n.lo n.hi (wd n.cls 0) (wd n.cls 1) (wd n.cls 2) (wd n.cls 3) (bs n.text) := ⟨_, rfl⟩
  have TU : Hid (∀ w, Calls Tryz.prog 64 #[.agg (ndC n)] w (Ans w V)) := fun w => by rw [hV]; exact turned_raw _ _ _ _ _ _ _ _ _ _ w
  have BK : Hid (∀ w, Calls Tryz.prog 65 #[V] w (Ans w (.agg (ndC (backN n))))) := fun w => by rw [hV]; exact back_any n w
  have HV := Lib.hid hV
  clear hV
  go_wp2_with fail
  refine (TU.out _).mono ?_; rintro e w2 ⟨rfl, hb2⟩
  have HS2 := Lib.hid (HS0.out.later hb2)
  clear hb2 e0 g0 g1 g2 g3 g4 g5 g6 g7 g8 g9
  go_upto_region 2 with (fail)
  have HX : Hid (∃ x, x = backN n) := ⟨_, rfl⟩
  obtain ⟨x, hx⟩ := HX.out
  rw [← hx] at BK
  have HXE := Lib.hid hx
  clear hx HX
  refine wp_region_stable (S := (FmS w (some ⟨ba, oa, none⟩) l c)) (hSt := fun _ _ h hb => h.later hb) (plan := [[(5, none)], [(17, some 0)], [(2, none)], [(19, some 2)], [(1, none)], [(20, some 3), (21, some 4)], [(22, some 5)], [(18, some 1), (23, some 6)]]) (by kernel_rfl) (by kernel_rfl) (by kernel_rfl) ?hS ?_
  rotate_left
  iterate 8 first
    | (refine chain_skip (by rfl) (by rfl) ?_)
    | (apply chain_want (by rfl)
       · intro act wx hS hr
         simp at hr
         have g := FX.out _ hS.fst.row
         have e0 := hS.fst.box.cell 0
         simp at e0
         have hq := fun w => neq_nd x n w
         have hg := fun o1 o2 w => eqGuard_neq_nd o1 o2 x n w
         unfold At10 at g
         go_simp
         (try go_ints)
         first
           | exact Done.same (v := .agg (ndC n))
           | ((with_reducible refine (BK.out _).mono ?_); rintro e w' ⟨rfl, hb⟩; exact Done.mk hb)
           | exact Done.same
      )
  show ∀ w', _ → _
  intro wz hz
  simp [Act.put]
  case hS => exact HS2.out
  have HZ := Lib.hid hz
  clear hz
  by_cases hxn : x = n
  · have hd : decide (x = n) = true := decide_eq_true hxn
    rw [hd]
    have HE : Hid (backN n = n) := by unfold Hid; rw [← HXE.out, hxn]
    clear hd hxn
    obtain ⟨k, a, b, lo, hi', cls, text⟩ := n
    simp only at HV HTX
    by_cases c1 : k = 1
    · subst c1
      have hV : V = .iface 122 (.agg #[]) := by rw [HV.out]; unfold anyV; simp
      clear HV
      subst hV
      have HR := Lib.hid (fmd_plain hat.out HE.out (.inl rfl))
      clear hat
      have q1 := as_empty_empty
      have q2 := as_empty_set
      go_wp2
      go_ret
      exact ⟨by rw [HR.out]; rfl, HZ.out.fst.bel⟩
    by_cases c2 : k = 2
    · subst c2
      have hV : V = .iface 124 (.agg #[.int .u64 (wd cls 0), .int .u64 (wd cls 1), .int .u64 (wd cls 2), .int .u64 (wd cls 3)]) := by rw [HV.out]; unfold anyV; simp
      clear HV
      subst hV
      have HR := Lib.hid (fmd_plain hat.out HE.out (.inr rfl))
      clear hat
      have q1 := as_set_empty
      have q2 := as_set_set
      go_wp2
      go_ret
      exact ⟨by rw [HR.out]; rfl, HZ.out.fst.bel⟩
    by_cases c3 : k = 3
    · subst c3
      have hV : V = .iface 126 (.agg #[.string (bs text)]) := by rw [HV.out]; unfold anyV; simp
      clear HV
      subst hV
      have HR := Lib.hid (fmd_text hat.out HE.out rfl)
      clear hat
      have q1 := as_text_empty
      have q2 := as_text_set
      have q3 := as_text_text
      go_upto_region 10 with (fail)
      have hb4 := (Below.refl wz.heap.size wz).alloc (Nat.le_refl _) (.cells #[.string (bs text)] 126)
      have HI := Lib.hid (Blk.new wz #[.string (bs text)] 126)
      have HZ4 := Lib.hid (HZ.out.later hb4)
      clear hb4
      generalize wz.alloc (.cells #[.string (bs text)] 126) = w4 at *
      generalize wz.heap.size = bx at *
      have i0 := HI.out.cell 0
      simp at i0
      by_cases ht : text = []
      · subst ht
        have HRR : Hid (fmd l i = false) := by unfold Hid; rw [HR.out]; rfl
        rw [bs_nil] at i0 ⊢
        go_wp2
        go_ret
        exact ⟨by rw [HRR.out]; rfl, HZ4.out.fst.bel⟩
      · have ht1 : ¬ (bs text).toList = [] := by rw [Lib.toList_data, bs_data]; exact ht
        have ht2 : (!(bs text).toList.isEmpty) = true := by rw [Lib.toList_data, bs_data]; cases text with | nil => exact absurd rfl ht | cons a l => rfl
        have HU : Hid (∀ w, U8T w → Calls Tryz.prog 66 #[.string (bs text)] w (Ans w (.bool (utf8L text)))) := fun w h => by have := utf8_any (bs text) w (by rw [bs_size]; have := HTX.out; omega) h; rwa [bs_data] at this
        have HC := Lib.hid (fun w => contains_any text 34 w)
        cases hu : utf8L text with
        | false =>
          have HRR : Hid (fmd l i = false) := by unfold Hid; rw [HR.out]; unfold textOk; rw [hu]; simp
          rw [hu] at HU
          clear ht hu
          go_wp2_with (refine (HU.out _ HZ4.out.u8).mono ?_; rintro e w5 ⟨rfl, hb5⟩; have HZ5 := Lib.hid (HZ4.out.later hb5); clear hb5 i0)
          go_ret
          exact ⟨by rw [HRR.out]; rfl, HZ5.out.fst.bel⟩
        | true =>
          have HRR : Hid (fmd l i = !decide ((34 : UInt8) ∈ text)) := by unfold Hid; rw [HR.out]; unfold textOk; rw [hu]; simp [ht]
          rw [hu] at HU
          generalize decide ((34 : UInt8) ∈ text) = q at *
          clear ht hu
          go_wp2_with fail
          refine (HU.out _ HZ4.out.u8).mono ?_; rintro e w5 ⟨rfl, hb5⟩
          have HZ5 := Lib.hid (HZ4.out.later hb5)
          have i1 := (HI.out.later hb5).cell 0
          simp at i1
          clear hb5 i0
          go_wp2_with fail
          refine (HC.out _).mono ?_; rintro e w6 ⟨rfl, hb6⟩
          have HZ6 := Lib.hid (HZ5.out.later hb6)
          clear hb6 i1
          go_wp2
          go_ret
          exact ⟨by rw [HRR.out]; rfl, HZ6.out.fst.bel⟩
    by_cases c6 : k = 6 ∨ k = 8 ∨ k = 9
    · have hV : V = .iface 128 (.agg #[.int .i64 k, .int .i64 a]) := by rw [HV.out]; unfold anyV; rw [if_neg c1, if_neg c2, if_neg c3, if_pos c6]
      clear HV
      subst hV
      have HR := Lib.hid (fmd_one hat.out HE.out c6)
      have HA := Lib.hid (fun w => ahead_any a i (by omega) w)
      generalize decide (0 ≤ a ∧ a = (i : Int) - 1) = q at *
      clear hat c1 c2 c3 c6
      have q1 := as_one_empty
      have q2 := as_one_set
      have q3 := as_one_text
      have q4 := as_one_one
      go_upto_region 13 with (fail)
      have hb4 := (Below.refl wz.heap.size wz).alloc (Nat.le_refl _) (.cells #[.int .i64 k, .int .i64 a] 128)
      have HI := Lib.hid (Blk.new wz #[.int .i64 k, .int .i64 a] 128)
      have HZ4 := Lib.hid (HZ.out.later hb4)
      clear hb4
      generalize wz.alloc (.cells #[.int .i64 k, .int .i64 a] 128) = w4 at *
      generalize wz.heap.size = bx at *
      have i1 := HI.out.cell 1
      simp at i1
      go_wp2_with fail
      refine (HA.out _).mono ?_; rintro e w5 ⟨rfl, hb5⟩
      have HZ5 := Lib.hid (HZ4.out.later hb5)
      clear hb5 i1
      go_wp2
      go_ret
      exact ⟨by rw [HR.out]; rfl, HZ5.out.fst.bel⟩
    by_cases c7 : k = 7
    · subst c7
      have hV : V = .iface 131 (.agg #[.int .i64 a, .int .i64 lo, .int .i64 hi']) := by rw [HV.out]; unfold anyV; simp
      clear HV
      subst hV
      have HR := Lib.hid (fmd_rep hat.out HE.out rfl)
      have HA := Lib.hid (fun w => ahead_any a i (by omega) w)
      clear hat c1 c2 c3 c6
      have q1 := as_times_empty
      have q2 := as_times_set
      have q3 := as_times_text
      have q4 := as_times_one
      have q5 := as_times_times
      go_upto_region 16 with (fail)
      have hb4 := (Below.refl wz.heap.size wz).alloc (Nat.le_refl _) (.cells #[.int .i64 a, .int .i64 lo, .int .i64 hi'] 131)
      have HI := Lib.hid (Blk.new wz #[.int .i64 a, .int .i64 lo, .int .i64 hi'] 131)
      have HZ4 := Lib.hid (HZ.out.later hb4)
      clear hb4
      generalize wz.alloc (.cells #[.int .i64 a, .int .i64 lo, .int .i64 hi'] 131) = w4 at *
      generalize wz.heap.size = bx at *
      have i0 := HI.out.cell 0
      simp at i0
      by_cases hA : 0 ≤ a ∧ a = (i : Int) - 1
      · rw [decide_eq_true hA] at HA
        have HAA := Lib.hid hA
        clear hA
        go_wp2_with fail
        refine (HA.out _).mono ?_; rintro e w5 ⟨rfl, hb5⟩
        have HZ5 := Lib.hid (HZ4.out.later hb5)
        have i1 := (HI.out.later hb5).cell 1
        have i2 := (HI.out.later hb5).cell 2
        simp at i1 i2
        clear hb5 i0
        by_cases h0 : 0 ≤ lo
        · by_cases h1 : lo ≤ hi'
          · have HRR : Hid (fmd l i = decide (hi' ≤ 255)) := by
              unfold Hid; rw [HR.out, Bool.eq_iff_iff, decide_eq_true_iff, decide_eq_true_iff]
              exact ⟨fun h => h.2.2.2, fun h => ⟨HAA.out, h0, h1, h⟩⟩
            go_wp2
            go_ret
            exact ⟨by rw [HRR.out]; rfl, HZ5.out.fst.bel⟩
          · have HRR : Hid (fmd l i = false) := by unfold Hid; rw [HR.out, decide_eq_false_iff_not]; exact fun h => h1 h.2.2.1
            go_wp2
            go_ret
            exact ⟨by rw [HRR.out]; rfl, HZ5.out.fst.bel⟩
        · have HRR : Hid (fmd l i = false) := by unfold Hid; rw [HR.out, decide_eq_false_iff_not]; exact fun h => h0 h.2.1
          go_wp2
          go_ret
          exact ⟨by rw [HRR.out]; rfl, HZ5.out.fst.bel⟩
      · rw [decide_eq_false hA] at HA
        have HRR : Hid (fmd l i = false) := by unfold Hid; rw [HR.out, decide_eq_false_iff_not]; exact fun h => hA h.1
        clear hA
        go_wp2_with fail
        refine (HA.out _).mono ?_; rintro e w5 ⟨rfl, hb5⟩
        have HZ5 := Lib.hid (HZ4.out.later hb5)
        clear hb5 i0
        go_wp2
        go_ret
        exact ⟨by rw [HRR.out]; rfl, HZ5.out.fst.bel⟩
    by_cases c4 : k = 4 ∨ k = 5
    · have hV : V = .iface 133 (.agg #[.int .i64 k, .int .i64 a, .int .i64 b]) := by rw [HV.out]; unfold anyV; rw [if_neg c1, if_neg c2, if_neg c3, if_neg c6, if_neg c7, if_pos c4]
      clear HV
      subst hV
      have HR := Lib.hid (fmd_two hat.out HE.out c4)
      have HA := Lib.hid (fun w => ahead_any b i (by omega) w)
      clear hat c1 c2 c3 c6 c7 c4
      have q1 := as_two_empty
      have q2 := as_two_set
      have q3 := as_two_text
      have q4 := as_two_one
      have q5 := as_two_times
      have q6 := as_two_two
      go_upto_region 19 with (fail)
      have hb4 := (Below.refl wz.heap.size wz).alloc (Nat.le_refl _) (.cells #[.int .i64 k, .int .i64 a, .int .i64 b] 133)
      have HI : Hid (FmB w (some ⟨ba, oa, none⟩) l c wz.heap.size #[.int .i64 k, .int .i64 a, .int .i64 b] 133 (wz.alloc (.cells #[.int .i64 k, .int .i64 a, .int .i64 b] 133))) := ⟨HZ.out.later hb4, Blk.new wz #[.int .i64 k, .int .i64 a, .int .i64 b] 133⟩
      clear hb4
      generalize wz.alloc (.cells #[.int .i64 k, .int .i64 a, .int .i64 b] 133) = w4 at *
      generalize wz.heap.size = bx at *
      by_cases hA : 0 ≤ b ∧ b = (i : Int) - 1
      · rw [decide_eq_true hA] at HA
        obtain ⟨j, rfl⟩ : ∃ j : Nat, b = (j : Int) := ⟨b.toNat, by omega⟩
        have hji : j < l.length := by omega
        have HAA := Lib.hid hA
        clear hA
        have HF : Hid (∀ w', NRow w' (some ⟨ba, oa, none⟩) l → Calls Tryz.prog 45 #[.agg #[.slice (some ⟨ba, oa, none⟩) l.length c], .int .i64 (j : Int)] w' (Ans w' (.int .i64 (firstP l j : Int)))) := fun w' h => first_any l _ c j hji w' h
        have hfl := firstP_le l j
        have HG := Lib.hid (fun w => ahead_any a (firstP l j) (by omega) w)
        have HRR : Hid (fmd l i = decide (0 ≤ a ∧ a = (firstP l j : Int) - 1)) := by
          unfold Hid; rw [HR.out, Bool.eq_iff_iff, decide_eq_true_iff, decide_eq_true_iff]
          simp only [Int.toNat_natCast]
          exact ⟨fun h => h.2, fun h => ⟨HAA.out, h⟩⟩
        generalize decide (0 ≤ a ∧ a = (firstP l j : Int) - 1) = q at *
        generalize firstP l j = f at *
        clear hji
        refine wp_region_stable (S := (FmB w (some ⟨ba, oa, none⟩) l c bx #[.int .i64 k, .int .i64 a, .int .i64 (j : Int)] 133)) (hSt := fun _ _ h hb => h.later hb) (plan := [[(10, none)], [(84, some 0)], [(1, none)], [(85, some 1), (86, some 2)], [(87, some 3)], [(10, none)], [(89, some 5)], [(2, none)], [(10, none)], [(92, some 8)], [(91, some 7), (93, some 9)], [(90, some 6), (94, some 10)], [(88, some 4), (95, some 11)], [(96, some 12)]]) (by kernel_rfl) (by kernel_rfl) (by kernel_rfl) ?hS ?_
        rotate_left
        iterate 14 first
          | (refine chain_skip (by rfl) (by rfl) ?_)
          | (apply chain_want (by rfl)
             · intro act wx hS hr
               simp at hr
               have e0 := hS.s.fst.box.cell 0
               have i1 := hS.box.cell 1
               have i2 := hS.box.cell 2
               simp at e0 i1 i2
               go_simp
               (try go_ints)
               first
                 | ((with_reducible refine (HF.out _ hS.s.fst.row).mono ?_); rintro e w' ⟨rfl, hb⟩; exact Done.mk hb)
                 | ((with_reducible refine (HA.out _).mono ?_); rintro e w' ⟨rfl, hb⟩; exact Done.mk hb)
                 | ((with_reducible refine (HG.out _).mono ?_); rintro e w' ⟨rfl, hb⟩; exact Done.mk hb)
                 | exact Done.same
            )
        show ∀ w', _ → _
        intro wy hy
        simp [Act.put]
        case hS => exact HI.out
        have HY := Lib.hid hy
        clear hy
        go_wp2
        go_ret
        exact ⟨by rw [HRR.out]; rfl, HY.out.s.fst.bel⟩
      · rw [decide_eq_false hA] at HA
        have HRR : Hid (fmd l i = false) := by unfold Hid; rw [HR.out, decide_eq_false_iff_not]; exact fun h => hA h.1
        clear hA
        refine wp_region_stable (S := (FmB w (some ⟨ba, oa, none⟩) l c bx #[.int .i64 k, .int .i64 a, .int .i64 b] 133)) (hSt := fun _ _ h hb => h.later hb) (plan := [[(10, none)], [(84, some 0)], [(1, none)], [(85, some 1), (86, some 2)], [(87, some 3)], [(10, none)], [(89, some 5)], [(2, none)], [(10, none)], [(92, some 8)], [(91, some 7), (93, some 9)], [(90, some 6), (94, some 10)], [(88, some 4), (95, some 11)], [(96, some 12)]]) (by kernel_rfl) (by kernel_rfl) (by kernel_rfl) ?hS ?_
        rotate_left
        iterate 14 first
          | (refine chain_skip (by rfl) (by rfl) ?_)
          | (apply chain_want (by rfl)
             · intro act wx hS hr
               simp at hr
               have e0 := hS.s.fst.box.cell 0
               have i1 := hS.box.cell 1
               have i2 := hS.box.cell 2
               simp at e0 i1 i2
               go_simp
               (try go_ints)
               first
                 | ((with_reducible refine (HA.out _).mono ?_); rintro e w' ⟨rfl, hb⟩; exact Done.mk hb)
                 | exact Done.same
            )
        show ∀ w', _ → _
        intro wy hy
        simp [Act.put]
        case hS => exact HI.out
        have HY := Lib.hid hy
        clear hy
        go_wp2
        go_ret
        exact ⟨by rw [HRR.out]; rfl, HY.out.s.fst.bel⟩
    · have hV : V = .nilIface := by rw [HV.out]; unfold anyV; rw [if_neg c1, if_neg c2, if_neg c3, if_neg c6, if_neg c7, if_neg c4]
      clear HV
      subst hV
      have HR := Lib.hid (fmd_none hat.out c1 c2 c3 (by simp only; omega))
      clear hat c1 c2 c3 c6 c7 c4
      have q1 := as_nil_empty
      have q2 := as_nil_set
      have q3 := as_nil_text
      have q4 := as_nil_one
      have q5 := as_nil_times
      have q6 := as_nil_two
      go_wp2
      go_ret
      exact ⟨by rw [HR.out]; rfl, HZ.out.fst.bel⟩
  · have hd : decide (x = n) = false := decide_eq_false hxn
    rw [hd]
    have HR := Lib.hid (fmd_differs hat.out (fun h => hxn (by rw [HXE.out, h])))
    clear hd hxn hat
    go_wp2
    go_ret
    exact ⟨by rw [HR.out]; rfl, HZ.out.fst.bel⟩
end Go.Proofs.YtcgjmnhmhiddkaaGreatDoor
