/- A node's form: walked. -/
import Derived.Test.YtgehepiphdphjaaDoorNodeFp
import Derived.Test.YtgehepiphdphjaaDoorStable
namespace Go.Proofs.YtgehepiphdphjaaDoor
open Go Go.RowKit
set_option linter.unusedVariables false
set_option linter.unusedSimpArgs false

theorem zcls : wd 0#256 0 = 0 ∧ wd 0#256 1 = 0 ∧ wd 0#256 2 = 0 ∧ wd 0#256 3 = 0 := by decide
theorem ndC_zero (k a b lo hi : Int) (t : List UInt8) : ndC ⟨k, a, b, lo, hi, 0#256, t⟩ = #[.int .i64 k, .int .i64 a, .int .i64 b, .int .i64 lo, .int .i64 hi, .int .u64 0, .int .u64 0, .int .u64 0, .int .u64 0, .string (bs t)] := by
  obtain ⟨z0, z1, z2, z3⟩ := zcls
  unfold ndC; simp only [z0, z1, z2, z3]; rfl
theorem bs_nil : bs [] = ⟨#[]⟩ := rfl
theorem back_any (n : Nd) (w : World) : Calls Tryd.prog 79 #[anyV n.kind n.a n.b n.lo n.hi (wd n.cls 0) (wd n.cls 1) (wd n.cls 2) (wd n.cls 3) (bs n.text)] w (Ans w (.agg (ndC (backN n)))) := by
  obtain ⟨k, a, b, lo, hi, cls, text⟩ := n
  unfold anyV backN
  simp only
  by_cases c1 : k = 1
  · rw [if_pos c1, if_pos c1, ndC_zero, bs_nil]; exact back_empty w
  rw [if_neg c1, if_neg c1]
  by_cases c2 : k = 2
  · rw [if_pos c2, if_pos c2]; exact back_set _ _ _ _ w
  rw [if_neg c2, if_neg c2]
  by_cases c3 : k = 3
  · rw [if_pos c3, if_pos c3, ndC_zero]; exact back_text _ w
  rw [if_neg c3, if_neg c3]
  by_cases c6 : k = 6 ∨ k = 8 ∨ k = 9
  · rw [if_pos c6, if_pos c6, ndC_zero, bs_nil]; exact back_one _ _ w
  rw [if_neg c6, if_neg c6]
  by_cases c7 : k = 7
  · rw [if_pos c7, if_pos c7, ndC_zero, bs_nil]; exact back_times _ _ _ w
  rw [if_neg c7, if_neg c7]
  by_cases c4 : k = 4 ∨ k = 5
  · rw [if_pos c4, if_pos c4, ndC_zero, bs_nil]; exact back_two _ _ _ w
  · rw [if_neg c4, if_neg c4]; unfold nd0; rw [ndC_zero, bs_nil]; exact back_nil w
theorem contains_any (s : List UInt8) (c : UInt8) (w : World) : Calls Tryd.prog 80 #[.string (bs s), .string ⟨#[c]⟩] w (Ans w (.bool (decide (c ∈ s)))) := by
  have hi : decide (0 ≤ Lib.indexByte (bs s).data.toList c) = decide (c ∈ s) := by
    rw [bs_data, Bool.eq_iff_iff, decide_eq_true_iff, decide_eq_true_iff]
    cases hc : cutAt c s with
    | none => rw [idx_miss hc]; exact ⟨fun h => by omega, fun h => absurd h (cutAt_none.1 hc)⟩
    | some p =>
      obtain ⟨a, b⟩ := p
      rw [idx_hit hc]
      exact ⟨fun _ => by rw [(cutAt_some hc).1]; simp, fun _ => by omega⟩
  obtain ⟨v, hv⟩ : ∃ v, decide (c ∈ s) = v := ⟨_, rfl⟩
  rw [hv] at hi ⊢
  obtain ⟨x, hx⟩ : ∃ x, Lib.indexByte (bs s).data.toList c = x := ⟨_, rfl⟩
  have HI := Lib.hid (hx ▸ index1_any (bs s) c)
  rw [hx] at hi
  clear hx
  have HD := Lib.hid hi
  clear hi hv
  go_enter Tryd.func80, Tryd.ntmps80
  go_wp2_with (refine (HI.out _).mono ?_; rintro e w' ⟨rfl, rfl⟩)
  go_ret
  exact ⟨by rw [← HD.out]; rfl, Below.refl _ _⟩
section
variable {l : List Nd} {i : Nat} {n : Nd} (hn : atN l i = n)
include hn
theorem fmd_differs (h : backN n ≠ n) : fmd l i = false := by unfold fmd; rw [hn, decide_eq_false_iff_not]; exact fun ho => h ho.1
theorem fmd_plain (h : backN n = n) (hk : n.kind = 1 ∨ n.kind = 2) : fmd l i = true := by
  unfold fmd; rw [hn, decide_eq_true_iff]; exact ⟨h, by rcases hk with h | h <;> simp [h]⟩
theorem fmd_text (h : backN n = n) (hk : n.kind = 3) : fmd l i = textOk n.text := by
  unfold fmd; rw [hn, Bool.eq_iff_iff, decide_eq_true_iff]
  constructor
  · rintro ⟨_, ho⟩
    rcases ho with ho | ho | ⟨_, ho⟩ | ⟨ho, _⟩ | ⟨ho, _⟩ | ⟨ho, _⟩
    · omega
    · omega
    · exact ho
    · omega
    · omega
    · omega
  · exact fun ht => ⟨h, .inr (.inr (.inl ⟨hk, ht⟩))⟩
theorem fmd_one (h : backN n = n) (hk : n.kind = 6 ∨ n.kind = 8 ∨ n.kind = 9) : fmd l i = decide (0 ≤ n.a ∧ n.a = (i : Int) - 1) := by
  unfold fmd; rw [hn, Bool.eq_iff_iff, decide_eq_true_iff, decide_eq_true_iff]
  constructor
  · rintro ⟨_, ho⟩
    rcases ho with ho | ho | ⟨ho, _⟩ | ⟨_, ho⟩ | ⟨ho, _⟩ | ⟨ho, _⟩
    · omega
    · omega
    · omega
    · exact ho
    · omega
    · omega
  · exact fun ht => ⟨h, .inr (.inr (.inr (.inl ⟨hk, ht⟩)))⟩
theorem fmd_rep (h : backN n = n) (hk : n.kind = 7) : fmd l i = decide ((0 ≤ n.a ∧ n.a = (i : Int) - 1) ∧ 0 ≤ n.lo ∧ n.lo ≤ n.hi ∧ n.hi ≤ 255) := by
  unfold fmd; rw [hn, Bool.eq_iff_iff, decide_eq_true_iff, decide_eq_true_iff]
  constructor
  · rintro ⟨_, ho⟩
    rcases ho with ho | ho | ⟨ho, _⟩ | ⟨ho, _⟩ | ⟨_, ho⟩ | ⟨ho, _⟩
    · omega
    · omega
    · omega
    · omega
    · exact ho
    · omega
  · exact fun ht => ⟨h, .inr (.inr (.inr (.inr (.inl ⟨hk, ht⟩))))⟩
theorem fmd_two (h : backN n = n) (hk : n.kind = 4 ∨ n.kind = 5) : fmd l i = decide ((0 ≤ n.b ∧ n.b = (i : Int) - 1) ∧ 0 ≤ n.a ∧ n.a = (firstP l n.b.toNat : Int) - 1) := by
  unfold fmd; rw [hn, Bool.eq_iff_iff, decide_eq_true_iff, decide_eq_true_iff]
  constructor
  · rintro ⟨_, ho⟩
    rcases ho with ho | ho | ⟨ho, _⟩ | ⟨ho, _⟩ | ⟨ho, _⟩ | ⟨_, ho⟩
    · omega
    · omega
    · omega
    · omega
    · omega
    · exact ho
  · exact fun ht => ⟨h, .inr (.inr (.inr (.inr (.inr ⟨hk, ht⟩))))⟩
theorem fmd_none (h1 : n.kind ≠ 1) (h2 : n.kind ≠ 2) (h3 : n.kind ≠ 3) (h4 : ¬ (4 ≤ n.kind ∧ n.kind ≤ 9)) : fmd l i = false := by
  unfold fmd; rw [hn, decide_eq_false_iff_not]; rintro ⟨_, ho⟩; omega
end
structure FmS (w0 : World) (A : Option Addr) (l : List Nd) (c : Nat) (w : World) : Prop where
  fst : FstS w0 A l c w
  u8 : U8T w
theorem FmS.later {w0 w w' : World} {A : Option Addr} {l : List Nd} {c : Nat} (h : FmS w0 A l c w) (hb : Below w.heap.size w w') : FmS w0 A l c w' := ⟨h.fst.later hb, h.u8.later hb⟩
structure FmB (w0 : World) (A : Option Addr) (l : List Nd) (c bx : Nat) (vs : Array Value) (t : TypeId) (w : World) : Prop where
  s : FmS w0 A l c w
  box : Blk w bx vs t
theorem FmB.later {w0 w w' : World} {A : Option Addr} {l : List Nd} {c bx : Nat} {vs : Array Value} {t : TypeId} (h : FmB w0 A l c bx vs t w) (hb : Below w.heap.size w w') : FmB w0 A l c bx vs t w' := ⟨h.s.later hb, h.box.later hb⟩
set_option maxHeartbeats 16000000 in
set_option maxRecDepth 1000000 in
theorem formed_any (l : List Nd) (A : Option Addr) (c i : Nat) (hi : i < l.length) (hlen : l.length ≤ 1073741824) (htx : ∀ n ∈ l, n.text.length ≤ 281474976710656) (w : World) (hrow : NRow w A l) (hT : U8T w) :
    Calls Tryd.prog 56 #[.agg #[.slice A l.length c], .int .i64 (i : Int)] w (Ans w (.bool (fmd l i))) := by
  have HB := (Below.refl w.heap.size w).alloc (Nat.le_refl _) (.cells #[.slice A l.length c] 49)
  have HS0 : Hid (FmS w A l c (w.alloc (.cells #[.slice A l.length c] 49))) := ⟨⟨HB, hrow.later HB, Blk.new _ _ _⟩, hT.later HB⟩
  have htx2 := htx (l.getD i nd0) (by rw [List.getD_eq_getElem?_getD, List.getElem?_eq_getElem hi]; exact List.getElem_mem _)
  have HTX := Lib.hid htx2
  obtain ⟨ba, oa, rfl, -, -⟩ := hrow i hi
  clear hrow hT HB htx htx2
  go_enter Tryd.func56, Tryd.ntmps56
  go_upto_region 1 with (fail)
  generalize w.alloc (.cells #[.slice (some ⟨ba, oa, none⟩) l.length c] 49) = w1 at *
  have e0 := HS0.out.fst.box.cell 0
  simp at e0
  have hiz : (i : Int) < (l.length : Int) := by omega
  have FX := Lib.hid (fun (w' : World) (h : NRow w' (some ⟨ba, oa, none⟩) l) => h.at hi rfl)
  have hat : Hid (atN l i = l.getD i nd0) := rfl
  have g := FX.out _ HS0.out.fst.row
  generalize l.getD i nd0 = n at *
  unfold At10 at g
  obtain ⟨g0, g1, g2, g3, g4, g5, g6, g7, g8, g9⟩ := g
  obtain ⟨V, hV⟩ : ∃ V, V = anyV n.kind n.a n.b n.lo n.hi (wd n.cls 0) (wd n.cls 1) (wd n.cls 2) (wd n.cls 3) (bs n.text) := ⟨_, rfl⟩
  have TU : Hid (∀ w, Calls Tryd.prog 78 #[.agg (ndC n)] w (Ans w V)) := fun w => by rw [hV]; exact turned_raw _ _ _ _ _ _ _ _ _ _ w
  have BK : Hid (∀ w, Calls Tryd.prog 79 #[V] w (Ans w (.agg (ndC (backN n))))) := fun w => by rw [hV]; exact back_any n w
  have HV := Lib.hid hV
  clear hV
  go_wp2_with fail
  refine (TU.out _).mono ?_; rintro e w2 ⟨rfl, hb2⟩
  have HS2 := Lib.hid (HS0.out.later hb2)
  clear hb2 e0 g0 g1 g2 g3 g4 g5 g6 g7 g8 g9
  go_upto_region 2 with (fail)
  have HX : Hid (∃ x, x = backN n) := ⟨_, rfl⟩
  obtain ⟨x, hx⟩ := HX.out
  rw [← hx] at BK
  have HXE := Lib.hid hx
  clear hx HX
  refine wp_region_stable (S := (FmS w (some ⟨ba, oa, none⟩) l c)) (hSt := fun _ _ h hb => h.later hb) (plan := [[(5, none)], [(17, some 0)], [(2, none)], [(19, some 2)], [(1, none)], [(20, some 3), (21, some 4)], [(22, some 5)], [(18, some 1), (23, some 6)]]) (by kernel_rfl) (by kernel_rfl) (by kernel_rfl) ?hS ?_
  rotate_left
  iterate 8 first
    | (refine chain_skip (by rfl) (by rfl) ?_)
    | (apply chain_want (by rfl)
       · intro act wx hS hr
         simp at hr
         have g := FX.out _ hS.fst.row
         have e0 := hS.fst.box.cell 0
         simp at e0
         have hq := fun w => neq_nd x n w
         have hg := fun o1 o2 w => eqGuard_neq_nd o1 o2 x n w
         unfold At10 at g
         go_simp
         (try go_ints)
         first
           | exact Done.same (v := .agg (ndC n))
           | ((with_reducible refine (BK.out _).mono ?_); rintro e w' ⟨rfl, hb⟩; exact Done.mk hb)
           | exact Done.same
      )
  show ∀ w', _ → _
  intro wz hz
  simp [Act.put]
  case hS => exact HS2.out
  have HZ := Lib.hid hz
  clear hz
  by_cases hxn : x = n
  · have hd : decide (x = n) = true := decide_eq_true hxn
    rw [hd]
    have HE : Hid (backN n = n) := by unfold Hid; rw [← HXE.out, hxn]
    clear hd hxn
    obtain ⟨k, a, b, lo, hi', cls, text⟩ := n
    simp only at HV HTX
    by_cases c1 : k = 1
    · subst c1
      have hV : V = .iface 115 (.agg #[]) := by rw [HV.out]; unfold anyV; simp
      clear HV
      subst hV
      have HR := Lib.hid (fmd_plain hat.out HE.out (.inl rfl))
      clear hat
      have q1 := as_empty_empty
      have q2 := as_empty_set
      go_wp2
      go_ret
      exact ⟨by rw [HR.out]; rfl, HZ.out.fst.bel⟩
    by_cases c2 : k = 2
    · subst c2
      have hV : V = .iface 117 (.agg #[.int .u64 (wd cls 0), .int .u64 (wd cls 1), .int .u64 (wd cls 2), .int .u64 (wd cls 3)]) := by rw [HV.out]; unfold anyV; simp
      clear HV
      subst hV
      have HR := Lib.hid (fmd_plain hat.out HE.out (.inr rfl))
      clear hat
      have q1 := as_set_empty
      have q2 := as_set_set
      go_wp2
      go_ret
      exact ⟨by rw [HR.out]; rfl, HZ.out.fst.bel⟩
    by_cases c3 : k = 3
    · subst c3
      have hV : V = .iface 119 (.agg #[.string (bs text)]) := by rw [HV.out]; unfold anyV; simp
      clear HV
      subst hV
      have HR := Lib.hid (fmd_text hat.out HE.out rfl)
      clear hat
      have q1 := as_text_empty
      have q2 := as_text_set
      have q3 := as_text_text
      go_upto_region 10 with (fail)
      have hb4 := (Below.refl wz.heap.size wz).alloc (Nat.le_refl _) (.cells #[.string (bs text)] 119)
      have HI := Lib.hid (Blk.new wz #[.string (bs text)] 119)
      have HZ4 := Lib.hid (HZ.out.later hb4)
      clear hb4
      generalize wz.alloc (.cells #[.string (bs text)] 119) = w4 at *
      generalize wz.heap.size = bx at *
      have i0 := HI.out.cell 0
      simp at i0
      by_cases ht : text = []
      · subst ht
        have HRR : Hid (fmd l i = false) := by unfold Hid; rw [HR.out]; rfl
        rw [bs_nil] at i0 ⊢
        go_wp2
        go_ret
        exact ⟨by rw [HRR.out]; rfl, HZ4.out.fst.bel⟩
      · have ht1 : ¬ (bs text).toList = [] := by rw [Lib.toList_data, bs_data]; exact ht
        have ht2 : (!(bs text).toList.isEmpty) = true := by rw [Lib.toList_data, bs_data]; cases text with | nil => exact absurd rfl ht | cons a l => rfl
        have HU : Hid (∀ w, U8T w → Calls Tryd.prog 23 #[.string (bs text)] w (Ans w (.bool (utf8L text)))) := fun w h => by have := utf8_any (bs text) w (by rw [bs_size]; have := HTX.out; omega) h; rwa [bs_data] at this
        have HC := Lib.hid (fun w => contains_any text 34 w)
        cases hu : utf8L text with
        | false =>
          have HRR : Hid (fmd l i = false) := by unfold Hid; rw [HR.out]; unfold textOk; rw [hu]; simp
          rw [hu] at HU
          clear ht hu
          go_wp2_with (refine (HU.out _ HZ4.out.u8).mono ?_; rintro e w5 ⟨rfl, hb5⟩; have HZ5 := Lib.hid (HZ4.out.later hb5); clear hb5 i0)
          go_ret
          exact ⟨by rw [HRR.out]; rfl, HZ5.out.fst.bel⟩
        | true =>
          have HRR : Hid (fmd l i = !decide ((34 : UInt8) ∈ text)) := by unfold Hid; rw [HR.out]; unfold textOk; rw [hu]; simp [ht]
          rw [hu] at HU
          generalize decide ((34 : UInt8) ∈ text) = q at *
          clear ht hu
          go_wp2_with fail
          refine (HU.out _ HZ4.out.u8).mono ?_; rintro e w5 ⟨rfl, hb5⟩
          have HZ5 := Lib.hid (HZ4.out.later hb5)
          have i1 := (HI.out.later hb5).cell 0
          simp at i1
          clear hb5 i0
          go_wp2_with fail
          refine (HC.out _).mono ?_; rintro e w6 ⟨rfl, hb6⟩
          have HZ6 := Lib.hid (HZ5.out.later hb6)
          clear hb6 i1
          go_wp2
          go_ret
          exact ⟨by rw [HRR.out]; rfl, HZ6.out.fst.bel⟩
    by_cases c6 : k = 6 ∨ k = 8 ∨ k = 9
    · have hV : V = .iface 122 (.agg #[.int .i64 k, .int .i64 a]) := by rw [HV.out]; unfold anyV; rw [if_neg c1, if_neg c2, if_neg c3, if_pos c6]
      clear HV
      subst hV
      have HR := Lib.hid (fmd_one hat.out HE.out c6)
      have HA := Lib.hid (fun w => ahead_any a i (by omega) w)
      generalize decide (0 ≤ a ∧ a = (i : Int) - 1) = q at *
      clear hat c1 c2 c3 c6
      have q1 := as_one_empty
      have q2 := as_one_set
      have q3 := as_one_text
      have q4 := as_one_one
      go_upto_region 13 with (fail)
      have hb4 := (Below.refl wz.heap.size wz).alloc (Nat.le_refl _) (.cells #[.int .i64 k, .int .i64 a] 122)
      have HI := Lib.hid (Blk.new wz #[.int .i64 k, .int .i64 a] 122)
      have HZ4 := Lib.hid (HZ.out.later hb4)
      clear hb4
      generalize wz.alloc (.cells #[.int .i64 k, .int .i64 a] 122) = w4 at *
      generalize wz.heap.size = bx at *
      have i1 := HI.out.cell 1
      simp at i1
      go_wp2_with fail
      refine (HA.out _).mono ?_; rintro e w5 ⟨rfl, hb5⟩
      have HZ5 := Lib.hid (HZ4.out.later hb5)
      clear hb5 i1
      go_wp2
      go_ret
      exact ⟨by rw [HR.out]; rfl, HZ5.out.fst.bel⟩
    by_cases c7 : k = 7
    · subst c7
      have hV : V = .iface 125 (.agg #[.int .i64 a, .int .i64 lo, .int .i64 hi']) := by rw [HV.out]; unfold anyV; simp
      clear HV
      subst hV
      have HR := Lib.hid (fmd_rep hat.out HE.out rfl)
      have HA := Lib.hid (fun w => ahead_any a i (by omega) w)
      clear hat c1 c2 c3 c6
      have q1 := as_times_empty
      have q2 := as_times_set
      have q3 := as_times_text
      have q4 := as_times_one
      have q5 := as_times_times
      go_upto_region 16 with (fail)
      have hb4 := (Below.refl wz.heap.size wz).alloc (Nat.le_refl _) (.cells #[.int .i64 a, .int .i64 lo, .int .i64 hi'] 125)
      have HI := Lib.hid (Blk.new wz #[.int .i64 a, .int .i64 lo, .int .i64 hi'] 125)
      have HZ4 := Lib.hid (HZ.out.later hb4)
      clear hb4
      generalize wz.alloc (.cells #[.int .i64 a, .int .i64 lo, .int .i64 hi'] 125) = w4 at *
      generalize wz.heap.size = bx at *
      have i0 := HI.out.cell 0
      simp at i0
      by_cases hA : 0 ≤ a ∧ a = (i : Int) - 1
      · rw [decide_eq_true hA] at HA
        have HAA := Lib.hid hA
        clear hA
        go_wp2_with fail
        refine (HA.out _).mono ?_; rintro e w5 ⟨rfl, hb5⟩
        have HZ5 := Lib.hid (HZ4.out.later hb5)
        have i1 := (HI.out.later hb5).cell 1
        have i2 := (HI.out.later hb5).cell 2
        simp at i1 i2
        clear hb5 i0
        by_cases h0 : 0 ≤ lo
        · by_cases h1 : lo ≤ hi'
          · have HRR : Hid (fmd l i = decide (hi' ≤ 255)) := by
              unfold Hid; rw [HR.out, Bool.eq_iff_iff, decide_eq_true_iff, decide_eq_true_iff]
              exact ⟨fun h => h.2.2.2, fun h => ⟨HAA.out, h0, h1, h⟩⟩
            go_wp2
            go_ret
            exact ⟨by rw [HRR.out]; rfl, HZ5.out.fst.bel⟩
          · have HRR : Hid (fmd l i = false) := by unfold Hid; rw [HR.out, decide_eq_false_iff_not]; exact fun h => h1 h.2.2.1
            go_wp2
            go_ret
            exact ⟨by rw [HRR.out]; rfl, HZ5.out.fst.bel⟩
        · have HRR : Hid (fmd l i = false) := by unfold Hid; rw [HR.out, decide_eq_false_iff_not]; exact fun h => h0 h.2.1
          go_wp2
          go_ret
          exact ⟨by rw [HRR.out]; rfl, HZ5.out.fst.bel⟩
      · rw [decide_eq_false hA] at HA
        have HRR : Hid (fmd l i = false) := by unfold Hid; rw [HR.out, decide_eq_false_iff_not]; exact fun h => hA h.1
        clear hA
        go_wp2_with fail
        refine (HA.out _).mono ?_; rintro e w5 ⟨rfl, hb5⟩
        have HZ5 := Lib.hid (HZ4.out.later hb5)
        clear hb5 i0
        go_wp2
        go_ret
        exact ⟨by rw [HRR.out]; rfl, HZ5.out.fst.bel⟩
    by_cases c4 : k = 4 ∨ k = 5
    · have hV : V = .iface 127 (.agg #[.int .i64 k, .int .i64 a, .int .i64 b]) := by rw [HV.out]; unfold anyV; rw [if_neg c1, if_neg c2, if_neg c3, if_neg c6, if_neg c7, if_pos c4]
      clear HV
      subst hV
      have HR := Lib.hid (fmd_two hat.out HE.out c4)
      have HA := Lib.hid (fun w => ahead_any b i (by omega) w)
      clear hat c1 c2 c3 c6 c7 c4
      have q1 := as_two_empty
      have q2 := as_two_set
      have q3 := as_two_text
      have q4 := as_two_one
      have q5 := as_two_times
      have q6 := as_two_two
      go_upto_region 19 with (fail)
      have hb4 := (Below.refl wz.heap.size wz).alloc (Nat.le_refl _) (.cells #[.int .i64 k, .int .i64 a, .int .i64 b] 127)
      have HI : Hid (FmB w (some ⟨ba, oa, none⟩) l c wz.heap.size #[.int .i64 k, .int .i64 a, .int .i64 b] 127 (wz.alloc (.cells #[.int .i64 k, .int .i64 a, .int .i64 b] 127))) := ⟨HZ.out.later hb4, Blk.new wz #[.int .i64 k, .int .i64 a, .int .i64 b] 127⟩
      clear hb4
      generalize wz.alloc (.cells #[.int .i64 k, .int .i64 a, .int .i64 b] 127) = w4 at *
      generalize wz.heap.size = bx at *
      by_cases hA : 0 ≤ b ∧ b = (i : Int) - 1
      · rw [decide_eq_true hA] at HA
        obtain ⟨j, rfl⟩ : ∃ j : Nat, b = (j : Int) := ⟨b.toNat, by omega⟩
        have hji : j < l.length := by omega
        have HAA := Lib.hid hA
        clear hA
        have HF : Hid (∀ w', NRow w' (some ⟨ba, oa, none⟩) l → Calls Tryd.prog 34 #[.agg #[.slice (some ⟨ba, oa, none⟩) l.length c], .int .i64 (j : Int)] w' (Ans w' (.int .i64 (firstP l j : Int)))) := fun w' h => first_any l _ c j hji w' h
        have hfl := firstP_le l j
        have HG := Lib.hid (fun w => ahead_any a (firstP l j) (by omega) w)
        have HRR : Hid (fmd l i = decide (0 ≤ a ∧ a = (firstP l j : Int) - 1)) := by
          unfold Hid; rw [HR.out, Bool.eq_iff_iff, decide_eq_true_iff, decide_eq_true_iff]
          simp only [Int.toNat_natCast]
          exact ⟨fun h => h.2, fun h => ⟨HAA.out, h⟩⟩
        generalize decide (0 ≤ a ∧ a = (firstP l j : Int) - 1) = q at *
        generalize firstP l j = f at *
        clear hji
        refine wp_region_stable (S := (FmB w (some ⟨ba, oa, none⟩) l c bx #[.int .i64 k, .int .i64 a, .int .i64 (j : Int)] 127)) (hSt := fun _ _ h hb => h.later hb) (plan := [[(10, none)], [(84, some 0)], [(1, none)], [(85, some 1), (86, some 2)], [(87, some 3)], [(10, none)], [(89, some 5)], [(2, none)], [(10, none)], [(92, some 8)], [(91, some 7), (93, some 9)], [(90, some 6), (94, some 10)], [(88, some 4), (95, some 11)], [(96, some 12)]]) (by kernel_rfl) (by kernel_rfl) (by kernel_rfl) ?hS ?_
        rotate_left
        iterate 14 first
          | (refine chain_skip (by rfl) (by rfl) ?_)
          | (apply chain_want (by rfl)
             · intro act wx hS hr
               simp at hr
               have e0 := hS.s.fst.box.cell 0
               have i1 := hS.box.cell 1
               have i2 := hS.box.cell 2
               simp at e0 i1 i2
               go_simp
               (try go_ints)
               first
                 | ((with_reducible refine (HF.out _ hS.s.fst.row).mono ?_); rintro e w' ⟨rfl, hb⟩; exact Done.mk hb)
                 | ((with_reducible refine (HA.out _).mono ?_); rintro e w' ⟨rfl, hb⟩; exact Done.mk hb)
                 | ((with_reducible refine (HG.out _).mono ?_); rintro e w' ⟨rfl, hb⟩; exact Done.mk hb)
                 | exact Done.same
            )
        show ∀ w', _ → _
        intro wy hy
        simp [Act.put]
        case hS => exact HI.out
        have HY := Lib.hid hy
        clear hy
        go_wp2
        go_ret
        exact ⟨by rw [HRR.out]; rfl, HY.out.s.fst.bel⟩
      · rw [decide_eq_false hA] at HA
        have HRR : Hid (fmd l i = false) := by unfold Hid; rw [HR.out, decide_eq_false_iff_not]; exact fun h => hA h.1
        clear hA
        refine wp_region_stable (S := (FmB w (some ⟨ba, oa, none⟩) l c bx #[.int .i64 k, .int .i64 a, .int .i64 b] 127)) (hSt := fun _ _ h hb => h.later hb) (plan := [[(10, none)], [(84, some 0)], [(1, none)], [(85, some 1), (86, some 2)], [(87, some 3)], [(10, none)], [(89, some 5)], [(2, none)], [(10, none)], [(92, some 8)], [(91, some 7), (93, some 9)], [(90, some 6), (94, some 10)], [(88, some 4), (95, some 11)], [(96, some 12)]]) (by kernel_rfl) (by kernel_rfl) (by kernel_rfl) ?hS ?_
        rotate_left
        iterate 14 first
          | (refine chain_skip (by rfl) (by rfl) ?_)
          | (apply chain_want (by rfl)
             · intro act wx hS hr
               simp at hr
               have e0 := hS.s.fst.box.cell 0
               have i1 := hS.box.cell 1
               have i2 := hS.box.cell 2
               simp at e0 i1 i2
               go_simp
               (try go_ints)
               first
                 | ((with_reducible refine (HA.out _).mono ?_); rintro e w' ⟨rfl, hb⟩; exact Done.mk hb)
                 | exact Done.same
            )
        show ∀ w', _ → _
        intro wy hy
        simp [Act.put]
        case hS => exact HI.out
        have HY := Lib.hid hy
        clear hy
        go_wp2
        go_ret
        exact ⟨by rw [HRR.out]; rfl, HY.out.s.fst.bel⟩
    · have hV : V = .nilIface := by rw [HV.out]; unfold anyV; rw [if_neg c1, if_neg c2, if_neg c3, if_neg c6, if_neg c7, if_neg c4]
      clear HV
      subst hV
      have HR := Lib.hid (fmd_none hat.out c1 c2 c3 (by simp only; omega))
      clear hat c1 c2 c3 c6 c7 c4
      have q1 := as_nil_empty
      have q2 := as_nil_set
      have q3 := as_nil_text
      have q4 := as_nil_one
      have q5 := as_nil_times
      have q6 := as_nil_two
      go_wp2
      go_ret
      exact ⟨by rw [HR.out]; rfl, HZ.out.fst.bel⟩
  · have hd : decide (x = n) = false := decide_eq_false hxn
    rw [hd]
    have HR := Lib.hid (fmd_differs hat.out (fun h => hxn (by rw [HXE.out, h])))
    clear hd hxn hat
    go_wp2
    go_ret
    exact ⟨by rw [HR.out]; rfl, HZ.out.fst.bel⟩
end Go.Proofs.YtgehepiphdphjaaDoor
