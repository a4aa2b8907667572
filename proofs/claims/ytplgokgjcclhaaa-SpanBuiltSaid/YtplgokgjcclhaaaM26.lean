/- The statement SpanForms of layer 10, walked. -/
import Derived.Test.YtplgokgjcclhaaaM25
namespace Go.Proofs.Ytplgokgjcclhaaa
open Go Go.RowKit
set_option linter.unusedVariables false
set_option linter.unusedSimpArgs false

set_option maxHeartbeats 64000000 in
set_option maxRecDepth 1000000 in
theorem spanforms_walk (l : List Nd) (A : Option Addr) (c q : Nat) (hq : q < 65536) (hc1 : l.length ≤ c) (hl : l.length ≤ 9223372036854775807) (htx : Txt l) (w : World) (hrow : NRow w A l) :
    Calls Try.prog 4 #[.agg #[.slice A l.length c], .int .u16 (q : Int)] w (Ans w (.bool true)) := by
  have HB := (Below.refl w.heap.size w).alloc (Nat.le_refl _) (.cells #[.slice A l.length c] 24)
  have HS0 : Hid (FstS w A l c (w.alloc (.cells #[.slice A l.length c] 24))) := ⟨HB, hrow.later HB, Blk.new _ _ _⟩
  have HTX := Lib.hid htx
  clear hrow HB htx
  go_enter Try.func4, Try.ntmps4
  go_upto_region 1 with (fail)
  generalize w.alloc (.cells #[.slice A l.length c] 24) = w1 at *
  go_wp2_with fail
  refine (awake10_any _).mono ?_; rintro e w2 ⟨rfl, hb⟩
  have HS2 := Lib.hid (HS0.out.later hb)
  clear hb HS0
  have e0 := HS2.out.box.cell 0
  simp at e0
  have HF := Lib.hid (few_any l A c hl HTX.out _ HS2.out.row)
  cases hf : fewB l with
  | false =>
    rw [hf] at HF
    clear hf
    go_wp2_with fail
    refine HF.out.mono ?_; rintro e w3 ⟨rfl, hb⟩
    have HS3 := Lib.hid (HS2.out.later hb)
    clear hb e0 HF HS2
    go_wp2_with fail
    refine (awake10_any _).mono ?_; rintro e WN ⟨rfl, hb⟩
    have HSY := Lib.hid (HS3.out.later hb)
    clear hb
    go_wp2
    go_ret
    exact ⟨rfl, HSY.out.bel⟩
  | true =>
    rw [hf] at HF
    have L1 := Lib.hid (few_txt hf).1
    have HFW := Lib.hid hf
    clear hf
    go_wp2_with fail
    refine HF.out.mono ?_; rintro e w3 ⟨rfl, hb⟩
    have HS3 := Lib.hid (HS2.out.later hb)
    clear hb e0 HF HS2
    have e0 := HS3.out.box.cell 0
    simp at e0
    have HF := Lib.hid (rright_any l A c hc1 (by have := L1.out; omega) HTX.out _ HS3.out.row)
    cases hf : rgB l with
    | false =>
      rw [hf] at HF
      clear hf
      go_wp2_with fail
      refine HF.out.mono ?_; rintro e w4 ⟨rfl, hb⟩
      have HS4 := Lib.hid (HS3.out.later hb)
      clear hb e0 HF HS3
      go_wp2_with fail
      refine (awake10_any _).mono ?_; rintro e WN ⟨rfl, hb⟩
      have HSY := Lib.hid (HS4.out.later hb)
      clear hb
      go_wp2
      go_ret
      exact ⟨rfl, HSY.out.bel⟩
    | true =>
      rw [hf] at HF
      have hrg := (rgB_iff l).1 hf
      have HRG := Lib.hid hrg
      have HSP := Lib.hid (few_sp HFW.out hrg.1)
      have hpos := hrg.1.1
      have hlen := L1.out
      clear hf hrg
      go_wp2_with fail
      refine HF.out.mono ?_; rintro e w4 ⟨rfl, hb⟩
      have HS4 := Lib.hid (HS3.out.later hb)
      clear hb e0 HF HS3
      have e0 := HS4.out.box.cell 0
      simp at e0
      have hposz : (0 : Int) < (l.length : Int) := by omega
      have hne : ((l.length : Int) == 0) = false := by rw [beq_eq_false_iff_ne]; omega
      have hmod : (q : Int) % (l.length : Int) = ((q % l.length : Nat) : Int) := by omega
      have hil : q % l.length < l.length := Nat.mod_lt _ hpos
      go_upto_region 4 with (fail)
      generalize hii : q % l.length = i at *
      rw [hmod]
      clear hii hmod hne hposz e0
      have hok := spN_ok HRG.out.1 i hil
      have HZ := Lib.hid (spN_zero HRG.out i hil)
      obtain ⟨p, hp⟩ : ∃ p, spN l i = p := ⟨_, rfl⟩
      have hsub := span_sub hil (HRG.out.1.okTo hil)
      rw [hp] at hok HZ hsub
      have hli : i < l.length := hil
      have CO1 : Hid (∀ w', FstS w A l c w' → Calls Try.prog 10 #[.agg #[.slice A l.length c], .int .i64 (i : Int)] w' (Ans w' (.tuple #[.int .i64 p.1, .int .i64 p.2]))) := fun w' h => (h.isDs hc1).spnode HSP.out hil hp
      have CS : Hid (∀ w', FstS w A l c w' → Calls Try.prog 13 #[.agg #[.slice A l.length c], .int .i64 (i : Int)] w' (DPost w' (subL l i))) := fun w' h => (h.isDs hc1).rsub HSP.out.sm hil
      have CO2 : Hid (∀ w' v, IsD (subL l i) v w' → Calls Try.prog 12 #[v] w' (Ans w' (.tuple #[.int .i64 p.1, .int .i64 p.2]))) := fun w' v h => h.spof (HSP.out.sub hil) hsub
      obtain ⟨v, hv⟩ : ∃ v, wyN l i = v := ⟨_, rfl⟩
      rw [hv] at HZ
      have CO3 : Hid (∀ w', FstS w A l c w' → Calls Try.prog 14 #[.agg #[.slice A l.length c], .int .i64 (i : Int)] w' (Ans w' (.int .i64 ((v : Nat) : Int)))) := fun w' h => (h.isDs hc1).rways HSP.out.sm hil hv
      clear hp hsub hv
      obtain ⟨a, b⟩ := p
      unfold SpOk at hok
      simp only at CO1 CO2 HZ hok
      have e0 := HS4.out.box.cell 0
      simp at e0
      go_wp2_with fail
      refine (CO1.out _ HS4.out).mono ?_; rintro e y4 ⟨rfl, hb⟩
      have HS5 := Lib.hid (HS4.out.later hb)
      clear hb e0 HS4
      have e0 := HS5.out.box.cell 0
      simp at e0
      go_wp2_with fail
      refine (CS.out _ HS5.out).mono ?_; intro e y5 hp; obtain ⟨s, rfl, ho, hb⟩ := hp
      have HI := Lib.hid ho.isD
      have HS6 := Lib.hid (HS5.out.later hb)
      clear hb ho e0 HS5
      go_wp2_with fail
      refine (CO2.out _ _ HI.out).mono ?_; rintro e y6 ⟨rfl, hb⟩
      have HS7 := Lib.hid (HS6.out.later hb)
      clear hb HS6 HI CO1 CO2 CS
      have n1 : (a != a) = false := by simp
      have n2 : (b != b) = false := by simp
      have n3 : ¬ a < -1 := by omega
      have n4 : ¬ b < -1 := by omega
      have n3' : decide (a < -1) = false := decide_eq_false n3
      have n4' : decide (b < -1) = false := decide_eq_false n4
      by_cases ha : a = -1
      · have hb : b = -1 := by omega
        have n5 : (a == -1) = true := by simp [ha]
        have n6 : (b != -1) = false := by simp [hb]
        have n7 : ¬ b ≥ 0 := by omega
        have n7' : decide (b ≥ 0) = false := decide_eq_false n7
        clear ha hb hok
        have e0 := HS7.out.box.cell 0
        simp at e0
        by_cases hz : a = 0
        · have hw : 0 < v := HZ.out.1 hz
          have z1 : (a == 0) = true := by simp [hz]
          have z2 : (v : Int) > 0 := by omega
          have z3 : decide ((v : Int) > 0) = true := decide_eq_true z2
          have z4 : decide (0 < v) = true := decide_eq_true hw
          clear hz hw HZ
          go_wp2_with fail
          refine (CO3.out _ HS7.out).mono ?_; rintro e y7 ⟨rfl, hb⟩
          have HS8 := Lib.hid (HS7.out.later hb)
          clear hb e0 HS7
          go_wp2
          go_ret
          exact ⟨rfl, HS8.out.bel⟩
        · have hw : v = 0 := by have h9 := mt HZ.out.2 hz; omega
          have z1 : (a == 0) = false := by rw [beq_eq_false_iff_ne]; exact hz
          have z2 : ¬ (v : Int) > 0 := by omega
          have z3 : decide ((v : Int) > 0) = false := decide_eq_false z2
          have z4 : decide (0 < v) = false := decide_eq_false (by omega)
          clear hz hw HZ
          go_wp2_with fail
          refine (CO3.out _ HS7.out).mono ?_; rintro e y7 ⟨rfl, hb⟩
          have HS8 := Lib.hid (HS7.out.later hb)
          clear hb e0 HS7
          go_wp2
          go_ret
          exact ⟨rfl, HS8.out.bel⟩
      · have n5 : (a == -1) = false := by rw [beq_eq_false_iff_ne]; exact ha
        by_cases hb : b = -1
        · have n7 : ¬ b ≥ 0 := by omega
          have n7' : decide (b ≥ 0) = false := decide_eq_false n7
          clear ha hb hok
          have e0 := HS7.out.box.cell 0
          simp at e0
          by_cases hz : a = 0
          · have hw : 0 < v := HZ.out.1 hz
            have z1 : (a == 0) = true := by simp [hz]
            have z2 : (v : Int) > 0 := by omega
            have z3 : decide ((v : Int) > 0) = true := decide_eq_true z2
            have z4 : decide (0 < v) = true := decide_eq_true hw
            clear hz hw HZ
            go_wp2_with fail
            refine (CO3.out _ HS7.out).mono ?_; rintro e y7 ⟨rfl, hb⟩
            have HS8 := Lib.hid (HS7.out.later hb)
            clear hb e0 HS7
            go_wp2
            go_ret
            exact ⟨rfl, HS8.out.bel⟩
          · have hw : v = 0 := by have h9 := mt HZ.out.2 hz; omega
            have z1 : (a == 0) = false := by rw [beq_eq_false_iff_ne]; exact hz
            have z2 : ¬ (v : Int) > 0 := by omega
            have z3 : decide ((v : Int) > 0) = false := decide_eq_false z2
            have z4 : decide (0 < v) = false := decide_eq_false (by omega)
            clear hz hw HZ
            go_wp2_with fail
            refine (CO3.out _ HS7.out).mono ?_; rintro e y7 ⟨rfl, hb⟩
            have HS8 := Lib.hid (HS7.out.later hb)
            clear hb e0 HS7
            go_wp2
            go_ret
            exact ⟨rfl, HS8.out.bel⟩
        · have n7 : b ≥ 0 := by omega
          have n7' : decide (b ≥ 0) = true := decide_eq_true n7
          have n8 : ¬ a > b := by omega
          have n8' : decide (a > b) = false := decide_eq_false n8
          clear ha hb hok
          have e0 := HS7.out.box.cell 0
          simp at e0
          by_cases hz : a = 0
          · have hw : 0 < v := HZ.out.1 hz
            have z1 : (a == 0) = true := by simp [hz]
            have z2 : (v : Int) > 0 := by omega
            have z3 : decide ((v : Int) > 0) = true := decide_eq_true z2
            have z4 : decide (0 < v) = true := decide_eq_true hw
            clear hz hw HZ
            go_wp2_with fail
            refine (CO3.out _ HS7.out).mono ?_; rintro e y7 ⟨rfl, hb⟩
            have HS8 := Lib.hid (HS7.out.later hb)
            clear hb e0 HS7
            go_wp2
            go_ret
            exact ⟨rfl, HS8.out.bel⟩
          · have hw : v = 0 := by have h9 := mt HZ.out.2 hz; omega
            have z1 : (a == 0) = false := by rw [beq_eq_false_iff_ne]; exact hz
            have z2 : ¬ (v : Int) > 0 := by omega
            have z3 : decide ((v : Int) > 0) = false := decide_eq_false z2
            have z4 : decide (0 < v) = false := decide_eq_false (by omega)
            clear hz hw HZ
            go_wp2_with fail
            refine (CO3.out _ HS7.out).mono ?_; rintro e y7 ⟨rfl, hb⟩
            have HS8 := Lib.hid (HS7.out.later hb)
            clear hb e0 HS7
            go_wp2
            go_ret
            exact ⟨rfl, HS8.out.bel⟩
end Go.Proofs.Ytplgokgjcclhaaa
/- The statement SpanTimes of layer 10, walked. -/
namespace Go.Proofs.Ytplgokgjcclhaaa
open Go Go.RowKit
set_option linter.unusedVariables false
set_option linter.unusedSimpArgs false

set_option maxHeartbeats 64000000 in
set_option maxRecDepth 1000000 in
theorem spantimes_walk (l : List Nd) (A : Option Addr) (c q : Nat) (hq : q < 256) (hc1 : l.length ≤ c) (hl : l.length ≤ 9223372036854775807) (htx : Txt l) (w : World) (hrow : NRow w A l) :
    Calls Try.prog 6 #[.agg #[.slice A l.length c], .int .u8 (q : Int)] w (Ans w (.bool true)) := by
  have HB := (Below.refl w.heap.size w).alloc (Nat.le_refl _) (.cells #[.slice A l.length c] 24)
  have HS0 : Hid (FstS w A l c (w.alloc (.cells #[.slice A l.length c] 24))) := ⟨HB, hrow.later HB, Blk.new _ _ _⟩
  have HTX := Lib.hid htx
  clear hrow HB htx
  go_enter Try.func6, Try.ntmps6
  go_upto_region 1 with (fail)
  generalize w.alloc (.cells #[.slice A l.length c] 24) = w1 at *
  go_wp2_with fail
  refine (awake10_any _).mono ?_; rintro e w2 ⟨rfl, hb⟩
  have HS2 := Lib.hid (HS0.out.later hb)
  clear hb HS0
  have e0 := HS2.out.box.cell 0
  simp at e0
  have HF := Lib.hid (few_any l A c hl HTX.out _ HS2.out.row)
  cases hf : fewB l with
  | false =>
    rw [hf] at HF
    clear hf
    go_wp2_with fail
    refine HF.out.mono ?_; rintro e w3 ⟨rfl, hb⟩
    have HS3 := Lib.hid (HS2.out.later hb)
    clear hb e0 HF HS2
    go_wp2_with fail
    refine (awake10_any _).mono ?_; rintro e WN ⟨rfl, hb⟩
    have HSY := Lib.hid (HS3.out.later hb)
    clear hb
    go_wp2
    go_ret
    exact ⟨rfl, HSY.out.bel⟩
  | true =>
    rw [hf] at HF
    have L1 := Lib.hid (few_txt hf).1
    have HFW := Lib.hid hf
    clear hf
    go_wp2_with fail
    refine HF.out.mono ?_; rintro e w3 ⟨rfl, hb⟩
    have HS3 := Lib.hid (HS2.out.later hb)
    clear hb e0 HF HS2
    have e0 := HS3.out.box.cell 0
    simp at e0
    have HF := Lib.hid (rright_any l A c hc1 (by have := L1.out; omega) HTX.out _ HS3.out.row)
    cases hf : rgB l with
    | false =>
      rw [hf] at HF
      clear hf
      go_wp2_with fail
      refine HF.out.mono ?_; rintro e w4 ⟨rfl, hb⟩
      have HS4 := Lib.hid (HS3.out.later hb)
      clear hb e0 HF HS3
      go_wp2_with fail
      refine (awake10_any _).mono ?_; rintro e WN ⟨rfl, hb⟩
      have HSY := Lib.hid (HS4.out.later hb)
      clear hb
      go_wp2
      go_ret
      exact ⟨rfl, HSY.out.bel⟩
    | true =>
      rw [hf] at HF
      have hrg := (rgB_iff l).1 hf
      have HRG := Lib.hid hrg
      have HSP := Lib.hid (few_sp HFW.out hrg.1)
      have hpos := hrg.1.1
      have hlen := L1.out
      clear hf hrg
      go_wp2_with fail
      refine HF.out.mono ?_; rintro e w4 ⟨rfl, hb⟩
      have HS4 := Lib.hid (HS3.out.later hb)
      clear hb e0 HF HS3
      have e0 := HS4.out.box.cell 0
      simp at e0
      have hminus : -9223372036854775808 ≤ (l.length : Int) - 1 := by omega
      obtain ⟨v, hv⟩ : ∃ v, wyN l (l.length - 1) = v := ⟨_, rfl⟩
      have CO3 : Hid (∀ w', FstS w A l c w' → Calls Try.prog 14 #[.agg #[.slice A l.length c], .int .i64 ((l.length : Int) - 1)] w' (Ans w' (.int .i64 ((v : Nat) : Int)))) := fun w' h => by
        have := (h.isDs hc1).rways HSP.out.sm (i := l.length - 1) (by omega) hv
        rwa [show ((l.length - 1 : Nat) : Int) = (l.length : Int) - 1 by omega] at this
      have HZ := Lib.hid (spN_zero HRG.out (l.length - 1) (by omega))
      rw [hv] at HZ
      clear hv
      by_cases hv : v = 0
      · have hvz : ((v : Int) != 0) = false := by simp [hv]
        have hz : (spD l).1 ≠ 0 := fun e => by have := HZ.out.1 e; omega
        clear hv HZ
        go_wp2_with fail
        refine (CO3.out _ HS4.out).mono ?_; rintro e y4 ⟨rfl, hb⟩
        have HS5 := Lib.hid (HS4.out.later hb)
        clear hb e0 HS4 CO3
        have hok := spN_ok HRG.out.1 (l.length - 1) (by omega)
        have hok : SpOk (spD l) := hok
        obtain ⟨p, hp⟩ : ∃ p, spD l = p := ⟨_, rfl⟩
        have hm1 : p.1 ≤ 1099511627776 ∧ p.2 ≤ 1099511627776 := by
          have h9 := sps_good HSP.out.nd (l.length - 1 + 1) (by omega) (spN l (l.length - 1)) (by
            rw [← sps_get l (l.length - 1 + 1) (l.length - 1) (by omega), List.getD_eq_getElem?_getD, List.getElem?_eq_getElem (by rw [sps_length]; omega)]
            exact List.getElem_mem _)
          have h8 : spN l (l.length - 1) = p := hp
          rw [h8] at h9
          exact h9.2
        have hrep : spD (wrapL 7 (q : Int) (q : Int) l) = repS q q (spD l) := by rw [span_wrap hpos (by decide)]; rfl
        have hsta : spD (wrapL 6 0 0 l) = if (spD l).1 = -1 then (0, 0) else (0, -1) := by rw [span_wrap hpos (by decide), star_s hok hz]
        obtain ⟨t1, t2⟩ := times_s hok q
        rw [hp] at hok hz hrep hsta t1 t2
        obtain ⟨r, hr⟩ : ∃ r, repS q q p = r := ⟨_, rfl⟩
        rw [hr] at hrep t1 t2
        have C1 : Hid (∀ w', FstS w A l c w' → Calls Try.prog 12 #[.agg #[.slice A l.length c]] w' (Ans w' (.tuple #[.int .i64 p.1, .int .i64 p.2]))) := fun w' h => (h.isDs hc1).spof HSP.out hp
        have C2 : Hid (∀ w', FstS w A l c w' → Calls Try.prog 16 #[.int .i64 7, .int .i64 (q : Int), .int .i64 (q : Int), .agg #[.slice A l.length c]] w' (DPost w' (wrapL 7 (q : Int) (q : Int) l))) := fun w' h => (h.isDs hc1).rwrap HSP.out.sm 7 q q
        have C3 : Hid (∀ w' v, IsD (wrapL 7 (q : Int) (q : Int) l) v w' → Calls Try.prog 12 #[v] w' (Ans w' (.tuple #[.int .i64 r.1, .int .i64 r.2]))) := fun w' v h => h.spof (HSP.out.rep (by omega) (by omega) (by omega) (by omega)) hrep
        have C4 : Hid (∀ w', FstS w A l c w' → Calls Try.prog 16 #[.int .i64 6, .int .i64 0, .int .i64 0, .agg #[.slice A l.length c]] w' (DPost w' (wrapL 6 0 0 l))) := fun w' h => (h.isDs hc1).rwrap HSP.out.sm 6 0 0
        have C5 := Lib.hid (fun w' v (h : IsD (wrapL 6 0 0 l) v w') => h.spof (HSP.out.wrap (by omega) (.inl rfl)) hsta)
        clear hp hr hrep hsta
        obtain ⟨a, b⟩ := p
        obtain ⟨x, y⟩ := r
        unfold SpOk at hok
        simp only at C1 C3 C5 hok hz t1 t2 hm1
        have e0 := HS5.out.box.cell 0
        simp at e0
        go_wp2_with fail
        refine (C1.out _ HS5.out).mono ?_; rintro e y5 ⟨rfl, hb⟩
        have HS6 := Lib.hid (HS5.out.later hb)
        clear hb e0 HS5 C1
        have e0 := HS6.out.box.cell 0
        simp at e0
        go_wp2_with fail
        refine (C2.out _ HS6.out).mono ?_; intro e y6 hp; obtain ⟨s, rfl, ho, hb⟩ := hp
        have HI := Lib.hid ho.isD
        have HS7 := Lib.hid (HS6.out.later hb)
        clear hb ho e0 HS6 C2
        go_wp2_with fail
        refine (C3.out _ _ HI.out).mono ?_; rintro e y7 ⟨rfl, hb⟩
        have HS8 := Lib.hid (HS7.out.later hb)
        clear hb HS7 HI C3
        have e0 := HS8.out.box.cell 0
        simp at e0
        go_wp2_with fail
        refine (C4.out _ HS8.out).mono ?_; intro e y8 hp; obtain ⟨s, rfl, ho, hb⟩ := hp
        have HI := Lib.hid ho.isD
        have HS9 := Lib.hid (HS8.out.later hb)
        clear hb ho e0 HS8 C4
        by_cases ha : a = -1
        · rw [if_pos ha] at C5
          have t1 := t1 ha
          have n1 : (a == -1) = true := by simp [ha]
          by_cases hq0 : q = 0
          · rw [if_pos hq0, Prod.mk.injEq] at t1
            obtain ⟨rfl, rfl⟩ := t1
            subst hq0
            clear hok t2 hz hm1 ha
            go_wp2_with fail
            refine (C5.out _ _ HI.out).mono ?_; rintro e ya ⟨rfl, hb⟩
            have HSa := Lib.hid (HS9.out.later hb)
            clear hb HS9 HI C5
            go_wp2
            go_ret
            exact ⟨rfl, HSa.out.bel⟩
          · rw [if_neg hq0, Prod.mk.injEq] at t1
            obtain ⟨rfl, rfl⟩ := t1
            have n2 : ((q : Int) == 0) = false := by rw [beq_eq_false_iff_ne]; omega
            have n3 : (q : Int) > 0 := by omega
            have n4 : decide ((q : Int) > 0) = true := decide_eq_true n3
            clear hok t2 hz hm1 ha hq0
            go_wp2_with fail
            refine (C5.out _ _ HI.out).mono ?_; rintro e ya ⟨rfl, hb⟩
            have HSa := Lib.hid (HS9.out.later hb)
            clear hb HS9 HI C5
            go_wp2
            go_ret
            exact ⟨rfl, HSa.out.bel⟩
        · rw [if_neg ha] at C5
          obtain ⟨t3, t4, t5⟩ := t2 ha
          have n1 : (a == -1) = false := by rw [beq_eq_false_iff_ne]; exact ha
          have hm0 : 0 ≤ a * (q : Int) := Int.mul_nonneg (by omega) (by omega)
          have hm2 : a * (q : Int) ≤ 1099511627776 * 255 := Int.mul_le_mul hm1.1 (by omega) (by omega) (by omega)
          have HM : Hid (wrap64 (a * (q : Int)) = a * (q : Int)) := by unfold Hid wrap64; omega
          have n2 : (x != min (a * (q : Int)) 1099511627776) = false := by rw [t3]; unfold mxS; simp
          have n2' : (x != min (wrap64 (a * (q : Int))) 1099511627776) = false := by rw [HM.out]; exact n2
          clear t1 t2
          by_cases hq0 : q = 0
          · obtain rfl := t4 hq0
            subst hq0
            clear hok hz hm1 ha t3 t4 t5 hm0 hm2
            go_wp2_with fail
            refine (C5.out _ _ HI.out).mono ?_; rintro e ya ⟨rfl, hb⟩
            have HSa := Lib.hid (HS9.out.later hb)
            clear hb HS9 HI C5
            go_wp2
            go_ret
            exact ⟨rfl, HSa.out.bel⟩
          · obtain ⟨t6, t7⟩ := t5 hq0
            have m2 : ((q : Int) == 0) = false := by rw [beq_eq_false_iff_ne]; omega
            by_cases hb : b = -1
            · obtain rfl := t6.2 (.inl hb)
              have m3 : (b == -1) = true := by simp [hb]
              clear hok hz hm1 ha t3 t4 t5 t6 t7 hm0 hm2 hq0 hb
              go_wp2_with fail
              refine (C5.out _ _ HI.out).mono ?_; rintro e ya ⟨rfl, hb⟩
              have HSa := Lib.hid (HS9.out.later hb)
              clear hb HS9 HI C5
              go_wp2
              go_ret
              exact ⟨rfl, HSa.out.bel⟩
            · have m3 : (b == -1) = false := by rw [beq_eq_false_iff_ne]; exact hb
              have hn0 : 0 ≤ b * (q : Int) := Int.mul_nonneg (by omega) (by omega)
              have hn2 : b * (q : Int) ≤ 1099511627776 * 255 := Int.mul_le_mul hm1.2 (by omega) (by omega) (by omega)
              have HN : Hid (wrap64 (b * (q : Int)) = b * (q : Int)) := by unfold Hid wrap64; omega
              by_cases hbig : mxS < b * (q : Int)
              · obtain rfl := t6.2 (.inr hbig)
                have m4 : decide (wrap64 (b * (q : Int)) > 1099511627776) = true := by rw [HN.out]; exact decide_eq_true hbig
                have m5 : wrap64 (b * (q : Int)) > 1099511627776 := by rw [HN.out]; exact hbig
                clear hok hz hm1 ha t3 t4 t5 t6 t7 hm0 hm2 hq0 hb hn0 hn2 hbig
                go_wp2_with fail
                refine (C5.out _ _ HI.out).mono ?_; rintro e ya ⟨rfl, hb⟩
                have HSa := Lib.hid (HS9.out.later hb)
                clear hb HS9 HI C5
                go_wp2
                go_ret
                exact ⟨rfl, HSa.out.bel⟩
              · have hy : y ≠ -1 := fun e => by rcases t6.1 e with h | h; exact hb h; exact hbig h
                have hy2 : y = b * (q : Int) := by rcases t7 with h | h; exact absurd h hy; exact h
                have m4 : decide (wrap64 (b * (q : Int)) > 1099511627776) = false := by rw [HN.out]; exact decide_eq_false hbig
                have m5 : ¬ wrap64 (b * (q : Int)) > 1099511627776 := by rw [HN.out]; exact hbig
                have m6 : (y == -1) = false := by rw [beq_eq_false_iff_ne]; exact hy
                have m7 : (y == wrap64 (b * (q : Int))) = true := by rw [HN.out, hy2]; simp
                clear hok hz hm1 ha t3 t4 t5 t6 t7 hm0 hm2 hq0 hb hn0 hn2 hbig hy hy2
                go_wp2_with fail
                refine (C5.out _ _ HI.out).mono ?_; rintro e ya ⟨rfl, hb⟩
                have HSa := Lib.hid (HS9.out.later hb)
                clear hb HS9 HI C5
                go_wp2
                go_ret
                exact ⟨rfl, HSa.out.bel⟩
      · have hvz : ((v : Int) != 0) = true := by rw [bne_iff_ne]; omega
        clear HZ hv
        go_wp2_with fail
        refine (CO3.out _ HS4.out).mono ?_; rintro e y4 ⟨rfl, hb⟩
        have HS5 := Lib.hid (HS4.out.later hb)
        clear hb e0 HS4 CO3
        go_wp2_with fail
        refine (awake10_any _).mono ?_; rintro e WN ⟨rfl, hb⟩
        have HSY := Lib.hid (HS5.out.later hb)
        clear hb
        go_wp2
        go_ret
        exact ⟨rfl, HSY.out.bel⟩
end Go.Proofs.Ytplgokgjcclhaaa
/- The statement SpanBuilt of layer 10, walked. -/
namespace Go.Proofs.Ytplgokgjcclhaaa
open Go Go.RowKit
set_option linter.unusedVariables false
set_option linter.unusedSimpArgs false

theorem ne_b {a b : Int} (h : a ≠ b) : (a == b) = false := beq_eq_false_iff_ne.2 h
theorem nb_b {a b : Int} (h : a ≠ b) : (a != b) = true := bne_iff_ne.2 h
theorem eq_b {a b : Int} (h : a = b) : (a == b) = true := by simp [h]
theorem ns_b {a b : Int} (h : a = b) : (a != b) = false := by simp [h]
set_option maxHeartbeats 64000000 in
set_option maxRecDepth 1000000 in
theorem spanbuilt_walk (l m : List Nd) (A B : Option Addr) (c1 c2 : Nat) (hc1 : l.length ≤ c1) (hc2 : m.length ≤ c2) (hl : l.length ≤ 9223372036854775807) (hm : m.length ≤ 9223372036854775807) (htx : Txt l) (htm : Txt m) (w : World) (hrow : NRow w A l) (hrm : NRow w B m) :
    Calls Try.prog 5 #[.agg #[.slice A l.length c1], .agg #[.slice B m.length c2]] w (Ans w (.bool true)) := by
  have HS0 := Lib.hid (RsS.new w A B l m c1 c2 hrow hrm)
  have HTX := Lib.hid htx
  have HTM := Lib.hid htm
  clear hrow hrm htx htm
  go_enter Try.func5, Try.ntmps5
  go_upto_region 1 with (fail)
  generalize (w.alloc (.cells #[.slice A l.length c1] 24)).alloc (.cells #[.slice B m.length c2] 24) = w1 at *
  go_wp2_with fail
  refine (awake10_any _).mono ?_; rintro e w2 ⟨rfl, hb⟩
  have HS1 := Lib.hid (HS0.out.later hb)
  clear hb HS0
  have e0 := HS1.out.ba.cell 0
  have e1 := HS1.out.bb.cell 0
  simp at e0 e1
  have HF := Lib.hid (few_any l A c1 hl HTX.out _ HS1.out.ra)
  cases hf : fewB l with
  | false =>
    rw [hf] at HF
    clear hf
    go_wp2_with fail
    refine HF.out.mono ?_; rintro e w3 ⟨rfl, hb⟩
    have HSZ := Lib.hid (HS1.out.later hb)
    clear hb e0 e1 HF HS1
    go_wp2_with fail
    refine (awake10_any _).mono ?_; rintro e WN ⟨rfl, hb⟩
    have HSY := Lib.hid (HSZ.out.later hb)
    clear hb
    go_wp2
    go_ret
    exact ⟨rfl, HSY.out.bel⟩
  | true =>
    rw [hf] at HF
    have HfewBl := Lib.hid hf
    clear hf
    go_wp2_with fail
    refine HF.out.mono ?_; rintro e y1 ⟨rfl, hb⟩
    have HS2 := Lib.hid (HS1.out.later hb)
    clear hb e0 e1 HF HS1
    have e0 := HS2.out.ba.cell 0
    have e1 := HS2.out.bb.cell 0
    simp at e0 e1
    have HF := Lib.hid (few_any m B c2 hm HTM.out _ HS2.out.rb)
    cases hf : fewB m with
    | false =>
      rw [hf] at HF
      clear hf
      go_wp2_with fail
      refine HF.out.mono ?_; rintro e w3 ⟨rfl, hb⟩
      have HSZ := Lib.hid (HS2.out.later hb)
      clear hb e0 e1 HF HS2
      go_wp2_with fail
      refine (awake10_any _).mono ?_; rintro e WN ⟨rfl, hb⟩
      have HSY := Lib.hid (HSZ.out.later hb)
      clear hb
      go_wp2
      go_ret
      exact ⟨rfl, HSY.out.bel⟩
    | true =>
      rw [hf] at HF
      have HfewBm := Lib.hid hf
      clear hf
      go_wp2_with fail
      refine HF.out.mono ?_; rintro e y2 ⟨rfl, hb⟩
      have HS3 := Lib.hid (HS2.out.later hb)
      clear hb e0 e1 HF HS2
      have e0 := HS3.out.ba.cell 0
      have e1 := HS3.out.bb.cell 0
      simp at e0 e1
      have HF := Lib.hid (rright_any l A c1 hc1 (by have := (few_txt HfewBl.out).1; omega) HTX.out _ HS3.out.ra)
      cases hf : rgB l with
      | false =>
        rw [hf] at HF
        clear hf
        go_wp2_with fail
        refine HF.out.mono ?_; rintro e w3 ⟨rfl, hb⟩
        have HSZ := Lib.hid (HS3.out.later hb)
        clear hb e0 e1 HF HS3
        go_wp2_with fail
        refine (awake10_any _).mono ?_; rintro e WN ⟨rfl, hb⟩
        have HSY := Lib.hid (HSZ.out.later hb)
        clear hb
        go_wp2
        go_ret
        exact ⟨rfl, HSY.out.bel⟩
      | true =>
        rw [hf] at HF
        have HrgBl := Lib.hid hf
        clear hf
        go_wp2_with fail
        refine HF.out.mono ?_; rintro e y3 ⟨rfl, hb⟩
        have HS4 := Lib.hid (HS3.out.later hb)
        clear hb e0 e1 HF HS3
        have e0 := HS4.out.ba.cell 0
        have e1 := HS4.out.bb.cell 0
        simp at e0 e1
        have HF := Lib.hid (rright_any m B c2 hc2 (by have := (few_txt HfewBm.out).1; omega) HTM.out _ HS4.out.rb)
        cases hf : rgB m with
        | false =>
          rw [hf] at HF
          clear hf
          go_wp2_with fail
          refine HF.out.mono ?_; rintro e w3 ⟨rfl, hb⟩
          have HSZ := Lib.hid (HS4.out.later hb)
          clear hb e0 e1 HF HS4
          go_wp2_with fail
          refine (awake10_any _).mono ?_; rintro e WN ⟨rfl, hb⟩
          have HSY := Lib.hid (HSZ.out.later hb)
          clear hb
          go_wp2
          go_ret
          exact ⟨rfl, HSY.out.bel⟩
        | true =>
          rw [hf] at HF
          have HrgBm := Lib.hid hf
          clear hf
          go_wp2_with fail
          refine HF.out.mono ?_; rintro e y4 ⟨rfl, hb⟩
          have HS5 := Lib.hid (HS4.out.later hb)
          clear hb e0 e1 HF HS4
          have hrl := (rgB_iff l).1 HrgBl.out
          have hrm := (rgB_iff m).1 HrgBm.out
          have HSP := Lib.hid (few_sp HfewBl.out hrl.1)
          have HSQ := Lib.hid (few_sp HfewBm.out hrm.1)
          have hln := (few_txt HfewBl.out).1
          have hmn := (few_txt HfewBm.out).1
          have hpl := hrl.1.1
          have hpm := hrm.1.1
          have hp1 : SpOk (spD l) := spN_ok hrl.1 (l.length - 1) (by omega)
          have hq1 : SpOk (spD m) := spN_ok hrm.1 (m.length - 1) (by omega)
          have good : ∀ {r : List Nd}, Sp r → 0 < r.length → (spD r).1 ≤ 1099511627776 ∧ (spD r).2 ≤ 1099511627776 := fun {r} h h0 => by
            have h9 := sps_good h.nd (r.length - 1 + 1) (by omega) (spN r (r.length - 1)) (by
              rw [← sps_get r (r.length - 1 + 1) (r.length - 1) (by omega), List.getD_eq_getElem?_getD, List.getElem?_eq_getElem (by rw [sps_length]; omega)]
              exact List.getElem_mem _)
            exact h9.2
          have hgp := good HSP.out hpl
          have hgq := good HSQ.out hpm
          have hbs := built_s hp1 hq1
          have hS : spD (pairL 4 l m) = seqS (spD l) (spD m) := by rw [span_pair hpl hrm.1 (.inl rfl)]; rfl
          have hO : spD (pairL 5 m l) = orS (spD m) (spD l) := by rw [span_pair hpm hrl.1 (.inr rfl)]; rfl
          have hFr : spD (wrapL 8 0 0 l) = frmS 255 1 (spD l) := by rw [span_wrap hpl (by decide)]; rfl
          have hIl : ∀ w', RsS w A B l m c1 c2 w' → IsD l (.agg #[.slice A l.length c1]) w' := fun w' h => ⟨A, c1, hc1, rfl, h.ra⟩
          have hIm : ∀ w', RsS w A B l m c1 c2 w' → IsD m (.agg #[.slice B m.length c2]) w' := fun w' h => ⟨B, c2, hc2, rfl, h.rb⟩
          have K1 := Lib.hid (fun w' h => (hIl w' h).spof HSP.out rfl)
          have K2 := Lib.hid (fun w' h => (hIm w' h).spof HSQ.out rfl)
          have K3 := Lib.hid (fun w' h => (hIl w' h).rpair (hIm w' h) HSP.out.sm HSQ.out.sm 4)
          have K4 := Lib.hid (fun w' v (h : IsD (pairL 4 l m) v w') => h.spof (HSP.out.pair HSQ.out (by omega) (.inl rfl)) hS)
          have K5 := Lib.hid (fun w' h => (hIm w' h).rpair (hIl w' h) HSQ.out.sm HSP.out.sm 5)
          have K6 := Lib.hid (fun w' v (h : IsD (pairL 5 m l) v w') => h.spof (HSQ.out.pair HSP.out (by omega) (.inr rfl)) hO)
          have K7 := Lib.hid (fun w' h => (hIl w' h).rwrap HSP.out.sm 8 0 0)
          have K8 := Lib.hid (fun w' v (h : IsD (wrapL 8 0 0 l) v w') => h.spof (HSP.out.wrap (by omega) (.inr (.inl rfl))) hFr)
          clear hS hO hFr hIl hIm good hrl hrm
          generalize seqS (spD l) (spD m) = s at *
          generalize orS (spD m) (spD l) = ob at *
          generalize frmS 255 1 (spD l) = f at *
          generalize spD l = p at *
          generalize spD m = q at *
          obtain ⟨a, b⟩ := p
          obtain ⟨x, y⟩ := q
          obtain ⟨s, t⟩ := s
          obtain ⟨ob, u⟩ := ob
          obtain ⟨f, g⟩ := f
          obtain ⟨s1, o1, f1, f2, s2, o2⟩ := hbs
          unfold SpOk at hp1 hq1
          simp only at K1 K2 K4 K6 K8 hp1 hq1 hgp hgq s1 o1 f1 f2 s2 o2
          have e0 := HS5.out.ba.cell 0
          have e1 := HS5.out.bb.cell 0
          simp at e0 e1
          go_wp2_with fail
          refine (K1.out _ HS5.out).mono ?_; rintro e y5 ⟨rfl, hb⟩
          have HS6 := Lib.hid (HS5.out.later hb)
          clear hb e0 e1 HS5 K1
          have e0 := HS6.out.ba.cell 0
          have e1 := HS6.out.bb.cell 0
          simp at e0 e1
          go_wp2_with fail
          refine (K2.out _ HS6.out).mono ?_; rintro e y6 ⟨rfl, hb⟩
          have HS7 := Lib.hid (HS6.out.later hb)
          clear hb e0 e1 HS6 K2
          have e0 := HS7.out.ba.cell 0
          have e1 := HS7.out.bb.cell 0
          simp at e0 e1
          go_wp2_with fail
          refine (K3.out _ HS7.out).mono ?_; intro e y7 hp; obtain ⟨sv, rfl, ho, hb⟩ := hp
          have HI := Lib.hid ho.isD
          have HS8 := Lib.hid (HS7.out.later hb)
          clear hb ho e0 e1 HS7 K3
          go_wp2_with fail
          refine (K4.out _ _ HI.out).mono ?_; rintro e y8 ⟨rfl, hb⟩
          have HS9 := Lib.hid (HS8.out.later hb)
          clear hb HS8 HI K4
          have e0 := HS9.out.ba.cell 0
          have e1 := HS9.out.bb.cell 0
          simp at e0 e1
          go_wp2_with fail
          refine (K5.out _ HS9.out).mono ?_; intro e y9 hp; obtain ⟨sv, rfl, ho, hb⟩ := hp
          have HI := Lib.hid ho.isD
          have HS10 := Lib.hid (HS9.out.later hb)
          clear hb ho e0 e1 HS9 K5
          go_wp2_with fail
          refine (K6.out _ _ HI.out).mono ?_; rintro e y10 ⟨rfl, hb⟩
          have HS11 := Lib.hid (HS10.out.later hb)
          clear hb HS10 HI K6
          have e0 := HS11.out.ba.cell 0
          have e1 := HS11.out.bb.cell 0
          simp at e0 e1
          go_wp2_with fail
          refine (K7.out _ HS11.out).mono ?_; intro e y11 hp; obtain ⟨sv, rfl, ho, hb⟩ := hp
          have HI := Lib.hid ho.isD
          have HS12 := Lib.hid (HS11.out.later hb)
          clear hb ho e0 e1 HS11 K7
          go_wp2_with fail
          refine (K8.out _ _ HI.out).mono ?_; rintro e y12 ⟨rfl, hb⟩
          have HS13 := Lib.hid (HS12.out.later hb)
          clear hb HS12 HI K8
          go_upto_region 8 with (fail)
          have HB := Lib.hid HS13.out.bel
          have S1 := Lib.hid s1
          have O1 := Lib.hid o1
          have F1 := Lib.hid f1
          have F2 := Lib.hid f2
          have S2 := Lib.hid s2
          have O2 := Lib.hid o2
          clear s1 o1 f1 f2 s2 o2
          have hw1 : -1 ≤ a ∧ a ≤ 1099511627776 := by omega
          have hw2 : -1 ≤ b ∧ b ≤ 1099511627776 := by omega
          have hw3 : -1 ≤ x ∧ x ≤ 1099511627776 := by omega
          have hw4 : -1 ≤ y ∧ y ≤ 1099511627776 := by omega
          clear HS13 HTX HTM HfewBl HfewBm HrgBl HrgBm HSP HSQ hln hmn hpl hpm hc1 hc2 hl hm hgp hgq
          by_cases ha : a = -1
          · have hs : s = -1 := S1.out.2 (.inl ha)
            have hf : f = -1 := F1.out.2 (.inl ha)
            have m1 := eq_b ha
            have m2 := eq_b hs
            have m3 := eq_b hf
            have m4 := ns_b hs
            have m5 := ns_b hf
            by_cases hx : x = -1
            · have m6 := eq_b hx
              have m7 := eq_b (O1.out.2 ⟨ha, hx⟩)
              clear ha hs hf hx
              clear hp1 hq1 S1 O1 F1 F2 S2 O2
              go_wp2
              go_ret
              exact ⟨rfl, HB.out⟩
            · have m6 := ne_b hx
              have m7 := ne_b (fun e => hx (O1.out.1 e).2)
              clear ha hs hf hx
              clear hp1 hq1 S1 O1 F1 F2 S2 O2
              go_wp2
              go_ret
              exact ⟨rfl, HB.out⟩
          · have m1 := ne_b ha
            by_cases hx : x = -1
            · have hs : s = -1 := S1.out.2 (.inr hx)
              have m2 := eq_b hs
              have m4 := ns_b hs
              have m6 := eq_b hx
              have m7 := ne_b (fun e => ha (O1.out.1 e).1)
              by_cases hg : a > 255
              · have hf : f = -1 := F1.out.2 (.inr (by omega))
                have q1 := decide_eq_true hg
                have q2 := eq_b hf
                have q3 := ns_b hf
                clear ha hs hf hx hg
                clear hp1 hq1 S1 O1 F1 F2 S2 O2
                go_wp2
                go_ret
                exact ⟨rfl, HB.out⟩
              · have hf : f ≠ -1 := fun e => by rcases F1.out.1 e with h | h; exact ha h; exact hg h
                obtain ⟨g1, g2, g3, g4⟩ := F2.out hf
                have q1 := decide_eq_false hg
                have q2 := ne_b hf
                have q3 := nb_b hf
                have q4 := ns_b g1
                have q5 : ¬ g > 256 := by omega
                have q6 := decide_eq_false q5
                have q7 : ¬ g < f := by omega
                have q8 := decide_eq_false q7
                by_cases hb : b = -1
                · have q9 := ns_b hb
                  clear ha hs hf hx hg hb g1 g2 g3 g4
                  clear hp1 hq1 S1 O1 F1 F2 S2 O2
                  go_wp2
                  go_ret
                  exact ⟨rfl, HB.out⟩
                · have q9 := nb_b hb
                  by_cases hc : b ≤ 255
                  · have qa := decide_eq_true hc
                    have qb := ns_b (g4 hb hc)
                    clear ha hs hf hx hg hb g1 g2 g3 g4
                    clear hp1 hq1 S1 O1 F1 F2 S2 O2
                    go_wp2
                    go_ret
                    exact ⟨rfl, HB.out⟩
                  · have qa := decide_eq_false hc
                    clear ha hs hf hx hg hb g1 g2 g3 g4
                    clear hp1 hq1 S1 O1 F1 F2 S2 O2
                    go_wp2
                    go_ret
                    exact ⟨rfl, HB.out⟩
            · have hs : s ≠ -1 := fun e => by rcases S1.out.1 e with h | h; exact ha h; exact hx h
              obtain ⟨k1, k2, k3⟩ := S2.out hs
              obtain ⟨o3, o4, o5⟩ := O2.out ha hx
              have m2 := ne_b hs
              have m4 := nb_b hs
              have m6 := ne_b hx
              have m7 := ne_b (fun e => ha (O1.out.1 e).1)
              replace k1 : s = min (a + x) 1099511627776 := k1
              have k4 := ns_b k1
              have k5 := eq_b o3
              replace k2 : t = -1 ↔ b = -1 ∨ y = -1 ∨ 1099511627776 < b + y := k2
              by_cases hg : a > 255
              · have hf : f = -1 := F1.out.2 (.inr (by omega))
                have q1 := decide_eq_true hg
                have q2 := eq_b hf
                have q3 := ns_b hf
                by_cases hb : b = -1
                · have q9 := ns_b hb
                  have r0 := eq_b hb
                  have r2 := eq_b (k2.2 (.inl hb))
                  have r2' := ns_b (k2.2 (.inl hb))
                  have r3 := eq_b (o4.2 (.inl hb))
                  clear ha hs hf hx hg hb k1 k2 k3 o3 o4 o5
                  clear hp1 hq1 S1 O1 F1 F2 S2 O2
                  go_wp2
                  go_ret
                  exact ⟨rfl, HB.out⟩
                · have q9 := nb_b hb
                  have r0 := ne_b hb
                  by_cases hy : y = -1
                  · have r1 := eq_b hy
                    have r2 := eq_b (k2.2 (.inr (.inl hy)))
                    have r2' := ns_b (k2.2 (.inr (.inl hy)))
                    have r3 := eq_b (o4.2 (.inr hy))
                    clear ha hs hf hx hg hb k1 k2 k3 o3 o4 o5 hy
                    clear hp1 hq1 S1 O1 F1 F2 S2 O2
                    go_wp2
                    go_ret
                    exact ⟨rfl, HB.out⟩
                  · have r1 := ne_b hy
                    have hu : u ≠ -1 := fun e => by rcases o4.1 e with h | h; exact hb h; exact hy h
                    have r3 := ne_b hu
                    have r4 : (u == max b y) = true := by rcases o5 with h | h; exact absurd h hu; exact eq_b h
                    by_cases hz : b + y > 1099511627776
                    · have r5 := decide_eq_true hz
                      have r2 := eq_b (k2.2 (.inr (.inr hz)))
                      have r2' := ns_b (k2.2 (.inr (.inr hz)))
                      clear ha hs hf hx hg hb k1 k2 k3 o3 o4 o5 hy hu
                      clear hp1 hq1 S1 O1 F1 F2 S2 O2
                      go_wp2
                      go_ret
                      exact ⟨rfl, HB.out⟩
                    · have r5 := decide_eq_false hz
                      have ht : t ≠ -1 := fun e => by rcases k2.1 e with h | h | h; exact hb h; exact hy h; exact hz h
                      have r2 := ne_b ht
                      have r2' := nb_b ht
                      have r6 := ns_b (k3 ht)
                      clear ha hs hf hx hg hb k1 k2 k3 o3 o4 o5 hy hu ht
                      clear hp1 hq1 S1 O1 F1 F2 S2 O2
                      go_wp2
                      go_ret
                      exact ⟨rfl, HB.out⟩
              · have hf : f ≠ -1 := fun e => by rcases F1.out.1 e with h | h; exact ha h; exact hg h
                obtain ⟨g1, g2, g3, g4⟩ := F2.out hf
                have q1 := decide_eq_false hg
                have q2 := ne_b hf
                have q3 := nb_b hf
                have q4 := ns_b g1
                have q5 : ¬ g > 256 := by omega
                have q6 := decide_eq_false q5
                have q7 : ¬ g < f := by omega
                have q8 := decide_eq_false q7
                by_cases hb : b = -1
                · have q9 := ns_b hb
                  have r0 := eq_b hb
                  have r2 := eq_b (k2.2 (.inl hb))
                  have r2' := ns_b (k2.2 (.inl hb))
                  have r3 := eq_b (o4.2 (.inl hb))
                  clear ha hs hf hx hg hb g1 g2 g3 g4 k1 k2 k3 o3 o4 o5
                  clear hp1 hq1 S1 O1 F1 F2 S2 O2
                  go_wp2
                  go_ret
                  exact ⟨rfl, HB.out⟩
                · have q9 := nb_b hb
                  have r0 := ne_b hb
                  by_cases hc : b ≤ 255
                  · have qa := decide_eq_true hc
                    have qb := ns_b (g4 hb hc)
                    by_cases hy : y = -1
                    · have r1 := eq_b hy
                      have r2 := eq_b (k2.2 (.inr (.inl hy)))
                      have r2' := ns_b (k2.2 (.inr (.inl hy)))
                      have r3 := eq_b (o4.2 (.inr hy))
                      clear ha hs hf hx hg hb g1 g2 g3 g4 k1 k2 k3 o3 o4 o5 hy
                      clear hp1 hq1 S1 O1 F1 F2 S2 O2
                      go_wp2
                      go_ret
                      exact ⟨rfl, HB.out⟩
                    · have r1 := ne_b hy
                      have hu : u ≠ -1 := fun e => by rcases o4.1 e with h | h; exact hb h; exact hy h
                      have r3 := ne_b hu
                      have r4 : (u == max b y) = true := by rcases o5 with h | h; exact absurd h hu; exact eq_b h
                      by_cases hz : b + y > 1099511627776
                      · have r5 := decide_eq_true hz
                        have r2 := eq_b (k2.2 (.inr (.inr hz)))
                        have r2' := ns_b (k2.2 (.inr (.inr hz)))
                        clear ha hs hf hx hg hb g1 g2 g3 g4 k1 k2 k3 o3 o4 o5 hy hu
                        clear hp1 hq1 S1 O1 F1 F2 S2 O2
                        go_wp2
                        go_ret
                        exact ⟨rfl, HB.out⟩
                      · have r5 := decide_eq_false hz
                        have ht : t ≠ -1 := fun e => by rcases k2.1 e with h | h | h; exact hb h; exact hy h; exact hz h
                        have r2 := ne_b ht
                        have r2' := nb_b ht
                        have r6 := ns_b (k3 ht)
                        clear ha hs hf hx hg hb g1 g2 g3 g4 k1 k2 k3 o3 o4 o5 hy hu ht
                        clear hp1 hq1 S1 O1 F1 F2 S2 O2
                        go_wp2
                        go_ret
                        exact ⟨rfl, HB.out⟩
                  · have qa := decide_eq_false hc
                    by_cases hy : y = -1
                    · have r1 := eq_b hy
                      have r2 := eq_b (k2.2 (.inr (.inl hy)))
                      have r2' := ns_b (k2.2 (.inr (.inl hy)))
                      have r3 := eq_b (o4.2 (.inr hy))
                      clear ha hs hf hx hg hb g1 g2 g3 g4 k1 k2 k3 o3 o4 o5 hy
                      clear hp1 hq1 S1 O1 F1 F2 S2 O2
                      go_wp2
                      go_ret
                      exact ⟨rfl, HB.out⟩
                    · have r1 := ne_b hy
                      have hu : u ≠ -1 := fun e => by rcases o4.1 e with h | h; exact hb h; exact hy h
                      have r3 := ne_b hu
                      have r4 : (u == max b y) = true := by rcases o5 with h | h; exact absurd h hu; exact eq_b h
                      by_cases hz : b + y > 1099511627776
                      · have r5 := decide_eq_true hz
                        have r2 := eq_b (k2.2 (.inr (.inr hz)))
                        have r2' := ns_b (k2.2 (.inr (.inr hz)))
                        clear ha hs hf hx hg hb g1 g2 g3 g4 k1 k2 k3 o3 o4 o5 hy hu
                        clear hp1 hq1 S1 O1 F1 F2 S2 O2
                        go_wp2
                        go_ret
                        exact ⟨rfl, HB.out⟩
                      · have r5 := decide_eq_false hz
                        have ht : t ≠ -1 := fun e => by rcases k2.1 e with h | h | h; exact hb h; exact hy h; exact hz h
                        have r2 := ne_b ht
                        have r2' := nb_b ht
                        have r6 := ns_b (k3 ht)
                        clear ha hs hf hx hg hb g1 g2 g3 g4 k1 k2 k3 o3 o4 o5 hy hu ht
                        clear hp1 hq1 S1 O1 F1 F2 S2 O2
                        go_wp2
                        go_ret
                        exact ⟨rfl, HB.out⟩
end Go.Proofs.Ytplgokgjcclhaaa
