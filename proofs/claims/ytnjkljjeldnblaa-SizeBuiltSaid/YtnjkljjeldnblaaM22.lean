/- The statement SizeBuilt of layer 7, walked. -/
import Derived.Test.YtnjkljjeldnblaaM21
namespace Go.Proofs.Ytnjkljjeldnblaa
open Go Go.RowKit
set_option linter.unusedVariables false
set_option linter.unusedSimpArgs false

theorem built_math {x k r s p : Nat} (hr : r = min (oneS 7 (k : Int) x + 1) szM) (hs : s = min (oneS 7 ((k : Int) + 1) x + 1) szM) (hp : p = min (x + 1) szM) :
    ((s : Int) = (r : Int) + ((p : Int) - 1) ∨ s = 1099511627776) ∧ r ≤ 1099511627776 ∧ s ≤ 1099511627776 ∧ 1 ≤ p ∧ p ≤ 1099511627776 := by
  have e7 : oneS 7 (k : Int) x = min (k * x) szM := by unfold oneS; rw [if_neg (by decide), if_pos rfl, Int.toNat_natCast]
  have e8 : oneS 7 ((k : Int) + 1) x = min (k * x + x) szM := by unfold oneS; rw [if_neg (by decide), if_pos rfl, show ((k : Int) + 1).toNat = k + 1 by omega, Nat.add_mul, Nat.one_mul]
  rw [e7] at hr
  rw [e8] at hs
  clear e7 e8
  have hM : szM = 1099511627776 := szM_eq
  generalize szM = M at *
  generalize k * x = y at *
  omega
theorem IsD.sizes {l : List Nd} {u : Value} {w : World} (h : IsD l u w) (hs : Sm l) {x : Nat} (hx : szD l = x) : Calls Try.prog 10 #[u] w (Ans w (.int .i64 (x : Int))) := h.sofV hs hx
set_option maxHeartbeats 64000000 in
set_option maxRecDepth 1000000 in
theorem sizebuilt_walk (a b : List Nd) (A B : Option Addr) (c1 c2 k : Nat) (hk : k < 256) (hc1 : a.length ≤ c1) (hc2 : b.length ≤ c2) (hl : a.length ≤ 9223372036854775807) (hm : b.length ≤ 9223372036854775807) (htx : Txt a) (htm : Txt b) (w : World) (hrow : NRow w A a) (hrm : NRow w B b) :
    Calls Try.prog 5 #[.agg #[.slice A a.length c1], .agg #[.slice B b.length c2], .int .u8 (k : Int)] w (Ans w (.bool true)) := by
  have HS0 := Lib.hid (RsS.new w A B a b c1 c2 hrow hrm)
  have HTX := Lib.hid htx
  have HTM := Lib.hid htm
  clear hrow hrm htx htm
  go_enter Try.func5, Try.ntmps5
  go_upto_region 1 with (fail)
  generalize (w.alloc (.cells #[.slice A a.length c1] 24)).alloc (.cells #[.slice B b.length c2] 24) = w1 at *
  go_wp2_with fail
  refine (awake7_any _).mono ?_; rintro e w2 ⟨rfl, hb⟩
  have HS1 := Lib.hid (HS0.out.later hb)
  clear hb HS0
  have e0 := HS1.out.ba.cell 0
  simp at e0
  try clear e0
  try clear e1
  have e0 := HS1.out.ba.cell 0
  have e1 := HS1.out.bb.cell 0
  simp at e0 e1
  have HF := Lib.hid (few_any a A c1 hl HTX.out _ HS1.out.ra)
  cases hf : fewB a with
  | false =>
    rw [hf] at HF
    clear hf
    go_wp2_with fail
    refine HF.out.mono ?_; rintro e w3 ⟨rfl, hb⟩
    have HSX := Lib.hid (HS1.out.later hb)
    clear hb e0 e1 HF HS1
    go_wp2_with fail
    refine (awake7_any _).mono ?_; rintro e WN ⟨rfl, hb⟩
    have HSY := Lib.hid (HSX.out.later hb)
    clear hb
    go_wp2
    go_ret
    exact ⟨rfl, HSY.out.bel⟩
  | true =>
    rw [hf] at HF
    have LA := Lib.hid ((few_txt hf).1)
    clear hf
    go_wp2_with fail
    refine HF.out.mono ?_; rintro e y1 ⟨rfl, hb⟩
    have HS2 := Lib.hid (HS1.out.later hb)
    clear hb e0 e1 HF HS1
    try clear e0
    try clear e1
    have e0 := HS2.out.ba.cell 0
    have e1 := HS2.out.bb.cell 0
    simp at e0 e1
    have HF := Lib.hid (few_any b B c2 hm HTM.out _ HS2.out.rb)
    cases hf : fewB b with
    | false =>
      rw [hf] at HF
      clear hf
      go_wp2_with fail
      refine HF.out.mono ?_; rintro e w3 ⟨rfl, hb⟩
      have HSX := Lib.hid (HS2.out.later hb)
      clear hb e0 e1 HF HS2
      go_wp2_with fail
      refine (awake7_any _).mono ?_; rintro e WN ⟨rfl, hb⟩
      have HSY := Lib.hid (HSX.out.later hb)
      clear hb
      go_wp2
      go_ret
      exact ⟨rfl, HSY.out.bel⟩
    | true =>
      rw [hf] at HF
      have LB := Lib.hid ((few_txt hf).1)
      clear hf
      go_wp2_with fail
      refine HF.out.mono ?_; rintro e y2 ⟨rfl, hb⟩
      have HS3 := Lib.hid (HS2.out.later hb)
      clear hb e0 e1 HF HS2
      try clear e0
      try clear e1
      have e0 := HS3.out.ba.cell 0
      have e1 := HS3.out.bb.cell 0
      simp at e0 e1
      have HF := Lib.hid (refform_any a A c1 (by have := LA.out; omega) HTX.out _ HS3.out.ra)
      cases hf : formB a with
      | false =>
        rw [hf] at HF
        clear hf
        go_wp2_with fail
        refine HF.out.mono ?_; rintro e w3 ⟨rfl, hb⟩
        have HSX := Lib.hid (HS3.out.later hb)
        clear hb e0 e1 HF HS3
        go_wp2_with fail
        refine (awake7_any _).mono ?_; rintro e WN ⟨rfl, hb⟩
        have HSY := Lib.hid (HSX.out.later hb)
        clear hb
        go_wp2
        go_ret
        exact ⟨rfl, HSY.out.bel⟩
      | true =>
        rw [hf] at HF
        have FA := Lib.hid ((formB_iff a).1 hf)
        clear hf
        go_wp2_with fail
        refine HF.out.mono ?_; rintro e y3 ⟨rfl, hb⟩
        have HS4 := Lib.hid (HS3.out.later hb)
        clear hb e0 e1 HF HS3
        try clear e0
        try clear e1
        have e0 := HS4.out.ba.cell 0
        have e1 := HS4.out.bb.cell 0
        simp at e0 e1
        have HF := Lib.hid (refform_any b B c2 (by have := LB.out; omega) HTM.out _ HS4.out.rb)
        cases hf : formB b with
        | false =>
          rw [hf] at HF
          clear hf
          go_wp2_with fail
          refine HF.out.mono ?_; rintro e w3 ⟨rfl, hb⟩
          have HSX := Lib.hid (HS4.out.later hb)
          clear hb e0 e1 HF HS4
          go_wp2_with fail
          refine (awake7_any _).mono ?_; rintro e WN ⟨rfl, hb⟩
          have HSY := Lib.hid (HSX.out.later hb)
          clear hb
          go_wp2
          go_ret
          exact ⟨rfl, HSY.out.bel⟩
        | true =>
          rw [hf] at HF
          have FB := Lib.hid ((formB_iff b).1 hf)
          clear hf
          go_wp2_with fail
          refine HF.out.mono ?_; rintro e y4 ⟨rfl, hb⟩
          have HS5 := Lib.hid (HS4.out.later hb)
          clear hb e0 e1 HF HS4
          by_cases h255 : k = 255
          · subst h255
            have HSX := HS5
            go_wp2_with fail
            refine (awake7_any _).mono ?_; rintro e WN ⟨rfl, hb⟩
            have HSY := Lib.hid (HSX.out.later hb)
            clear hb
            go_wp2
            go_ret
            exact ⟨rfl, HSY.out.bel⟩
          · have hkz : ((k : Int) == 255) = false := by rw [beq_eq_false_iff_ne]; omega
            have hla := LA.out
            have hlb := LB.out
            have hpa := FA.out.1
            have hpb := FB.out.1
            have SA : Hid (Sm a) := ⟨FA.out, by omega, HTX.out⟩
            have SB : Hid (Sm b) := ⟨FB.out, by omega, HTM.out⟩
            have CP : Hid (∀ w', RsS w A B a b c1 c2 w' → Calls Try.prog 17 #[.int .i64 4, .agg #[.slice A a.length c1], .agg #[.slice B b.length c2]] w' (DPost w' (pairL 4 a b))) := fun w' h => (show IsD a (.agg #[.slice A a.length c1]) w' from ⟨A, c1, hc1, rfl, h.ra⟩).rpair (show IsD b (.agg #[.slice B b.length c2]) w' from ⟨B, c2, hc2, rfl, h.rb⟩) SA.out SB.out 4
            have CQ : Hid (∀ w', RsS w A B a b c1 c2 w' → Calls Try.prog 17 #[.int .i64 5, .agg #[.slice B b.length c2], .agg #[.slice A a.length c1]] w' (DPost w' (pairL 5 b a))) := fun w' h => (show IsD b (.agg #[.slice B b.length c2]) w' from ⟨B, c2, hc2, rfl, h.rb⟩).rpair (show IsD a (.agg #[.slice A a.length c1]) w' from ⟨A, c1, hc1, rfl, h.ra⟩) SB.out SA.out 5
            have CR : Hid (∀ w', RsS w A B a b c1 c2 w' → Calls Try.prog 18 #[.int .i64 7, .int .i64 0, .int .i64 (k : Int), .agg #[.slice A a.length c1]] w' (DPost w' (wrapL 7 0 (k : Int) a))) := fun w' h => (show IsD a (.agg #[.slice A a.length c1]) w' from ⟨A, c1, hc1, rfl, h.ra⟩).rwrap SA.out 7 0 (k : Int)
            have CT : Hid (∀ w', RsS w A B a b c1 c2 w' → Calls Try.prog 18 #[.int .i64 7, .int .i64 ((k : Int) + 1), .int .i64 ((k : Int) + 1), .agg #[.slice A a.length c1]] w' (DPost w' (wrapL 7 ((k : Int) + 1) ((k : Int) + 1) a))) := fun w' h => (show IsD a (.agg #[.slice A a.length c1]) w' from ⟨A, c1, hc1, rfl, h.ra⟩).rwrap SA.out 7 ((k : Int) + 1) ((k : Int) + 1)
            have CS : Hid (∀ w', RsS w A B a b c1 c2 w' → Calls Try.prog 18 #[.int .i64 6, .int .i64 0, .int .i64 0, .agg #[.slice A a.length c1]] w' (DPost w' (wrapL 6 0 0 a))) := fun w' h => (show IsD a (.agg #[.slice A a.length c1]) w' from ⟨A, c1, hc1, rfl, h.ra⟩).rwrap SA.out 6 0 0
            have MP := Lib.hid (SA.out.pair SB.out (by omega) (kind := 4) (.inl rfl))
            have MQ := Lib.hid (SB.out.pair SA.out (by omega) (kind := 5) (.inr rfl))
            have MR := Lib.hid (SA.out.rep (by omega) (lo := 0) (hi := (k : Int)) (by omega) (by omega) (by omega))
            have MT := Lib.hid (SA.out.rep (by omega) (lo := (k : Int) + 1) (hi := (k : Int) + 1) (by omega) (by omega) (by omega))
            have MS := Lib.hid (SA.out.wrap (by omega) (kind := 6) (.inl rfl))
            obtain ⟨x, hxe⟩ : ∃ x, szN a (a.length - 1) = x := ⟨_, rfl⟩
            obtain ⟨y, hye⟩ : ∃ y, szN b (b.length - 1) = y := ⟨_, rfl⟩
            obtain ⟨p, hpe⟩ : ∃ p, szD a = p := ⟨_, rfl⟩
            obtain ⟨j, hje⟩ : ∃ j, szD (pairL 4 a b) = j := ⟨_, rfl⟩
            obtain ⟨r, hre⟩ : ∃ r, szD (wrapL 7 0 (k : Int) a) = r := ⟨_, rfl⟩
            obtain ⟨s, hse⟩ : ∃ s, szD (wrapL 7 ((k : Int) + 1) ((k : Int) + 1) a) = s := ⟨_, rfl⟩
            have ep : p = min (x + 1) szM := hpe.symm.trans (hxe ▸ szD_of a)
            have ej : j = min (min (x + y) szM + 1) szM := hje.symm.trans (hxe ▸ hye ▸ size_pair hpa FB.out (.inl rfl))
            have eq_ : szD (pairL 5 b a) = j := (hxe ▸ hye ▸ size_pair hpb FA.out (.inr rfl) : szD (pairL 5 b a) = min (min (y + x) szM + 1) szM).trans (by rw [ej, Nat.add_comm y x])
            have er : r = min (oneS 7 (k : Int) x + 1) szM := hre.symm.trans (hxe ▸ size_wrap hpa (by decide))
            have es : s = min (oneS 7 ((k : Int) + 1) x + 1) szM := hse.symm.trans (hxe ▸ size_wrap hpa (by decide))
            have et : szD (wrapL 6 0 0 a) = p := (hxe ▸ size_wrap hpa (by decide) : szD (wrapL 6 0 0 a) = min (oneS 6 0 x + 1) szM).trans (by rw [ep]; rfl)
            obtain ⟨hm1, hm2, hm3, hm4, hm5⟩ := built_math er es ep
            have hj5 : j ≤ szM := by rw [ej]; exact Nat.min_le_right _ _
            have HOp : Hid (∀ w' u, IsD (pairL 4 a b) u w' → Calls Try.prog 10 #[u] w' (Ans w' (.int .i64 (j : Int)))) := fun w' u h => h.sofV MP.out hje
            have HOq : Hid (∀ w' u, IsD (pairL 5 b a) u w' → Calls Try.prog 10 #[u] w' (Ans w' (.int .i64 (j : Int)))) := fun w' u h => h.sofV MQ.out eq_
            have HOr : Hid (∀ w' u, IsD (wrapL 7 0 (k : Int) a) u w' → Calls Try.prog 10 #[u] w' (Ans w' (.int .i64 (r : Int)))) := fun w' u h => h.sofV MR.out hre
            have HOt : Hid (∀ w' u, IsD (wrapL 7 ((k : Int) + 1) ((k : Int) + 1) a) u w' → Calls Try.prog 10 #[u] w' (Ans w' (.int .i64 (s : Int)))) := fun w' u h => h.sofV MT.out hse
            have HOs : Hid (∀ w' u, IsD (wrapL 6 0 0 a) u w' → Calls Try.prog 10 #[u] w' (Ans w' (.int .i64 (p : Int)))) := fun w' u h => h.sofV MS.out et
            have CO : Hid (∀ w', RsS w A B a b c1 c2 w' → Calls Try.prog 10 #[.agg #[.slice A a.length c1]] w' (Ans w' (.int .i64 (p : Int)))) := fun w' h => (show IsD a (.agg #[.slice A a.length c1]) w' from ⟨A, c1, hc1, rfl, h.ra⟩).sofV SA.out hpe
            have CB : Hid (∀ w', Calls Try.prog 14 #[.int .i64 (k : Int)] w' (Pure w' (.int .i64 ((bdN k : Nat) : Int)))) := fun w' => bound_any k (by omega) w'
            have CB1 : Hid (∀ w', Calls Try.prog 14 #[.int .i64 ((k : Int) + 1)] w' (Pure w' (.int .i64 ((bdN (k + 1) : Nat) : Int)))) := fun w' => bound_any (k + 1) (by omega) w'
            have hb2 := (bdN_le k).2
            have hb3 := bdN_mono k
            have hb4 : k ≤ 30 → bdN (k + 1) = 4 * bdN k := fun h => bdN_succ h
            have hb5 := (bdN_le (k + 1)).2
            clear ep ej eq_ er es et hpe hje hre hse hxe hye MP MQ MR MT MS hj5
            generalize bdN (k + 1) = z1 at *
            generalize bdN k = z at *
            have hjj : ((j : Int) == (j : Int)) = true := by simp
            have hpp : ((p : Int) == (p : Int)) = true := by simp
            have hzz : (z : Int) ≤ (z1 : Int) := by omega
            have hzd : decide ((z : Int) ≤ (z1 : Int)) = true := decide_eq_true hzz
            try clear e0
            try clear e1
            have e0 := HS5.out.ba.cell 0
            have e1 := HS5.out.bb.cell 0
            simp at e0 e1
            go_wp2_with fail
            refine (CP.out _ HS5.out).mono ?_; intro e v6 hp; obtain ⟨d1, rfl, ho, hb⟩ := hp
            have HI := Lib.hid ho.isD
            have HS6 := Lib.hid (HS5.out.later hb)
            clear hb ho e0 e1 HS5
            go_wp2_with fail
            refine (HOp.out _ _ HI.out).mono ?_; rintro e v7 ⟨rfl, hb⟩
            have HS7 := Lib.hid (HS6.out.later hb)
            clear hb HI HS6
            have e0 := HS7.out.ba.cell 0
            have e1 := HS7.out.bb.cell 0
            simp at e0 e1
            go_wp2_with fail
            refine (CQ.out _ HS7.out).mono ?_; intro e v8 hp; obtain ⟨d2, rfl, ho, hb⟩ := hp
            have HI := Lib.hid ho.isD
            have HS8 := Lib.hid (HS7.out.later hb)
            clear hb ho e0 e1 HS7
            go_wp2_with fail
            refine (HOq.out _ _ HI.out).mono ?_; rintro e v9 ⟨rfl, hb⟩
            have HS9 := Lib.hid (HS8.out.later hb)
            clear hb HI HS8
            have e0 := HS9.out.ba.cell 0
            have e1 := HS9.out.bb.cell 0
            simp at e0 e1
            go_wp2_with fail
            refine (CR.out _ HS9.out).mono ?_; intro e v10 hp; obtain ⟨d3, rfl, ho, hb⟩ := hp
            have HI := Lib.hid ho.isD
            have HS10 := Lib.hid (HS9.out.later hb)
            clear hb ho e0 e1 HS9
            go_wp2_with fail
            refine (HOr.out _ _ HI.out).mono ?_; rintro e v11 ⟨rfl, hb⟩
            have HS11 := Lib.hid (HS10.out.later hb)
            clear hb HI HS10
            have e0 := HS11.out.ba.cell 0
            have e1 := HS11.out.bb.cell 0
            simp at e0 e1
            go_wp2_with fail
            refine (CT.out _ HS11.out).mono ?_; intro e v12 hp; obtain ⟨d4, rfl, ho, hb⟩ := hp
            have HI := Lib.hid ho.isD
            have HS12 := Lib.hid (HS11.out.later hb)
            clear hb ho e0 e1 HS11
            go_wp2_with fail
            refine (HOt.out _ _ HI.out).mono ?_; rintro e v13 ⟨rfl, hb⟩
            have HS13 := Lib.hid (HS12.out.later hb)
            clear hb HI HS12
            have e0 := HS13.out.ba.cell 0
            have e1 := HS13.out.bb.cell 0
            simp at e0 e1
            go_wp2_with fail
            refine (CO.out _ HS13.out).mono ?_; rintro e v14 ⟨rfl, hb⟩
            have HSL := Lib.hid (HS13.out.later hb)
            clear hb e0 e1 HS13
            clear CP CQ CR CT HOp HOq HOr HOt
            go_upto_region 9 with (fail)
            by_cases h30 : k > 30
            · have h30z : (k : Int) > 30 := by omega
              have h30d : decide ((k : Int) > 30) = true := decide_eq_true h30z
              by_cases hcs : (s : Int) = (r : Int) + ((p : Int) - 1)
              · have hcb : ((s : Int) == (r : Int) + ((p : Int) - 1)) = true := by rw [beq_iff_eq]; exact hcs
                clear hm1 hb4
                refine wp_region_stable (S := (RsS w A B a b c1 c2)) (hSt := fun _ _ h hb => h.later hb) (plan := [[(7, none)], [(8, none)], [(64, some 0), (65, some 1)], [(66, some 2)], [(3, none)], [(68, some 4)], [(69, some 5)], [(3, none)], [(71, some 7)], [(70, some 6), (72, some 8)], [(67, some 3), (73, some 9)], [(74, some 10)], [(11, none)], [(10, none)], [(12, none)], [(77, some 13), (78, some 14)], [(76, some 12), (79, some 15)], [(80, some 16)], [(11, none)], [(82, some 18)], [(81, some 17), (83, some 19)], [(75, some 11), (84, some 20)], [(85, some 21)], [(9, none)], [(87, some 23)], [(9, none)], [(89, some 25)], [(90, some 26)], [(88, some 24), (91, some 27)], [(86, some 22), (92, some 28)], [(93, some 29)], [(9, none)], [(95, some 31)], [(96, some 32)], [(9, none)], [(98, some 34)], [(99, some 35)], [(9, none)], [(101, some 37)], [(102, some 38)], [(100, some 36), (103, some 39)], [(97, some 33), (104, some 40)], [(94, some 30), (105, some 41)], [(106, some 42)]]) (by kernel_rfl) (by kernel_rfl) (by kernel_rfl) ?hS ?_
                rotate_left
                iterate 5 first
                  | (refine chain_skip (by rfl) (by rfl) ?_)
                  | (apply chain_want (by rfl)
                     · intro act wx hS hr
                       simp at hr
                       have e0 := hS.ba.cell 0
                       simp at e0
                       go_simp
                       (try go_ints)
                       first
                         | ((with_reducible refine (CO.out _ hS).mono ?_); rintro e w' ⟨rfl, hb⟩; exact Done.mk hb)
                         | ((with_reducible refine (CB.out _).mono ?_); rintro e w' ⟨rfl, rfl⟩; exact Done.same)
                         | ((with_reducible refine (CB1.out _).mono ?_); rintro e w' ⟨rfl, rfl⟩; exact Done.same)
                         | (obtain ⟨u, hr1, hu⟩ := hr; simp only [hr1, Option.getD_some]; refine (HOs.out _ _ hu).mono ?_; rintro e w' ⟨rfl, hb⟩; exact Done.mk hb)
                         | exact Done.same
                    )
                (refine chain_rel (IsD (wrapL 6 0 0 a)) (IsD.later _) (by rfl) ?_ ?_
                 · intro act wx hS hr
                   simp at hr
                   have e0 := hS.ba.cell 0
                   simp at e0
                   all_goals go_simp
                   ((with_reducible refine (CS.out _ hS).mono ?_); intro e w' hp; obtain ⟨s, rfl, ho, hb⟩ := hp; exact Done.rel hb ho.isD)
                )
                iterate 38 first
                  | (refine chain_skip (by rfl) (by rfl) ?_)
                  | (apply chain_want (by rfl)
                     · intro act wx hS hr
                       simp at hr
                       have e0 := hS.ba.cell 0
                       simp at e0
                       go_simp
                       (try go_ints)
                       first
                         | ((with_reducible refine (CO.out _ hS).mono ?_); rintro e w' ⟨rfl, hb⟩; exact Done.mk hb)
                         | ((with_reducible refine (CB.out _).mono ?_); rintro e w' ⟨rfl, rfl⟩; exact Done.same)
                         | ((with_reducible refine (CB1.out _).mono ?_); rintro e w' ⟨rfl, rfl⟩; exact Done.same)
                         | (obtain ⟨u, hr1, hu⟩ := hr; simp only [hr1, Option.getD_some]; refine (HOs.out _ _ hu).mono ?_; rintro e w' ⟨rfl, hb⟩; exact Done.mk hb)
                         | exact Done.same
                    )
                show ∀ w', _ → _
                intro wy hw
                simp [Act.put]
                case hS => exact HSL.out
                have HY := Lib.hid hw
                clear hw
                intros
                go_wp2
                go_ret
                exact ⟨rfl, HY.out.bel⟩
              · obtain rfl : s = 1099511627776 := by omega
                have hcb : ((1099511627776 : Int) == (r : Int) + ((p : Int) - 1)) = false := by rw [beq_eq_false_iff_ne]; intro h; exact hcs (by omega)
                clear hm1 hb4
                refine wp_region_stable (S := (RsS w A B a b c1 c2)) (hSt := fun _ _ h hb => h.later hb) (plan := [[(7, none)], [(8, none)], [(64, some 0), (65, some 1)], [(66, some 2)], [(3, none)], [(68, some 4)], [(69, some 5)], [(3, none)], [(71, some 7)], [(70, some 6), (72, some 8)], [(67, some 3), (73, some 9)], [(74, some 10)], [(11, none)], [(10, none)], [(12, none)], [(77, some 13), (78, some 14)], [(76, some 12), (79, some 15)], [(80, some 16)], [(11, none)], [(82, some 18)], [(81, some 17), (83, some 19)], [(75, some 11), (84, some 20)], [(85, some 21)], [(9, none)], [(87, some 23)], [(9, none)], [(89, some 25)], [(90, some 26)], [(88, some 24), (91, some 27)], [(86, some 22), (92, some 28)], [(93, some 29)], [(9, none)], [(95, some 31)], [(96, some 32)], [(9, none)], [(98, some 34)], [(99, some 35)], [(9, none)], [(101, some 37)], [(102, some 38)], [(100, some 36), (103, some 39)], [(97, some 33), (104, some 40)], [(94, some 30), (105, some 41)], [(106, some 42)]]) (by kernel_rfl) (by kernel_rfl) (by kernel_rfl) ?hS ?_
                rotate_left
                iterate 5 first
                  | (refine chain_skip (by rfl) (by rfl) ?_)
                  | (apply chain_want (by rfl)
                     · intro act wx hS hr
                       simp at hr
                       have e0 := hS.ba.cell 0
                       simp at e0
                       go_simp
                       (try go_ints)
                       first
                         | ((with_reducible refine (CO.out _ hS).mono ?_); rintro e w' ⟨rfl, hb⟩; exact Done.mk hb)
                         | ((with_reducible refine (CB.out _).mono ?_); rintro e w' ⟨rfl, rfl⟩; exact Done.same)
                         | ((with_reducible refine (CB1.out _).mono ?_); rintro e w' ⟨rfl, rfl⟩; exact Done.same)
                         | (obtain ⟨u, hr1, hu⟩ := hr; simp only [hr1, Option.getD_some]; refine (HOs.out _ _ hu).mono ?_; rintro e w' ⟨rfl, hb⟩; exact Done.mk hb)
                         | exact Done.same
                    )
                (refine chain_rel (IsD (wrapL 6 0 0 a)) (IsD.later _) (by rfl) ?_ ?_
                 · intro act wx hS hr
                   simp at hr
                   have e0 := hS.ba.cell 0
                   simp at e0
                   all_goals go_simp
                   ((with_reducible refine (CS.out _ hS).mono ?_); intro e w' hp; obtain ⟨s, rfl, ho, hb⟩ := hp; exact Done.rel hb ho.isD)
                )
                iterate 38 first
                  | (refine chain_skip (by rfl) (by rfl) ?_)
                  | (apply chain_want (by rfl)
                     · intro act wx hS hr
                       simp at hr
                       have e0 := hS.ba.cell 0
                       simp at e0
                       go_simp
                       (try go_ints)
                       first
                         | ((with_reducible refine (CO.out _ hS).mono ?_); rintro e w' ⟨rfl, hb⟩; exact Done.mk hb)
                         | ((with_reducible refine (CB.out _).mono ?_); rintro e w' ⟨rfl, rfl⟩; exact Done.same)
                         | ((with_reducible refine (CB1.out _).mono ?_); rintro e w' ⟨rfl, rfl⟩; exact Done.same)
                         | (obtain ⟨u, hr1, hu⟩ := hr; simp only [hr1, Option.getD_some]; refine (HOs.out _ _ hu).mono ?_; rintro e w' ⟨rfl, hb⟩; exact Done.mk hb)
                         | exact Done.same
                    )
                show ∀ w', _ → _
                intro wy hw
                simp [Act.put]
                case hS => exact HSL.out
                have HY := Lib.hid hw
                clear hw
                intros
                go_wp2
                go_ret
                exact ⟨rfl, HY.out.bel⟩
            · have h30z : ¬ (k : Int) > 30 := by omega
              have h30d : decide ((k : Int) > 30) = false := decide_eq_false h30z
              have hz4 : z1 = 4 * z := hb4 (by omega)
              have hz4b : ((z1 : Int) == 4 * (z : Int)) = true := by rw [beq_iff_eq]; omega
              have hz4c : 4 * (z : Int) ≤ 4611686018427387904 := by omega
              have hz4w : wrap64 (4 * (z : Int)) = 4 * (z : Int) := by unfold wrap64; omega
              clear hz4
              by_cases hcs : (s : Int) = (r : Int) + ((p : Int) - 1)
              · have hcb : ((s : Int) == (r : Int) + ((p : Int) - 1)) = true := by rw [beq_iff_eq]; exact hcs
                clear hm1 hb4
                refine wp_region_stable (S := (RsS w A B a b c1 c2)) (hSt := fun _ _ h hb => h.later hb) (plan := [[(7, none)], [(8, none)], [(64, some 0), (65, some 1)], [(66, some 2)], [(3, none)], [(68, some 4)], [(69, some 5)], [(3, none)], [(71, some 7)], [(70, some 6), (72, some 8)], [(67, some 3), (73, some 9)], [(74, some 10)], [(11, none)], [(10, none)], [(12, none)], [(77, some 13), (78, some 14)], [(76, some 12), (79, some 15)], [(80, some 16)], [(11, none)], [(82, some 18)], [(81, some 17), (83, some 19)], [(75, some 11), (84, some 20)], [(85, some 21)], [(9, none)], [(87, some 23)], [(9, none)], [(89, some 25)], [(90, some 26)], [(88, some 24), (91, some 27)], [(86, some 22), (92, some 28)], [(93, some 29)], [(9, none)], [(95, some 31)], [(96, some 32)], [(9, none)], [(98, some 34)], [(99, some 35)], [(9, none)], [(101, some 37)], [(102, some 38)], [(100, some 36), (103, some 39)], [(97, some 33), (104, some 40)], [(94, some 30), (105, some 41)], [(106, some 42)]]) (by kernel_rfl) (by kernel_rfl) (by kernel_rfl) ?hS ?_
                rotate_left
                iterate 5 first
                  | (refine chain_skip (by rfl) (by rfl) ?_)
                  | (apply chain_want (by rfl)
                     · intro act wx hS hr
                       simp at hr
                       have e0 := hS.ba.cell 0
                       simp at e0
                       go_simp
                       (try go_ints)
                       first
                         | ((with_reducible refine (CO.out _ hS).mono ?_); rintro e w' ⟨rfl, hb⟩; exact Done.mk hb)
                         | ((with_reducible refine (CB.out _).mono ?_); rintro e w' ⟨rfl, rfl⟩; exact Done.same)
                         | ((with_reducible refine (CB1.out _).mono ?_); rintro e w' ⟨rfl, rfl⟩; exact Done.same)
                         | (obtain ⟨u, hr1, hu⟩ := hr; simp only [hr1, Option.getD_some]; refine (HOs.out _ _ hu).mono ?_; rintro e w' ⟨rfl, hb⟩; exact Done.mk hb)
                         | exact Done.same
                    )
                (refine chain_rel (IsD (wrapL 6 0 0 a)) (IsD.later _) (by rfl) ?_ ?_
                 · intro act wx hS hr
                   simp at hr
                   have e0 := hS.ba.cell 0
                   simp at e0
                   all_goals go_simp
                   ((with_reducible refine (CS.out _ hS).mono ?_); intro e w' hp; obtain ⟨s, rfl, ho, hb⟩ := hp; exact Done.rel hb ho.isD)
                )
                iterate 38 first
                  | (refine chain_skip (by rfl) (by rfl) ?_)
                  | (apply chain_want (by rfl)
                     · intro act wx hS hr
                       simp at hr
                       have e0 := hS.ba.cell 0
                       simp at e0
                       go_simp
                       (try go_ints)
                       first
                         | ((with_reducible refine (CO.out _ hS).mono ?_); rintro e w' ⟨rfl, hb⟩; exact Done.mk hb)
                         | ((with_reducible refine (CB.out _).mono ?_); rintro e w' ⟨rfl, rfl⟩; exact Done.same)
                         | ((with_reducible refine (CB1.out _).mono ?_); rintro e w' ⟨rfl, rfl⟩; exact Done.same)
                         | (obtain ⟨u, hr1, hu⟩ := hr; simp only [hr1, Option.getD_some]; refine (HOs.out _ _ hu).mono ?_; rintro e w' ⟨rfl, hb⟩; exact Done.mk hb)
                         | exact Done.same
                    )
                show ∀ w', _ → _
                intro wy hw
                simp [Act.put]
                case hS => exact HSL.out
                have HY := Lib.hid hw
                clear hw
                intros
                go_wp2
                go_ret
                exact ⟨rfl, HY.out.bel⟩
              · obtain rfl : s = 1099511627776 := by omega
                have hcb : ((1099511627776 : Int) == (r : Int) + ((p : Int) - 1)) = false := by rw [beq_eq_false_iff_ne]; intro h; exact hcs (by omega)
                clear hm1 hb4
                refine wp_region_stable (S := (RsS w A B a b c1 c2)) (hSt := fun _ _ h hb => h.later hb) (plan := [[(7, none)], [(8, none)], [(64, some 0), (65, some 1)], [(66, some 2)], [(3, none)], [(68, some 4)], [(69, some 5)], [(3, none)], [(71, some 7)], [(70, some 6), (72, some 8)], [(67, some 3), (73, some 9)], [(74, some 10)], [(11, none)], [(10, none)], [(12, none)], [(77, some 13), (78, some 14)], [(76, some 12), (79, some 15)], [(80, some 16)], [(11, none)], [(82, some 18)], [(81, some 17), (83, some 19)], [(75, some 11), (84, some 20)], [(85, some 21)], [(9, none)], [(87, some 23)], [(9, none)], [(89, some 25)], [(90, some 26)], [(88, some 24), (91, some 27)], [(86, some 22), (92, some 28)], [(93, some 29)], [(9, none)], [(95, some 31)], [(96, some 32)], [(9, none)], [(98, some 34)], [(99, some 35)], [(9, none)], [(101, some 37)], [(102, some 38)], [(100, some 36), (103, some 39)], [(97, some 33), (104, some 40)], [(94, some 30), (105, some 41)], [(106, some 42)]]) (by kernel_rfl) (by kernel_rfl) (by kernel_rfl) ?hS ?_
                rotate_left
                iterate 5 first
                  | (refine chain_skip (by rfl) (by rfl) ?_)
                  | (apply chain_want (by rfl)
                     · intro act wx hS hr
                       simp at hr
                       have e0 := hS.ba.cell 0
                       simp at e0
                       go_simp
                       (try go_ints)
                       first
                         | ((with_reducible refine (CO.out _ hS).mono ?_); rintro e w' ⟨rfl, hb⟩; exact Done.mk hb)
                         | ((with_reducible refine (CB.out _).mono ?_); rintro e w' ⟨rfl, rfl⟩; exact Done.same)
                         | ((with_reducible refine (CB1.out _).mono ?_); rintro e w' ⟨rfl, rfl⟩; exact Done.same)
                         | (obtain ⟨u, hr1, hu⟩ := hr; simp only [hr1, Option.getD_some]; refine (HOs.out _ _ hu).mono ?_; rintro e w' ⟨rfl, hb⟩; exact Done.mk hb)
                         | exact Done.same
                    )
                (refine chain_rel (IsD (wrapL 6 0 0 a)) (IsD.later _) (by rfl) ?_ ?_
                 · intro act wx hS hr
                   simp at hr
                   have e0 := hS.ba.cell 0
                   simp at e0
                   all_goals go_simp
                   ((with_reducible refine (CS.out _ hS).mono ?_); intro e w' hp; obtain ⟨s, rfl, ho, hb⟩ := hp; exact Done.rel hb ho.isD)
                )
                iterate 38 first
                  | (refine chain_skip (by rfl) (by rfl) ?_)
                  | (apply chain_want (by rfl)
                     · intro act wx hS hr
                       simp at hr
                       have e0 := hS.ba.cell 0
                       simp at e0
                       go_simp
                       (try go_ints)
                       first
                         | ((with_reducible refine (CO.out _ hS).mono ?_); rintro e w' ⟨rfl, hb⟩; exact Done.mk hb)
                         | ((with_reducible refine (CB.out _).mono ?_); rintro e w' ⟨rfl, rfl⟩; exact Done.same)
                         | ((with_reducible refine (CB1.out _).mono ?_); rintro e w' ⟨rfl, rfl⟩; exact Done.same)
                         | (obtain ⟨u, hr1, hu⟩ := hr; simp only [hr1, Option.getD_some]; refine (HOs.out _ _ hu).mono ?_; rintro e w' ⟨rfl, hb⟩; exact Done.mk hb)
                         | exact Done.same
                    )
                show ∀ w', _ → _
                intro wy hw
                simp [Act.put]
                case hS => exact HSL.out
                have HY := Lib.hid hw
                clear hw
                intros
                go_wp2
                go_ret
                exact ⟨rfl, HY.out.bel⟩
end Go.Proofs.Ytnjkljjeldnblaa
