/- The statement PrintDeep of layer 6, walked. -/
import Derived.Test.YtacaloddhklkiaaDoorM28
namespace Go.Proofs.YtacaloddhklkiaaDoor
open Go Go.RowKit
set_option linter.unusedVariables false
set_option linter.unusedSimpArgs false
set_option maxRecDepth 100000

theorem PrOk.deep_le {l : List Nd} (h : PrOk l) : deepN l ≤ 1000000000 := by
  have h1 := dp_bound (sgsL l) 0 0 (by omega)
  have h2 : (sgsL l).foldl dstep (0, 0) = (0, (deepN l : Int)) := deep_pieces l
  rw [h2] at h1
  have h3 := h.lens.2
  simp only at h1
  omega
structure PqS (w0 : World) (A B : Option Addr) (a b : List Nd) (c1 c2 : Nat) (w : World) : Prop where
  s : RsS w0 A B a b c1 c2 w
  t : T10 w
theorem PqS.later {w0 w w' : World} {A B : Option Addr} {a b : List Nd} {c1 c2 : Nat} (h : PqS w0 A B a b c1 c2 w) (hb : Below w.heap.size w w') : PqS w0 A B a b c1 c2 w' := ⟨h.s.later hb, h.t.later hb⟩
theorem wrap_txt {l : List Nd} (h : ∀ n ∈ l, n.text.length ≤ 2000) (kind lo hi : Int) : ∀ n ∈ wrapL kind lo hi l, n.text.length ≤ 2000 := fun n hn => by
  unfold wrapL at hn
  rcases List.mem_append.1 hn with h1 | h1
  · exact h n h1
  · rw [List.mem_singleton.1 h1]; simp
theorem pair_txt {l m : List Nd} (h : ∀ n ∈ l, n.text.length ≤ 2000) (k : ∀ n ∈ m, n.text.length ≤ 2000) (kind : Int) : ∀ n ∈ pairL kind l m, n.text.length ≤ 2000 := fun n hn => by
  unfold pairL at hn
  rcases List.mem_append.1 hn with h1 | h1
  · rcases List.mem_append.1 h1 with h2 | h2
    · exact h n h2
    · obtain ⟨q, hq, rfl⟩ := List.mem_map.1 h2
      have e : (mvN (l.length : Int) q).text = q.text := by unfold mvN; (repeat' split) <;> rfl
      rw [e]; exact k q hq
  · rw [List.mem_singleton.1 h1]; simp
theorem lev5 (k : Int) : (levK k < 1) ↔ k = 5 := by
  unfold levK
  (repeat' split) <;> omega
theorem lev45 (k : Int) : (levK k < 2) ↔ (k = 5 ∨ k = 4) := by
  unfold levK
  (repeat' split) <;> omega
set_option maxHeartbeats 64000000 in
theorem printdeep_walk (a b : List Nd) (A B : Option Addr) (c1 c2 : Nat) (hc1 : a.length ≤ c1) (hc2 : b.length ≤ c2) (hl : a.length ≤ 9223372036854775807) (hm : b.length ≤ 9223372036854775807) (htx : Txt a) (htm : Txt b) (w : World) (hrow : NRow w A a) (hrm : NRow w B b) (hT : T10 w) :
    Calls Tryd.prog 5 #[.agg #[.slice A a.length c1], .agg #[.slice B b.length c2]] w (Ans w (.bool true)) := by
  have hs0 := RsS.new w A B a b c1 c2 hrow hrm
  have HS0 : Hid (PqS w A B a b c1 c2 _) := ⟨hs0, hT.later (((Below.refl w.heap.size w).alloc (Nat.le_refl _) _).alloc (by simp) _)⟩
  have HTX := Lib.hid htx
  have HTM := Lib.hid htm
  clear hrow hrm htx htm hs0 hT
  go_enter Tryd.func5, Tryd.ntmps5
  go_upto_region 1 with (fail)
  generalize (w.alloc (.cells #[.slice A a.length c1] 24)).alloc (.cells #[.slice B b.length c2] 24) = w1 at *
  go_wp2_with fail
  refine (awake6_any _ HS0.out.t).mono ?_; rintro e w2 ⟨rfl, hb⟩
  have HS1 := Lib.hid (HS0.out.later hb)
  clear hb HS0
  have e0 := HS1.out.s.ba.cell 0
  have e1 := HS1.out.s.bb.cell 0
  simp at e0 e1
  have HF := Lib.hid (few_any a A c1 hl HTX.out _ HS1.out.s.ra)
  cases hf : fewB a with
  | false =>
    rw [hf] at HF
    clear hf
    go_wp2_with fail
    refine HF.out.mono ?_; rintro e w3 ⟨rfl, hb⟩
    have HSX := Lib.hid (HS1.out.later hb)
    clear hb e0 e1 HF HS1
    go_wp2_with fail
    refine (awake6_any _ HSX.out.t).mono ?_; rintro e WN ⟨rfl, hb⟩
    have HSY := Lib.hid (HSX.out.later hb)
    clear hb
    go_wp2
    go_ret
    exact ⟨rfl, HSY.out.s.bel⟩
  | true =>
    rw [hf] at HF
    have LA := Lib.hid ((few_txt hf))
    clear hf
    go_wp2_with fail
    refine HF.out.mono ?_; rintro e y1 ⟨rfl, hb⟩
    have HS2 := Lib.hid (HS1.out.later hb)
    clear hb e0 e1 HF HS1
    have e0 := HS2.out.s.ba.cell 0
    have e1 := HS2.out.s.bb.cell 0
    simp at e0 e1
    have HF := Lib.hid (few_any b B c2 hm HTM.out _ HS2.out.s.rb)
    cases hf : fewB b with
    | false =>
      rw [hf] at HF
      clear hf
      go_wp2_with fail
      refine HF.out.mono ?_; rintro e w3 ⟨rfl, hb⟩
      have HSX := Lib.hid (HS2.out.later hb)
      clear hb e0 e1 HF HS2
      go_wp2_with fail
      refine (awake6_any _ HSX.out.t).mono ?_; rintro e WN ⟨rfl, hb⟩
      have HSY := Lib.hid (HSX.out.later hb)
      clear hb
      go_wp2
      go_ret
      exact ⟨rfl, HSY.out.s.bel⟩
    | true =>
      rw [hf] at HF
      have LB := Lib.hid ((few_txt hf))
      clear hf
      go_wp2_with fail
      refine HF.out.mono ?_; rintro e y2 ⟨rfl, hb⟩
      have HS3 := Lib.hid (HS2.out.later hb)
      clear hb e0 e1 HF HS2
      have e0 := HS3.out.s.ba.cell 0
      have e1 := HS3.out.s.bb.cell 0
      simp at e0 e1
      have HF := Lib.hid (refform_any a A c1 (by have := LA.out.1; omega) HTX.out _ HS3.out.s.ra)
      cases hf : formB a with
      | false =>
        rw [hf] at HF
        clear hf
        go_wp2_with fail
        refine HF.out.mono ?_; rintro e w3 ⟨rfl, hb⟩
        have HSX := Lib.hid (HS3.out.later hb)
        clear hb e0 e1 HF HS3
        go_wp2_with fail
        refine (awake6_any _ HSX.out.t).mono ?_; rintro e WN ⟨rfl, hb⟩
        have HSY := Lib.hid (HSX.out.later hb)
        clear hb
        go_wp2
        go_ret
        exact ⟨rfl, HSY.out.s.bel⟩
      | true =>
        rw [hf] at HF
        have FA := Lib.hid ((formB_iff a).1 hf)
        clear hf
        go_wp2_with fail
        refine HF.out.mono ?_; rintro e y3 ⟨rfl, hb⟩
        have HS4 := Lib.hid (HS3.out.later hb)
        clear hb e0 e1 HF HS3
        have e0 := HS4.out.s.ba.cell 0
        have e1 := HS4.out.s.bb.cell 0
        simp at e0 e1
        have HF := Lib.hid (refform_any b B c2 (by have := LB.out.1; omega) HTM.out _ HS4.out.s.rb)
        cases hf : formB b with
        | false =>
          rw [hf] at HF
          clear hf
          go_wp2_with fail
          refine HF.out.mono ?_; rintro e w3 ⟨rfl, hb⟩
          have HSX := Lib.hid (HS4.out.later hb)
          clear hb e0 e1 HF HS4
          go_wp2_with fail
          refine (awake6_any _ HSX.out.t).mono ?_; rintro e WN ⟨rfl, hb⟩
          have HSY := Lib.hid (HSX.out.later hb)
          clear hb
          go_wp2
          go_ret
          exact ⟨rfl, HSY.out.s.bel⟩
        | true =>
          rw [hf] at HF
          have FB := Lib.hid ((formB_iff b).1 hf)
          clear hf
          go_wp2_with fail
          refine HF.out.mono ?_; rintro e y4 ⟨rfl, hb⟩
          have HS5 := Lib.hid (HS4.out.later hb)
          clear hb e0 e1 HF HS4
          have hla := LA.out.1
          have hlb := LB.out.1
          have hpa := FA.out.1
          have hpb := FB.out.1
          have SA : Hid (Sd a) := ⟨FA.out, by omega, HTX.out⟩
          have SB : Hid (Sd b) := ⟨FB.out, by omega, HTM.out⟩
          have PA : Hid (PrOk a) := pr_of SA.out LA.out.2
          have PB : Hid (PrOk b) := pr_of SB.out LB.out.2
          have PF : Hid (PrOk (wrapL 8 0 0 a)) := pr_of (SA.out.wrap (by omega) (.inr (.inl rfl))) (wrap_txt LA.out.2 _ _ _)
          have PO : Hid (PrOk (pairL 5 a b)) := pr_of (SA.out.pair SB.out (by omega) (.inr rfl)) (pair_txt LA.out.2 LB.out.2 _)
          have PQ : Hid (PrOk (pairL 4 a b)) := pr_of (SA.out.pair SB.out (by omega) (.inl rfl)) (pair_txt LA.out.2 LB.out.2 _)
          have PT : Hid (PrOk (wrapL 6 0 0 a)) := pr_of (SA.out.wrap (by omega) (.inl rfl)) (wrap_txt LA.out.2 _ _ _)
          have CF : Hid (∀ w', PqS w A B a b c1 c2 w' → Calls Tryd.prog 18 #[.int .i64 8, .int .i64 0, .int .i64 0, .agg #[.slice A a.length c1]] w' (DPost w' (wrapL 8 0 0 a))) := fun w' h => (show IsD a (.agg #[.slice A a.length c1]) w' from ⟨A, c1, hc1, rfl, h.s.ra⟩).rwrap' SA.out 8 0 0
          have CO : Hid (∀ w', PqS w A B a b c1 c2 w' → Calls Tryd.prog 19 #[.int .i64 5, .agg #[.slice A a.length c1], .agg #[.slice B b.length c2]] w' (DPost w' (pairL 5 a b))) := fun w' h => (show IsD a (.agg #[.slice A a.length c1]) w' from ⟨A, c1, hc1, rfl, h.s.ra⟩).rpair' (show IsD b (.agg #[.slice B b.length c2]) w' from ⟨B, c2, hc2, rfl, h.s.rb⟩) SA.out SB.out 5
          have CQ : Hid (∀ w', PqS w A B a b c1 c2 w' → Calls Tryd.prog 19 #[.int .i64 4, .agg #[.slice A a.length c1], .agg #[.slice B b.length c2]] w' (DPost w' (pairL 4 a b))) := fun w' h => (show IsD a (.agg #[.slice A a.length c1]) w' from ⟨A, c1, hc1, rfl, h.s.ra⟩).rpair' (show IsD b (.agg #[.slice B b.length c2]) w' from ⟨B, c2, hc2, rfl, h.s.rb⟩) SA.out SB.out 4
          have CT : Hid (∀ w', PqS w A B a b c1 c2 w' → Calls Tryd.prog 18 #[.int .i64 6, .int .i64 0, .int .i64 0, .agg #[.slice A a.length c1]] w' (DPost w' (wrapL 6 0 0 a))) := fun w' h => (show IsD a (.agg #[.slice A a.length c1]) w' from ⟨A, c1, hc1, rfl, h.s.ra⟩).rwrap' SA.out 6 0 0
          obtain ⟨x, hx⟩ : ∃ x, deepN a = x := ⟨_, rfl⟩
          obtain ⟨y, hy⟩ : ∃ y, deepN b = y := ⟨_, rfl⟩
          obtain ⟨j, hj⟩ : ∃ j, deepN (pairL 5 a b) = j := ⟨_, rfl⟩
          obtain ⟨k, hk⟩ : ∃ k, deepN (pairL 4 a b) = k := ⟨_, rfl⟩
          obtain ⟨z, hz⟩ : ∃ z, deepN (wrapL 6 0 0 a) = z := ⟨_, rfl⟩
          have hf : deepN (wrapL 8 0 0 a) = x + 1 := by rw [deep_frame FA.out, hx]
          obtain ⟨ka, hka⟩ : ∃ ka, topK a = ka := ⟨_, rfl⟩
          obtain ⟨kb, hkb⟩ : ∃ kb, topK b = kb := ⟨_, rfl⟩
          have hj2 := deep_or FA.out FB.out
          rw [hj, hx, hy, hkb] at hj2
          have hk2 := deep_seq FA.out FB.out
          rw [hk, hx, hy, hka, hkb] at hk2
          have hz2 := deep_star FA.out 0 0
          rw [hz, hx, hka] at hz2
          have hx9 := PA.out.deep_le
          have hy9 := PB.out.deep_le
          rw [hx] at hx9
          rw [hy] at hy9
          have DA : Hid (∀ w', PqS w A B a b c1 c2 w' → Calls Tryd.prog 11 #[.agg #[.slice A a.length c1]] w' (Ans w' (.int .i64 (x : Int)))) := fun w' h => (show IsD a (.agg #[.slice A a.length c1]) w' from ⟨A, c1, hc1, rfl, h.s.ra⟩).pdeep PA.out h.t hx
          have DB : Hid (∀ w', PqS w A B a b c1 c2 w' → Calls Tryd.prog 11 #[.agg #[.slice B b.length c2]] w' (Ans w' (.int .i64 (y : Int)))) := fun w' h => (show IsD b (.agg #[.slice B b.length c2]) w' from ⟨B, c2, hc2, rfl, h.s.rb⟩).pdeep PB.out h.t hy
          have DF : Hid (∀ w' u, PqS w A B a b c1 c2 w' → IsD (wrapL 8 0 0 a) u w' → Calls Tryd.prog 11 #[u] w' (Ans w' (.int .i64 ((x : Int) + 1)))) := fun w' u h k => k.pdeep PF.out h.t hf
          have DO : Hid (∀ w' u, PqS w A B a b c1 c2 w' → IsD (pairL 5 a b) u w' → Calls Tryd.prog 11 #[u] w' (Ans w' (.int .i64 (j : Int)))) := fun w' u h k => k.pdeep PO.out h.t hj
          have DQ : Hid (∀ w' u, PqS w A B a b c1 c2 w' → IsD (pairL 4 a b) u w' → Calls Tryd.prog 11 #[u] w' (Ans w' (.int .i64 (k : Int)))) := fun w' u h kk => kk.pdeep PQ.out h.t hk
          have DT : Hid (∀ w' u, PqS w A B a b c1 c2 w' → IsD (wrapL 6 0 0 a) u w' → Calls Tryd.prog 11 #[u] w' (Ans w' (.int .i64 (z : Int)))) := fun w' u h k => k.pdeep PT.out h.t hz
          have TA : Hid (∀ w', NRow w' A a → ∃ ba oa, A = some ⟨ba, oa, none⟩ ∧ w'.cell? ⟨ba, oa + (a.length - 1) * 10, none⟩ = some (.int .i64 ka)) := fun w' h => by
            obtain ⟨ba, oa, rfl, -, -⟩ := h (a.length - 1) (by omega)
            have g : At10 w' ba (oa + (a.length - 1) * 10) (a.getD (a.length - 1) nd0) := h.at (by omega) rfl
            exact ⟨ba, oa, rfl, by rw [← hka]; exact g.1⟩
          have TB : Hid (∀ w', NRow w' B b → ∃ bb ob, B = some ⟨bb, ob, none⟩ ∧ w'.cell? ⟨bb, ob + (b.length - 1) * 10, none⟩ = some (.int .i64 kb)) := fun w' h => by
            obtain ⟨bb, ob, rfl, -, -⟩ := h (b.length - 1) (by omega)
            have g : At10 w' bb (ob + (b.length - 1) * 10) (b.getD (b.length - 1) nd0) := h.at (by omega) rfl
            exact ⟨bb, ob, rfl, by rw [← hkb]; exact g.1⟩
          clear hx hy hj hk hz hf hka hkb PA PB PF PO PQ PT SA SB
          have e0 := HS5.out.s.ba.cell 0
          have e1 := HS5.out.s.bb.cell 0
          simp at e0 e1
          go_wp2_with fail
          refine (DA.out _ HS5.out).mono ?_; rintro e y6 ⟨rfl, hb⟩
          have HS6 := Lib.hid (HS5.out.later hb)
          clear hb e0 e1 HS5
          have e0 := HS6.out.s.ba.cell 0
          have e1 := HS6.out.s.bb.cell 0
          simp at e0 e1
          go_wp2_with fail
          refine (DB.out _ HS6.out).mono ?_; rintro e y7 ⟨rfl, hb⟩
          have HS9 := Lib.hid (HS6.out.later hb)
          clear hb e0 e1 HS6 DA DB
          have e0 := HS9.out.s.ba.cell 0
          have e1 := HS9.out.s.bb.cell 0
          simp at e0 e1
          obtain ⟨ba, oa, hAe, ta⟩ := TA.out _ HS9.out.s.ra
          obtain ⟨bb, ob, hBe, tb⟩ := TB.out _ HS9.out.s.rb
          subst hAe hBe
          have hmina : -9223372036854775808 ≤ (a.length : Int) - 1 := by omega
          have hminb : -9223372036854775808 ≤ (b.length : Int) - 1 := by omega
          obtain ⟨p, hp⟩ : ∃ p, a.length = p + 1 := ⟨a.length - 1, by omega⟩
          obtain ⟨q, hq⟩ : ∃ q, b.length = q + 1 := ⟨b.length - 1, by omega⟩
          rw [show a.length - 1 = p by omega] at ta
          rw [show b.length - 1 = q by omega] at tb
          go_upto_region 7 with (fail)
          clear ta tb hp hq e0 e1 hmina hminb
          by_cases n5 : ka = 5
          · subst n5
            by_cases m5 : kb = 5
            · subst m5
              have gj : max (x : Int) ((y : Int) + 1) = (j : Int) := by simp only [lev5] at hj2; simp at hj2; omega
              have gk : max ((x : Int) + 1) ((y : Int) + 1) = (k : Int) := by simp only [lev5, lev45] at hk2; simp at hk2; omega
              have gz : (x : Int) + 1 = (z : Int) := by simp only [lev45] at hz2; simp at hz2; omega
              clear hj2 hk2 hz2
              have e0 := HS9.out.s.ba.cell 0
              have e1 := HS9.out.s.bb.cell 0
              simp at e0 e1
              go_wp2_with fail
              refine (CF.out _ HS9.out).mono ?_; intro e v1 hp; obtain ⟨d1, rfl, ho, hb⟩ := hp
              have HI := Lib.hid ho.isD
              have HS10 := Lib.hid (HS9.out.later hb)
              clear hb ho e0 e1
              go_wp2_with fail
              refine (DF.out _ _ HS10.out HI.out).mono ?_; rintro e v2 ⟨rfl, hb⟩
              have HS11 := Lib.hid (HS10.out.later hb)
              clear hb HI HS10
              have e0 := HS11.out.s.ba.cell 0
              have e1 := HS11.out.s.bb.cell 0
              simp at e0 e1
              go_wp2_with fail
              refine (CO.out _ HS11.out).mono ?_; intro e v3 hp; obtain ⟨d2, rfl, ho, hb⟩ := hp
              have HI := Lib.hid ho.isD
              have HS12 := Lib.hid (HS11.out.later hb)
              clear hb ho e0 e1 HS11
              go_wp2_with fail
              refine (DO.out _ _ HS12.out HI.out).mono ?_; rintro e v4 ⟨rfl, hb⟩
              have HS13 := Lib.hid (HS12.out.later hb)
              clear hb HI HS12
              have e0 := HS13.out.s.ba.cell 0
              have e1 := HS13.out.s.bb.cell 0
              simp at e0 e1
              go_wp2_with fail
              refine (CQ.out _ HS13.out).mono ?_; intro e v5 hp; obtain ⟨d3, rfl, ho, hb⟩ := hp
              have HI := Lib.hid ho.isD
              have HS14 := Lib.hid (HS13.out.later hb)
              clear hb ho e0 e1 HS13
              go_wp2_with fail
              refine (DQ.out _ _ HS14.out HI.out).mono ?_; rintro e v6 ⟨rfl, hb⟩
              have HS15 := Lib.hid (HS14.out.later hb)
              clear hb HI HS14
              have e0 := HS15.out.s.ba.cell 0
              have e1 := HS15.out.s.bb.cell 0
              simp at e0 e1
              go_wp2_with fail
              refine (CT.out _ HS15.out).mono ?_; intro e v7 hp; obtain ⟨d4, rfl, ho, hb⟩ := hp
              have HI := Lib.hid ho.isD
              have HS16 := Lib.hid (HS15.out.later hb)
              clear hb ho e0 e1 HS15
              go_wp2_with fail
              refine (DT.out _ _ HS16.out HI.out).mono ?_; rintro e v8 ⟨rfl, hb⟩
              have HS17 := Lib.hid (HS16.out.later hb)
              clear hb HI HS16
              go_wp2
              go_ret
              exact ⟨rfl, HS17.out.s.bel⟩
            · by_cases m4 : kb = 4
              · subst m4
                have gj : max (x : Int) ((y : Int)) = (j : Int) := by simp only [lev5] at hj2; simp at hj2; omega
                have gk : max ((x : Int) + 1) ((y : Int) + 1) = (k : Int) := by simp only [lev5, lev45] at hk2; simp at hk2; omega
                have gz : (x : Int) + 1 = (z : Int) := by simp only [lev45] at hz2; simp at hz2; omega
                clear hj2 hk2 hz2
                have e0 := HS9.out.s.ba.cell 0
                have e1 := HS9.out.s.bb.cell 0
                simp at e0 e1
                go_wp2_with fail
                refine (CF.out _ HS9.out).mono ?_; intro e v1 hp; obtain ⟨d1, rfl, ho, hb⟩ := hp
                have HI := Lib.hid ho.isD
                have HS10 := Lib.hid (HS9.out.later hb)
                clear hb ho e0 e1
                go_wp2_with fail
                refine (DF.out _ _ HS10.out HI.out).mono ?_; rintro e v2 ⟨rfl, hb⟩
                have HS11 := Lib.hid (HS10.out.later hb)
                clear hb HI HS10
                have e0 := HS11.out.s.ba.cell 0
                have e1 := HS11.out.s.bb.cell 0
                simp at e0 e1
                go_wp2_with fail
                refine (CO.out _ HS11.out).mono ?_; intro e v3 hp; obtain ⟨d2, rfl, ho, hb⟩ := hp
                have HI := Lib.hid ho.isD
                have HS12 := Lib.hid (HS11.out.later hb)
                clear hb ho e0 e1 HS11
                go_wp2_with fail
                refine (DO.out _ _ HS12.out HI.out).mono ?_; rintro e v4 ⟨rfl, hb⟩
                have HS13 := Lib.hid (HS12.out.later hb)
                clear hb HI HS12
                have e0 := HS13.out.s.ba.cell 0
                have e1 := HS13.out.s.bb.cell 0
                simp at e0 e1
                go_wp2_with fail
                refine (CQ.out _ HS13.out).mono ?_; intro e v5 hp; obtain ⟨d3, rfl, ho, hb⟩ := hp
                have HI := Lib.hid ho.isD
                have HS14 := Lib.hid (HS13.out.later hb)
                clear hb ho e0 e1 HS13
                go_wp2_with fail
                refine (DQ.out _ _ HS14.out HI.out).mono ?_; rintro e v6 ⟨rfl, hb⟩
                have HS15 := Lib.hid (HS14.out.later hb)
                clear hb HI HS14
                have e0 := HS15.out.s.ba.cell 0
                have e1 := HS15.out.s.bb.cell 0
                simp at e0 e1
                go_wp2_with fail
                refine (CT.out _ HS15.out).mono ?_; intro e v7 hp; obtain ⟨d4, rfl, ho, hb⟩ := hp
                have HI := Lib.hid ho.isD
                have HS16 := Lib.hid (HS15.out.later hb)
                clear hb ho e0 e1 HS15
                go_wp2_with fail
                refine (DT.out _ _ HS16.out HI.out).mono ?_; rintro e v8 ⟨rfl, hb⟩
                have HS17 := Lib.hid (HS16.out.later hb)
                clear hb HI HS16
                go_wp2
                go_ret
                exact ⟨rfl, HS17.out.s.bel⟩
              · skip
                have qb5 : (kb == 5) = false := by simp [m5]
                have qb4 : (kb == 4) = false := by simp [m4]
                have gj : max (x : Int) ((y : Int)) = (j : Int) := by simp only [lev5] at hj2; simp [m5] at hj2; omega
                have gk : max ((x : Int) + 1) ((y : Int)) = (k : Int) := by simp only [lev5, lev45] at hk2; simp [m5, m4] at hk2; omega
                have gz : (x : Int) + 1 = (z : Int) := by simp only [lev45] at hz2; simp at hz2; omega
                clear hj2 hk2 hz2
                have e0 := HS9.out.s.ba.cell 0
                have e1 := HS9.out.s.bb.cell 0
                simp at e0 e1
                go_wp2_with fail
                refine (CF.out _ HS9.out).mono ?_; intro e v1 hp; obtain ⟨d1, rfl, ho, hb⟩ := hp
                have HI := Lib.hid ho.isD
                have HS10 := Lib.hid (HS9.out.later hb)
                clear hb ho e0 e1
                go_wp2_with fail
                refine (DF.out _ _ HS10.out HI.out).mono ?_; rintro e v2 ⟨rfl, hb⟩
                have HS11 := Lib.hid (HS10.out.later hb)
                clear hb HI HS10
                have e0 := HS11.out.s.ba.cell 0
                have e1 := HS11.out.s.bb.cell 0
                simp at e0 e1
                go_wp2_with fail
                refine (CO.out _ HS11.out).mono ?_; intro e v3 hp; obtain ⟨d2, rfl, ho, hb⟩ := hp
                have HI := Lib.hid ho.isD
                have HS12 := Lib.hid (HS11.out.later hb)
                clear hb ho e0 e1 HS11
                go_wp2_with fail
                refine (DO.out _ _ HS12.out HI.out).mono ?_; rintro e v4 ⟨rfl, hb⟩
                have HS13 := Lib.hid (HS12.out.later hb)
                clear hb HI HS12
                have e0 := HS13.out.s.ba.cell 0
                have e1 := HS13.out.s.bb.cell 0
                simp at e0 e1
                go_wp2_with fail
                refine (CQ.out _ HS13.out).mono ?_; intro e v5 hp; obtain ⟨d3, rfl, ho, hb⟩ := hp
                have HI := Lib.hid ho.isD
                have HS14 := Lib.hid (HS13.out.later hb)
                clear hb ho e0 e1 HS13
                go_wp2_with fail
                refine (DQ.out _ _ HS14.out HI.out).mono ?_; rintro e v6 ⟨rfl, hb⟩
                have HS15 := Lib.hid (HS14.out.later hb)
                clear hb HI HS14
                have e0 := HS15.out.s.ba.cell 0
                have e1 := HS15.out.s.bb.cell 0
                simp at e0 e1
                go_wp2_with fail
                refine (CT.out _ HS15.out).mono ?_; intro e v7 hp; obtain ⟨d4, rfl, ho, hb⟩ := hp
                have HI := Lib.hid ho.isD
                have HS16 := Lib.hid (HS15.out.later hb)
                clear hb ho e0 e1 HS15
                go_wp2_with fail
                refine (DT.out _ _ HS16.out HI.out).mono ?_; rintro e v8 ⟨rfl, hb⟩
                have HS17 := Lib.hid (HS16.out.later hb)
                clear hb HI HS16
                go_wp2
                go_ret
                exact ⟨rfl, HS17.out.s.bel⟩
          · by_cases n4 : ka = 4
            · subst n4
              by_cases m5 : kb = 5
              · subst m5
                have gj : max (x : Int) ((y : Int) + 1) = (j : Int) := by simp only [lev5] at hj2; simp at hj2; omega
                have gk : max ((x : Int)) ((y : Int) + 1) = (k : Int) := by simp only [lev5, lev45] at hk2; simp at hk2; omega
                have gz : (x : Int) + 1 = (z : Int) := by simp only [lev45] at hz2; simp at hz2; omega
                clear hj2 hk2 hz2
                have e0 := HS9.out.s.ba.cell 0
                have e1 := HS9.out.s.bb.cell 0
                simp at e0 e1
                go_wp2_with fail
                refine (CF.out _ HS9.out).mono ?_; intro e v1 hp; obtain ⟨d1, rfl, ho, hb⟩ := hp
                have HI := Lib.hid ho.isD
                have HS10 := Lib.hid (HS9.out.later hb)
                clear hb ho e0 e1
                go_wp2_with fail
                refine (DF.out _ _ HS10.out HI.out).mono ?_; rintro e v2 ⟨rfl, hb⟩
                have HS11 := Lib.hid (HS10.out.later hb)
                clear hb HI HS10
                have e0 := HS11.out.s.ba.cell 0
                have e1 := HS11.out.s.bb.cell 0
                simp at e0 e1
                go_wp2_with fail
                refine (CO.out _ HS11.out).mono ?_; intro e v3 hp; obtain ⟨d2, rfl, ho, hb⟩ := hp
                have HI := Lib.hid ho.isD
                have HS12 := Lib.hid (HS11.out.later hb)
                clear hb ho e0 e1 HS11
                go_wp2_with fail
                refine (DO.out _ _ HS12.out HI.out).mono ?_; rintro e v4 ⟨rfl, hb⟩
                have HS13 := Lib.hid (HS12.out.later hb)
                clear hb HI HS12
                have e0 := HS13.out.s.ba.cell 0
                have e1 := HS13.out.s.bb.cell 0
                simp at e0 e1
                go_wp2_with fail
                refine (CQ.out _ HS13.out).mono ?_; intro e v5 hp; obtain ⟨d3, rfl, ho, hb⟩ := hp
                have HI := Lib.hid ho.isD
                have HS14 := Lib.hid (HS13.out.later hb)
                clear hb ho e0 e1 HS13
                go_wp2_with fail
                refine (DQ.out _ _ HS14.out HI.out).mono ?_; rintro e v6 ⟨rfl, hb⟩
                have HS15 := Lib.hid (HS14.out.later hb)
                clear hb HI HS14
                have e0 := HS15.out.s.ba.cell 0
                have e1 := HS15.out.s.bb.cell 0
                simp at e0 e1
                go_wp2_with fail
                refine (CT.out _ HS15.out).mono ?_; intro e v7 hp; obtain ⟨d4, rfl, ho, hb⟩ := hp
                have HI := Lib.hid ho.isD
                have HS16 := Lib.hid (HS15.out.later hb)
                clear hb ho e0 e1 HS15
                go_wp2_with fail
                refine (DT.out _ _ HS16.out HI.out).mono ?_; rintro e v8 ⟨rfl, hb⟩
                have HS17 := Lib.hid (HS16.out.later hb)
                clear hb HI HS16
                go_wp2
                go_ret
                exact ⟨rfl, HS17.out.s.bel⟩
              · by_cases m4 : kb = 4
                · subst m4
                  have gj : max (x : Int) ((y : Int)) = (j : Int) := by simp only [lev5] at hj2; simp at hj2; omega
                  have gk : max ((x : Int)) ((y : Int) + 1) = (k : Int) := by simp only [lev5, lev45] at hk2; simp at hk2; omega
                  have gz : (x : Int) + 1 = (z : Int) := by simp only [lev45] at hz2; simp at hz2; omega
                  clear hj2 hk2 hz2
                  have e0 := HS9.out.s.ba.cell 0
                  have e1 := HS9.out.s.bb.cell 0
                  simp at e0 e1
                  go_wp2_with fail
                  refine (CF.out _ HS9.out).mono ?_; intro e v1 hp; obtain ⟨d1, rfl, ho, hb⟩ := hp
                  have HI := Lib.hid ho.isD
                  have HS10 := Lib.hid (HS9.out.later hb)
                  clear hb ho e0 e1
                  go_wp2_with fail
                  refine (DF.out _ _ HS10.out HI.out).mono ?_; rintro e v2 ⟨rfl, hb⟩
                  have HS11 := Lib.hid (HS10.out.later hb)
                  clear hb HI HS10
                  have e0 := HS11.out.s.ba.cell 0
                  have e1 := HS11.out.s.bb.cell 0
                  simp at e0 e1
                  go_wp2_with fail
                  refine (CO.out _ HS11.out).mono ?_; intro e v3 hp; obtain ⟨d2, rfl, ho, hb⟩ := hp
                  have HI := Lib.hid ho.isD
                  have HS12 := Lib.hid (HS11.out.later hb)
                  clear hb ho e0 e1 HS11
                  go_wp2_with fail
                  refine (DO.out _ _ HS12.out HI.out).mono ?_; rintro e v4 ⟨rfl, hb⟩
                  have HS13 := Lib.hid (HS12.out.later hb)
                  clear hb HI HS12
                  have e0 := HS13.out.s.ba.cell 0
                  have e1 := HS13.out.s.bb.cell 0
                  simp at e0 e1
                  go_wp2_with fail
                  refine (CQ.out _ HS13.out).mono ?_; intro e v5 hp; obtain ⟨d3, rfl, ho, hb⟩ := hp
                  have HI := Lib.hid ho.isD
                  have HS14 := Lib.hid (HS13.out.later hb)
                  clear hb ho e0 e1 HS13
                  go_wp2_with fail
                  refine (DQ.out _ _ HS14.out HI.out).mono ?_; rintro e v6 ⟨rfl, hb⟩
                  have HS15 := Lib.hid (HS14.out.later hb)
                  clear hb HI HS14
                  have e0 := HS15.out.s.ba.cell 0
                  have e1 := HS15.out.s.bb.cell 0
                  simp at e0 e1
                  go_wp2_with fail
                  refine (CT.out _ HS15.out).mono ?_; intro e v7 hp; obtain ⟨d4, rfl, ho, hb⟩ := hp
                  have HI := Lib.hid ho.isD
                  have HS16 := Lib.hid (HS15.out.later hb)
                  clear hb ho e0 e1 HS15
                  go_wp2_with fail
                  refine (DT.out _ _ HS16.out HI.out).mono ?_; rintro e v8 ⟨rfl, hb⟩
                  have HS17 := Lib.hid (HS16.out.later hb)
                  clear hb HI HS16
                  go_wp2
                  go_ret
                  exact ⟨rfl, HS17.out.s.bel⟩
                · skip
                  have qb5 : (kb == 5) = false := by simp [m5]
                  have qb4 : (kb == 4) = false := by simp [m4]
                  have gj : max (x : Int) ((y : Int)) = (j : Int) := by simp only [lev5] at hj2; simp [m5] at hj2; omega
                  have gk : max ((x : Int)) ((y : Int)) = (k : Int) := by simp only [lev5, lev45] at hk2; simp [m5, m4] at hk2; omega
                  have gz : (x : Int) + 1 = (z : Int) := by simp only [lev45] at hz2; simp at hz2; omega
                  clear hj2 hk2 hz2
                  have e0 := HS9.out.s.ba.cell 0
                  have e1 := HS9.out.s.bb.cell 0
                  simp at e0 e1
                  go_wp2_with fail
                  refine (CF.out _ HS9.out).mono ?_; intro e v1 hp; obtain ⟨d1, rfl, ho, hb⟩ := hp
                  have HI := Lib.hid ho.isD
                  have HS10 := Lib.hid (HS9.out.later hb)
                  clear hb ho e0 e1
                  go_wp2_with fail
                  refine (DF.out _ _ HS10.out HI.out).mono ?_; rintro e v2 ⟨rfl, hb⟩
                  have HS11 := Lib.hid (HS10.out.later hb)
                  clear hb HI HS10
                  have e0 := HS11.out.s.ba.cell 0
                  have e1 := HS11.out.s.bb.cell 0
                  simp at e0 e1
                  go_wp2_with fail
                  refine (CO.out _ HS11.out).mono ?_; intro e v3 hp; obtain ⟨d2, rfl, ho, hb⟩ := hp
                  have HI := Lib.hid ho.isD
                  have HS12 := Lib.hid (HS11.out.later hb)
                  clear hb ho e0 e1 HS11
                  go_wp2_with fail
                  refine (DO.out _ _ HS12.out HI.out).mono ?_; rintro e v4 ⟨rfl, hb⟩
                  have HS13 := Lib.hid (HS12.out.later hb)
                  clear hb HI HS12
                  have e0 := HS13.out.s.ba.cell 0
                  have e1 := HS13.out.s.bb.cell 0
                  simp at e0 e1
                  go_wp2_with fail
                  refine (CQ.out _ HS13.out).mono ?_; intro e v5 hp; obtain ⟨d3, rfl, ho, hb⟩ := hp
                  have HI := Lib.hid ho.isD
                  have HS14 := Lib.hid (HS13.out.later hb)
                  clear hb ho e0 e1 HS13
                  go_wp2_with fail
                  refine (DQ.out _ _ HS14.out HI.out).mono ?_; rintro e v6 ⟨rfl, hb⟩
                  have HS15 := Lib.hid (HS14.out.later hb)
                  clear hb HI HS14
                  have e0 := HS15.out.s.ba.cell 0
                  have e1 := HS15.out.s.bb.cell 0
                  simp at e0 e1
                  go_wp2_with fail
                  refine (CT.out _ HS15.out).mono ?_; intro e v7 hp; obtain ⟨d4, rfl, ho, hb⟩ := hp
                  have HI := Lib.hid ho.isD
                  have HS16 := Lib.hid (HS15.out.later hb)
                  clear hb ho e0 e1 HS15
                  go_wp2_with fail
                  refine (DT.out _ _ HS16.out HI.out).mono ?_; rintro e v8 ⟨rfl, hb⟩
                  have HS17 := Lib.hid (HS16.out.later hb)
                  clear hb HI HS16
                  go_wp2
                  go_ret
                  exact ⟨rfl, HS17.out.s.bel⟩
            · skip
              by_cases m5 : kb = 5
              · subst m5
                have qa5 : (ka == 5) = false := by simp [n5]
                have qa4 : (ka == 4) = false := by simp [n4]
                have gj : max (x : Int) ((y : Int) + 1) = (j : Int) := by simp only [lev5] at hj2; simp at hj2; omega
                have gk : max ((x : Int)) ((y : Int) + 1) = (k : Int) := by simp only [lev5, lev45] at hk2; simp [n5] at hk2; omega
                have gz : (x : Int) = (z : Int) := by simp only [lev45] at hz2; simp [n5, n4] at hz2; omega
                clear hj2 hk2 hz2
                have e0 := HS9.out.s.ba.cell 0
                have e1 := HS9.out.s.bb.cell 0
                simp at e0 e1
                go_wp2_with fail
                refine (CF.out _ HS9.out).mono ?_; intro e v1 hp; obtain ⟨d1, rfl, ho, hb⟩ := hp
                have HI := Lib.hid ho.isD
                have HS10 := Lib.hid (HS9.out.later hb)
                clear hb ho e0 e1
                go_wp2_with fail
                refine (DF.out _ _ HS10.out HI.out).mono ?_; rintro e v2 ⟨rfl, hb⟩
                have HS11 := Lib.hid (HS10.out.later hb)
                clear hb HI HS10
                have e0 := HS11.out.s.ba.cell 0
                have e1 := HS11.out.s.bb.cell 0
                simp at e0 e1
                go_wp2_with fail
                refine (CO.out _ HS11.out).mono ?_; intro e v3 hp; obtain ⟨d2, rfl, ho, hb⟩ := hp
                have HI := Lib.hid ho.isD
                have HS12 := Lib.hid (HS11.out.later hb)
                clear hb ho e0 e1 HS11
                go_wp2_with fail
                refine (DO.out _ _ HS12.out HI.out).mono ?_; rintro e v4 ⟨rfl, hb⟩
                have HS13 := Lib.hid (HS12.out.later hb)
                clear hb HI HS12
                have e0 := HS13.out.s.ba.cell 0
                have e1 := HS13.out.s.bb.cell 0
                simp at e0 e1
                go_wp2_with fail
                refine (CQ.out _ HS13.out).mono ?_; intro e v5 hp; obtain ⟨d3, rfl, ho, hb⟩ := hp
                have HI := Lib.hid ho.isD
                have HS14 := Lib.hid (HS13.out.later hb)
                clear hb ho e0 e1 HS13
                go_wp2_with fail
                refine (DQ.out _ _ HS14.out HI.out).mono ?_; rintro e v6 ⟨rfl, hb⟩
                have HS15 := Lib.hid (HS14.out.later hb)
                clear hb HI HS14
                have e0 := HS15.out.s.ba.cell 0
                have e1 := HS15.out.s.bb.cell 0
                simp at e0 e1
                go_wp2_with fail
                refine (CT.out _ HS15.out).mono ?_; intro e v7 hp; obtain ⟨d4, rfl, ho, hb⟩ := hp
                have HI := Lib.hid ho.isD
                have HS16 := Lib.hid (HS15.out.later hb)
                clear hb ho e0 e1 HS15
                go_wp2_with fail
                refine (DT.out _ _ HS16.out HI.out).mono ?_; rintro e v8 ⟨rfl, hb⟩
                have HS17 := Lib.hid (HS16.out.later hb)
                clear hb HI HS16
                go_wp2
                go_ret
                exact ⟨rfl, HS17.out.s.bel⟩
              · by_cases m4 : kb = 4
                · subst m4
                  have qa5 : (ka == 5) = false := by simp [n5]
                  have qa4 : (ka == 4) = false := by simp [n4]
                  have gj : max (x : Int) ((y : Int)) = (j : Int) := by simp only [lev5] at hj2; simp at hj2; omega
                  have gk : max ((x : Int)) ((y : Int) + 1) = (k : Int) := by simp only [lev5, lev45] at hk2; simp [n5] at hk2; omega
                  have gz : (x : Int) = (z : Int) := by simp only [lev45] at hz2; simp [n5, n4] at hz2; omega
                  clear hj2 hk2 hz2
                  have e0 := HS9.out.s.ba.cell 0
                  have e1 := HS9.out.s.bb.cell 0
                  simp at e0 e1
                  go_wp2_with fail
                  refine (CF.out _ HS9.out).mono ?_; intro e v1 hp; obtain ⟨d1, rfl, ho, hb⟩ := hp
                  have HI := Lib.hid ho.isD
                  have HS10 := Lib.hid (HS9.out.later hb)
                  clear hb ho e0 e1
                  go_wp2_with fail
                  refine (DF.out _ _ HS10.out HI.out).mono ?_; rintro e v2 ⟨rfl, hb⟩
                  have HS11 := Lib.hid (HS10.out.later hb)
                  clear hb HI HS10
                  have e0 := HS11.out.s.ba.cell 0
                  have e1 := HS11.out.s.bb.cell 0
                  simp at e0 e1
                  go_wp2_with fail
                  refine (CO.out _ HS11.out).mono ?_; intro e v3 hp; obtain ⟨d2, rfl, ho, hb⟩ := hp
                  have HI := Lib.hid ho.isD
                  have HS12 := Lib.hid (HS11.out.later hb)
                  clear hb ho e0 e1 HS11
                  go_wp2_with fail
                  refine (DO.out _ _ HS12.out HI.out).mono ?_; rintro e v4 ⟨rfl, hb⟩
                  have HS13 := Lib.hid (HS12.out.later hb)
                  clear hb HI HS12
                  have e0 := HS13.out.s.ba.cell 0
                  have e1 := HS13.out.s.bb.cell 0
                  simp at e0 e1
                  go_wp2_with fail
                  refine (CQ.out _ HS13.out).mono ?_; intro e v5 hp; obtain ⟨d3, rfl, ho, hb⟩ := hp
                  have HI := Lib.hid ho.isD
                  have HS14 := Lib.hid (HS13.out.later hb)
                  clear hb ho e0 e1 HS13
                  go_wp2_with fail
                  refine (DQ.out _ _ HS14.out HI.out).mono ?_; rintro e v6 ⟨rfl, hb⟩
                  have HS15 := Lib.hid (HS14.out.later hb)
                  clear hb HI HS14
                  have e0 := HS15.out.s.ba.cell 0
                  have e1 := HS15.out.s.bb.cell 0
                  simp at e0 e1
                  go_wp2_with fail
                  refine (CT.out _ HS15.out).mono ?_; intro e v7 hp; obtain ⟨d4, rfl, ho, hb⟩ := hp
                  have HI := Lib.hid ho.isD
                  have HS16 := Lib.hid (HS15.out.later hb)
                  clear hb ho e0 e1 HS15
                  go_wp2_with fail
                  refine (DT.out _ _ HS16.out HI.out).mono ?_; rintro e v8 ⟨rfl, hb⟩
                  have HS17 := Lib.hid (HS16.out.later hb)
                  clear hb HI HS16
                  go_wp2
                  go_ret
                  exact ⟨rfl, HS17.out.s.bel⟩
                · skip
                  have qa5 : (ka == 5) = false := by simp [n5]
                  have qa4 : (ka == 4) = false := by simp [n4]
                  have qb5 : (kb == 5) = false := by simp [m5]
                  have qb4 : (kb == 4) = false := by simp [m4]
                  have gj : max (x : Int) ((y : Int)) = (j : Int) := by simp only [lev5] at hj2; simp [m5] at hj2; omega
                  have gk : max ((x : Int)) ((y : Int)) = (k : Int) := by simp only [lev5, lev45] at hk2; simp [n5, m5, m4] at hk2; omega
                  have gz : (x : Int) = (z : Int) := by simp only [lev45] at hz2; simp [n5, n4] at hz2; omega
                  clear hj2 hk2 hz2
                  have e0 := HS9.out.s.ba.cell 0
                  have e1 := HS9.out.s.bb.cell 0
                  simp at e0 e1
                  go_wp2_with fail
                  refine (CF.out _ HS9.out).mono ?_; intro e v1 hp; obtain ⟨d1, rfl, ho, hb⟩ := hp
                  have HI := Lib.hid ho.isD
                  have HS10 := Lib.hid (HS9.out.later hb)
                  clear hb ho e0 e1
                  go_wp2_with fail
                  refine (DF.out _ _ HS10.out HI.out).mono ?_; rintro e v2 ⟨rfl, hb⟩
                  have HS11 := Lib.hid (HS10.out.later hb)
                  clear hb HI HS10
                  have e0 := HS11.out.s.ba.cell 0
                  have e1 := HS11.out.s.bb.cell 0
                  simp at e0 e1
                  go_wp2_with fail
                  refine (CO.out _ HS11.out).mono ?_; intro e v3 hp; obtain ⟨d2, rfl, ho, hb⟩ := hp
                  have HI := Lib.hid ho.isD
                  have HS12 := Lib.hid (HS11.out.later hb)
                  clear hb ho e0 e1 HS11
                  go_wp2_with fail
                  refine (DO.out _ _ HS12.out HI.out).mono ?_; rintro e v4 ⟨rfl, hb⟩
                  have HS13 := Lib.hid (HS12.out.later hb)
                  clear hb HI HS12
                  have e0 := HS13.out.s.ba.cell 0
                  have e1 := HS13.out.s.bb.cell 0
                  simp at e0 e1
                  go_wp2_with fail
                  refine (CQ.out _ HS13.out).mono ?_; intro e v5 hp; obtain ⟨d3, rfl, ho, hb⟩ := hp
                  have HI := Lib.hid ho.isD
                  have HS14 := Lib.hid (HS13.out.later hb)
                  clear hb ho e0 e1 HS13
                  go_wp2_with fail
                  refine (DQ.out _ _ HS14.out HI.out).mono ?_; rintro e v6 ⟨rfl, hb⟩
                  have HS15 := Lib.hid (HS14.out.later hb)
                  clear hb HI HS14
                  have e0 := HS15.out.s.ba.cell 0
                  have e1 := HS15.out.s.bb.cell 0
                  simp at e0 e1
                  go_wp2_with fail
                  refine (CT.out _ HS15.out).mono ?_; intro e v7 hp; obtain ⟨d4, rfl, ho, hb⟩ := hp
                  have HI := Lib.hid ho.isD
                  have HS16 := Lib.hid (HS15.out.later hb)
                  clear hb ho e0 e1 HS15
                  go_wp2_with fail
                  refine (DT.out _ _ HS16.out HI.out).mono ?_; rintro e v8 ⟨rfl, hb⟩
                  have HS17 := Lib.hid (HS16.out.later hb)
                  clear hb HI HS16
                  go_wp2
                  go_ret
                  exact ⟨rfl, HS17.out.s.bel⟩
end Go.Proofs.YtacaloddhklkiaaDoor
