/- symMergeCmpFunc over a row of classes: two sorted halves become one, at whatever lengths. -/
import Derived.Test.YtgehepiphdphjaaDoorSortSymL
namespace Go.Proofs.YtgehepiphdphjaaDoor
open Go Go.RowKit
set_option linter.unusedVariables false

set_option maxRecDepth 1000000 in
set_option maxHeartbeats 64000000 in
theorem sym_lo (L : Nat → BitVec 256) (b n cap sz : Nat) (hnb : 2 ≠ b) (hn : n < 1152921504606846976) (IH0 : Sym L b n cap sz) (a m e : Nat) (d : Nat → Nat) (w : World) (hsz : e - a ≤ sz + 1) (h : CRow w b n (fun i => L (d i))) (hd : Deb w) (ham : a < m) (hme : m < e) (ham2 : m ≠ a + 1) (hme2 : e ≠ m + 1) (he : e ≤ n) (hmD0 : ¬ (a + e) / 2 < m) (h2 : Two' (fun i => lstB (L i)) a m e d) :
    Calls Tryd.prog 95 #[.slice (some ⟨b, 0, none⟩) n cap, .int .i64 a, .int .i64 m, .int .i64 e, .func (.func 63) #[] #[]] w (Sorted (fun i => lstB (L i)) L d a e b n w) := by
  have IH := Lib.hid IH0
  have H := Lib.hid (SortS.mk h hd (But.refl b w))
  have H2 := Lib.hid h2
  have HNB := Lib.hid hnb
  have hbound : (n : Int) < 1152921504606846976 := by omega
  clear h hd h2 hnb IH0
  obtain ⟨D, hD, hD2⟩ : ∃ D : Nat, ((a : Int) + (e : Int)) / 2 = (D : Int) ∧ D = (a + e) / 2 := ⟨(a + e) / 2, by omega, rfl⟩
  have haD : a < D := by omega
  have hDe : D < e := by omega
  have HD := Lib.hid hD2
  have e1 : (((m : Int) - (a : Int)) == 1) = false := by rw [beq_eq_false_iff_ne]; omega
  have e2 : (((e : Int) - (m : Int)) == 1) = false := by rw [beq_eq_false_iff_ne]; omega
  have hD3 : 2 * D ≤ a + e ∧ a + e ≤ 2 * D + 1 := by omega
  clear hD2
  go_enter Tryd.func95, Tryd.ntmps95
  have hmD : ¬ D < m := by rw [HD.out]; exact hmD0
  have hmz : ¬ (D : Int) < (m : Int) := by omega
  clear hmD0
  obtain ⟨lo, hlo⟩ : ∃ lo : Nat, (lo:Int)=a := ⟨a, by omega⟩
  go_wp2
  go_loopw [20, 21] (SymR L d lo m (D + m) b n w) (fun i j _ => (intOf j - intOf i).toNat)
  case atStart => exact ⟨lo, m, by first | rfl | (congr 1; omega), rfl, Nat.le_refl _, by omega, Nat.le_refl _, Or.inl rfl, Or.inl rfl, H.out⟩
  case round =>
    obtain ⟨x, y, rfl, rfl, hax, hxy, hye, hl1, hh1, hW⟩ := hrel
    have HW := Lib.hid hW
    have HL1 := Lib.hid hl1
    have HH1 := Lib.hid hh1
    clear hW hl1 hh1
    by_cases hlt : x < y
    · have hltz : (x : Int) < (y : Int) := by omega
      obtain ⟨M, hM, hxM, hMy⟩ : ∃ M : Nat, ((x : Int) + (y : Int)) / 2 = (M : Int) ∧ x ≤ M ∧ M < y := ⟨(x + y) / 2, by omega, by omega, by omega⟩
      obtain ⟨Q, hQ, hQn⟩ : ∃ Q : Nat, (D : Int) + (m : Int) - 1 - (M : Int) = (Q : Int) ∧ Q < n := ⟨D + m - 1 - M, by omega, by omega⟩
      have HQ := Lib.hid hQ
      have hMn : M < n := by omega
      have hMz : (M : Int) < (n : Int) := by omega
      have hQz : (Q : Int) < (n : Int) := by omega
      have hM0 : (0 : Int) ≤ (M : Int) := by omega
      have hQ0 : (0 : Int) ≤ (Q : Int) := by omega
      obtain ⟨z, hz1, hz0, hz2⟩ : ∃ z : Int, -1 ≤ z ∧ z ≤ 1 ∧ Hid (z = sgn (lstB (L (d Q))) (lstB (L (d M)))) := ⟨_, (sgn_in _ _).1, (sgn_in _ _).2, rfl⟩
      have hc : ∀ w, Deb w → Calls Tryd.prog 63 #[cls (L (d Q)), cls (L (d M))] w (Ans w (.int .i64 z)) := fun w hd => by rw [hz2.out]; exact byleast_any _ _ w hd
      by_cases hl : z < 0
      · go_upto_region 35 with (fail)
        refine wp_region_stable (S := (SortS w b n (fun i => L (d i)))) (hSt := fun _ _ h hb => h.later hb) (plan := [[(4, none)], [(0, none)], [(22, none)], [(23, none)], [(160, some 2), (161, some 3)], [(159, some 1), (162, some 4)], [(163, some 5)], [(0, none)], [(23, none)], [(165, some 7), (166, some 8)], [(167, some 9)], [(158, some 0), (164, some 6), (168, some 10)], [(169, some 11)], [(170, some 12)]]) (by kernel_rfl) (by kernel_rfl) (by kernel_rfl) ?hS ?_
        rotate_left
        iterate 14 first
          | (refine chain_skip (by rfl) (by rfl) ?_)
          | (apply chain_want (by rfl)
             · intro act wx hS hr
               simp at hr
               have h1 := hS.row.cells M hMn
               have h2 := hS.row.cells Q hQn
               go_simp
               (try go_ints)
               first
                 | exact Done.same (v := cls _)
                 | ((with_reducible refine (hc _ hS.deb).mono ?_); rintro e w' ⟨rfl, hb⟩; exact Done.mk hb)
                 | exact Done.same
            )
        show ∀ w', _ → _
        intro wz hz
        simp [Act.put]
        case hS => exact HW.out
        have HZ := Lib.hid hz
        clear hz hc
        go_wp2
        go_roundw
        case rel =>
          have hlt2 : lstB (L (d (D + m - 1 - M))) < lstB (L (d M)) := by
            have hq2 := HQ.out
            rw [show D + m - 1 - M = Q by omega]
            exact (sgn_neg _ _).1 (by rw [← hz2.out]; exact hl)
          exact ⟨x, M, rfl, rfl, hax, by omega, by omega, HL1.out, Or.inr hlt2, HZ.out⟩
        case measure => simp [intOf]; omega
      · go_upto_region 35 with (fail)
        refine wp_region_stable (S := (SortS w b n (fun i => L (d i)))) (hSt := fun _ _ h hb => h.later hb) (plan := [[(4, none)], [(0, none)], [(22, none)], [(23, none)], [(160, some 2), (161, some 3)], [(159, some 1), (162, some 4)], [(163, some 5)], [(0, none)], [(23, none)], [(165, some 7), (166, some 8)], [(167, some 9)], [(158, some 0), (164, some 6), (168, some 10)], [(169, some 11)], [(170, some 12)]]) (by kernel_rfl) (by kernel_rfl) (by kernel_rfl) ?hS ?_
        rotate_left
        iterate 14 first
          | (refine chain_skip (by rfl) (by rfl) ?_)
          | (apply chain_want (by rfl)
             · intro act wx hS hr
               simp at hr
               have h1 := hS.row.cells M hMn
               have h2 := hS.row.cells Q hQn
               go_simp
               (try go_ints)
               first
                 | exact Done.same (v := cls _)
                 | ((with_reducible refine (hc _ hS.deb).mono ?_); rintro e w' ⟨rfl, hb⟩; exact Done.mk hb)
                 | exact Done.same
            )
        show ∀ w', _ → _
        intro wz hz
        simp [Act.put]
        case hS => exact HW.out
        have HZ := Lib.hid hz
        clear hz hc
        go_wp2
        go_roundw
        case rel =>
          have hle2 : lstB (L (d (M + 1 - 1))) ≤ lstB (L (d (D + m - (M + 1)))) := by
            have hq2 := HQ.out
            have : ¬ lstB (L (d Q)) < lstB (L (d M)) := fun hh => (show ¬ z < 0 by omega) (by rw [hz2.out]; exact (sgn_neg _ _).2 hh)
            rw [show D + m - (M + 1) = Q by omega, Nat.add_sub_cancel]; omega
          exact ⟨M + 1, y, by go_num, rfl, by omega, by omega, hye, Or.inr hle2, HH1.out, HZ.out⟩
        case measure => simp [intOf]; omega
    · obtain rfl : x = y := by omega
      have hcut := sym_cut HD.out ham hme (by omega) hax hye HL1.out HH1.out
      obtain ⟨E, hE⟩ : ∃ E : Nat, E = D + m - x := ⟨_, rfl⟩
      rw [← hE] at hcut
      have hEz : (D : Int) + (m : Int) - (x : Int) = (E : Int) := by omega
      have hEz' : (E : Int) = (D : Int) + (m : Int) - (x : Int) := by omega
      have hEm : m ≤ E := hcut.e1
      have hEe : E ≤ e := hcut.e2
      have hxm : x ≤ m := hcut.s2
      have hxa : a ≤ x := hcut.s1
      have hxD : x ≤ D := by omega
      have hDE : D ≤ E := by omega
      have hDE2 : E + x = D + m := by omega
      obtain ⟨c1, hc1⟩ : ∃ c1, c1 = rotF d x m E := ⟨_, rfl⟩
      have HC : Hid (Rotd L d c1 a x D E e) := by
        have hr := cut_rot H2.out hcut
        rw [show x + (E - m) = D by omega, ← hc1] at hr
        exact ⟨by rw [hc1]; exact (mv_rot d x m E hxm hEm).wide hxa hEe, hr.1, hr.2.1, hr.2.2⟩
      have HC1 := Lib.hid hc1
      clear hcut hE HL1 HH1 hEz' hc1
      have HDE2 := Lib.hid hDE2
      clear hDE2
      have hxx : ¬ (x : Int) < (x : Int) := by omega
      by_cases hA : x < m ∧ m < E
      · have b5 : (x : Int) < (m : Int) := by omega
        have b6 : (m : Int) < (E : Int) := by omega
        go_wp2_with fail
        refine (rotate_any L d x m E b n cap _ _ HW.out.row hA.1 hA.2 (by omega) hn).mono ?_
        rintro ee w1 ⟨rfl, hC1, hB1⟩
        rw [← HC1.out] at hC1
        have HW1 := Lib.hid (HW.out.on hC1 hB1 HNB.out)
        clear hC1 hB1
        by_cases hB : a < x ∧ x < D
        · have b1 : (a : Int) < (x : Int) := by omega
          have b2 : (x : Int) < (D : Int) := by omega
          go_wp2_with fail
          refine (IH.out a x D c1 _ (by omega) HW1.out.row HW1.out.deb hB.1 hB.2 (by omega) HC.out.2.1).mono ?_
          rintro ee w2 ⟨rfl, d1, M1, Q1, S1⟩
          have HT : Hid (Half L a D b n c1 d1 w1 w2) := ⟨M1, Q1, S1⟩
          clear M1 Q1 S1
          by_cases hC2 : D < E ∧ E < e
          · have b3 : (D : Int) < (E : Int) := by omega
            have b4 : (E : Int) < (e : Int) := by omega
            have T2 := HC.out.second HT.out (by omega) (by omega)
            go_wp2_with fail
            refine (IH.out D E e d1 _ (by omega) HT.out.2.2.row HT.out.2.2.deb hC2.1 hC2.2 he T2).mono ?_
            rintro ee w3 ⟨rfl, d2, M2, Q2, S2⟩
            have HQ := Lib.hid (HC.out.done (by omega) (by omega) HW1.out HT.out M2 Q2 S2)
            clear T2 M2 Q2 S2
            go_wp2
            go_end0
            exact ⟨rfl, HQ.out⟩
          · have T2 := HC.out.second HT.out (by omega) (by omega)
            have Q2 : Sd (fun i => lstB (L i)) D e d1 := by
              by_cases hx : E ≤ D
              · exact T2.right hx
              · exact T2.left (by omega)
            have HQ := Lib.hid (HC.out.done (by omega) (by omega) HW1.out HT.out (Mv.refl _ _ _) Q2 HT.out.2.2.refl)
            clear T2 Q2
            by_cases hax2 : D < E
            · have b3 : (D : Int) < (E : Int) := by omega
              have b4 : ¬ (E : Int) < (e : Int) := by omega
              have b4' : ¬ E < e := by omega
              go_wp2
              go_end0
              exact ⟨rfl, HQ.out⟩
            · have b3 : ¬ (D : Int) < (E : Int) := by omega
              go_wp2
              go_end0
              exact ⟨rfl, HQ.out⟩
        · have HT : Hid (Half L a D b n c1 c1 w1 w1) := by
            refine ⟨Mv.refl _ _ _, ?_, HW1.out.refl⟩
            by_cases hx : x ≤ a
            · exact HC.out.2.1.right hx
            · exact HC.out.2.1.left (by omega)
          by_cases hax3 : a < x
          · have b1 : (a : Int) < (x : Int) := by omega
            have b2 : ¬ (x : Int) < (D : Int) := by omega
            have b2' : ¬ x < D := by omega
            by_cases hC2 : D < E ∧ E < e
            · have b3 : (D : Int) < (E : Int) := by omega
              have b4 : (E : Int) < (e : Int) := by omega
              have T2 := HC.out.second HT.out (by omega) (by omega)
              go_wp2_with fail
              refine (IH.out D E e c1 _ (by omega) HT.out.2.2.row HT.out.2.2.deb hC2.1 hC2.2 he T2).mono ?_
              rintro ee w3 ⟨rfl, d2, M2, Q2, S2⟩
              have HQ := Lib.hid (HC.out.done (by omega) (by omega) HW1.out HT.out M2 Q2 S2)
              clear T2 M2 Q2 S2
              go_wp2
              go_end0
              exact ⟨rfl, HQ.out⟩
            · have T2 := HC.out.second HT.out (by omega) (by omega)
              have Q2 : Sd (fun i => lstB (L i)) D e c1 := by
                by_cases hx : E ≤ D
                · exact T2.right hx
                · exact T2.left (by omega)
              have HQ := Lib.hid (HC.out.done (by omega) (by omega) HW1.out HT.out (Mv.refl _ _ _) Q2 HT.out.2.2.refl)
              clear T2 Q2
              by_cases hax2 : D < E
              · have b3 : (D : Int) < (E : Int) := by omega
                have b4 : ¬ (E : Int) < (e : Int) := by omega
                have b4' : ¬ E < e := by omega
                go_wp2
                go_end0
                exact ⟨rfl, HQ.out⟩
              · have b3 : ¬ (D : Int) < (E : Int) := by omega
                go_wp2
                go_end0
                exact ⟨rfl, HQ.out⟩
          · have b1 : ¬ (a : Int) < (x : Int) := by omega
            by_cases hC2 : D < E ∧ E < e
            · have b3 : (D : Int) < (E : Int) := by omega
              have b4 : (E : Int) < (e : Int) := by omega
              have T2 := HC.out.second HT.out (by omega) (by omega)
              go_wp2_with fail
              refine (IH.out D E e c1 _ (by omega) HT.out.2.2.row HT.out.2.2.deb hC2.1 hC2.2 he T2).mono ?_
              rintro ee w3 ⟨rfl, d2, M2, Q2, S2⟩
              have HQ := Lib.hid (HC.out.done (by omega) (by omega) HW1.out HT.out M2 Q2 S2)
              clear T2 M2 Q2 S2
              go_wp2
              go_end0
              exact ⟨rfl, HQ.out⟩
            · have T2 := HC.out.second HT.out (by omega) (by omega)
              have Q2 : Sd (fun i => lstB (L i)) D e c1 := by
                by_cases hx : E ≤ D
                · exact T2.right hx
                · exact T2.left (by omega)
              have HQ := Lib.hid (HC.out.done (by omega) (by omega) HW1.out HT.out (Mv.refl _ _ _) Q2 HT.out.2.2.refl)
              clear T2 Q2
              by_cases hax2 : D < E
              · have b3 : (D : Int) < (E : Int) := by omega
                have b4 : ¬ (E : Int) < (e : Int) := by omega
                have b4' : ¬ E < e := by omega
                go_wp2
                go_end0
                exact ⟨rfl, HQ.out⟩
              · have b3 : ¬ (D : Int) < (E : Int) := by omega
                go_wp2
                go_end0
                exact ⟨rfl, HQ.out⟩
      · have HW1 : Hid (SortS w b n (fun i => L (c1 i)) wr) := by
          rw [HC1.out, rot_none d x m E (by omega)]; exact HW.out
        by_cases hax4 : x < m
        · have b5 : (x : Int) < (m : Int) := by omega
          have b6 : ¬ (m : Int) < (E : Int) := by omega
          have b6' : ¬ m < E := by omega
          by_cases hB : a < x ∧ x < D
          · have b1 : (a : Int) < (x : Int) := by omega
            have b2 : (x : Int) < (D : Int) := by omega
            go_wp2_with fail
            refine (IH.out a x D c1 _ (by omega) HW1.out.row HW1.out.deb hB.1 hB.2 (by omega) HC.out.2.1).mono ?_
            rintro ee w2 ⟨rfl, d1, M1, Q1, S1⟩
            have HT : Hid (Half L a D b n c1 d1 wr w2) := ⟨M1, Q1, S1⟩
            clear M1 Q1 S1
            by_cases hC2 : D < E ∧ E < e
            · have b3 : (D : Int) < (E : Int) := by omega
              have b4 : (E : Int) < (e : Int) := by omega
              have T2 := HC.out.second HT.out (by omega) (by omega)
              go_wp2_with fail
              refine (IH.out D E e d1 _ (by omega) HT.out.2.2.row HT.out.2.2.deb hC2.1 hC2.2 he T2).mono ?_
              rintro ee w3 ⟨rfl, d2, M2, Q2, S2⟩
              have HQ := Lib.hid (HC.out.done (by omega) (by omega) HW1.out HT.out M2 Q2 S2)
              clear T2 M2 Q2 S2
              go_wp2
              go_end0
              exact ⟨rfl, HQ.out⟩
            · have T2 := HC.out.second HT.out (by omega) (by omega)
              have Q2 : Sd (fun i => lstB (L i)) D e d1 := by
                by_cases hx : E ≤ D
                · exact T2.right hx
                · exact T2.left (by omega)
              have HQ := Lib.hid (HC.out.done (by omega) (by omega) HW1.out HT.out (Mv.refl _ _ _) Q2 HT.out.2.2.refl)
              clear T2 Q2
              by_cases hax2 : D < E
              · have b3 : (D : Int) < (E : Int) := by omega
                have b4 : ¬ (E : Int) < (e : Int) := by omega
                have b4' : ¬ E < e := by omega
                go_wp2
                go_end0
                exact ⟨rfl, HQ.out⟩
              · have b3 : ¬ (D : Int) < (E : Int) := by omega
                go_wp2
                go_end0
                exact ⟨rfl, HQ.out⟩
          · have HT : Hid (Half L a D b n c1 c1 wr wr) := by
              refine ⟨Mv.refl _ _ _, ?_, HW1.out.refl⟩
              by_cases hx : x ≤ a
              · exact HC.out.2.1.right hx
              · exact HC.out.2.1.left (by omega)
            by_cases hax3 : a < x
            · have b1 : (a : Int) < (x : Int) := by omega
              have b2 : ¬ (x : Int) < (D : Int) := by omega
              have b2' : ¬ x < D := by omega
              by_cases hC2 : D < E ∧ E < e
              · have b3 : (D : Int) < (E : Int) := by omega
                have b4 : (E : Int) < (e : Int) := by omega
                have T2 := HC.out.second HT.out (by omega) (by omega)
                go_wp2_with fail
                refine (IH.out D E e c1 _ (by omega) HT.out.2.2.row HT.out.2.2.deb hC2.1 hC2.2 he T2).mono ?_
                rintro ee w3 ⟨rfl, d2, M2, Q2, S2⟩
                have HQ := Lib.hid (HC.out.done (by omega) (by omega) HW1.out HT.out M2 Q2 S2)
                clear T2 M2 Q2 S2
                go_wp2
                go_end0
                exact ⟨rfl, HQ.out⟩
              · have T2 := HC.out.second HT.out (by omega) (by omega)
                have Q2 : Sd (fun i => lstB (L i)) D e c1 := by
                  by_cases hx : E ≤ D
                  · exact T2.right hx
                  · exact T2.left (by omega)
                have HQ := Lib.hid (HC.out.done (by omega) (by omega) HW1.out HT.out (Mv.refl _ _ _) Q2 HT.out.2.2.refl)
                clear T2 Q2
                by_cases hax2 : D < E
                · have b3 : (D : Int) < (E : Int) := by omega
                  have b4 : ¬ (E : Int) < (e : Int) := by omega
                  have b4' : ¬ E < e := by omega
                  go_wp2
                  go_end0
                  exact ⟨rfl, HQ.out⟩
                · have b3 : ¬ (D : Int) < (E : Int) := by omega
                  go_wp2
                  go_end0
                  exact ⟨rfl, HQ.out⟩
            · have b1 : ¬ (a : Int) < (x : Int) := by omega
              by_cases hC2 : D < E ∧ E < e
              · have b3 : (D : Int) < (E : Int) := by omega
                have b4 : (E : Int) < (e : Int) := by omega
                have T2 := HC.out.second HT.out (by omega) (by omega)
                go_wp2_with fail
                refine (IH.out D E e c1 _ (by omega) HT.out.2.2.row HT.out.2.2.deb hC2.1 hC2.2 he T2).mono ?_
                rintro ee w3 ⟨rfl, d2, M2, Q2, S2⟩
                have HQ := Lib.hid (HC.out.done (by omega) (by omega) HW1.out HT.out M2 Q2 S2)
                clear T2 M2 Q2 S2
                go_wp2
                go_end0
                exact ⟨rfl, HQ.out⟩
              · have T2 := HC.out.second HT.out (by omega) (by omega)
                have Q2 : Sd (fun i => lstB (L i)) D e c1 := by
                  by_cases hx : E ≤ D
                  · exact T2.right hx
                  · exact T2.left (by omega)
                have HQ := Lib.hid (HC.out.done (by omega) (by omega) HW1.out HT.out (Mv.refl _ _ _) Q2 HT.out.2.2.refl)
                clear T2 Q2
                by_cases hax2 : D < E
                · have b3 : (D : Int) < (E : Int) := by omega
                  have b4 : ¬ (E : Int) < (e : Int) := by omega
                  have b4' : ¬ E < e := by omega
                  go_wp2
                  go_end0
                  exact ⟨rfl, HQ.out⟩
                · have b3 : ¬ (D : Int) < (E : Int) := by omega
                  go_wp2
                  go_end0
                  exact ⟨rfl, HQ.out⟩
        · have b5 : ¬ (x : Int) < (m : Int) := by omega
          by_cases hB : a < x ∧ x < D
          · have b1 : (a : Int) < (x : Int) := by omega
            have b2 : (x : Int) < (D : Int) := by omega
            go_wp2_with fail
            refine (IH.out a x D c1 _ (by omega) HW1.out.row HW1.out.deb hB.1 hB.2 (by omega) HC.out.2.1).mono ?_
            rintro ee w2 ⟨rfl, d1, M1, Q1, S1⟩
            have HT : Hid (Half L a D b n c1 d1 wr w2) := ⟨M1, Q1, S1⟩
            clear M1 Q1 S1
            by_cases hC2 : D < E ∧ E < e
            · have b3 : (D : Int) < (E : Int) := by omega
              have b4 : (E : Int) < (e : Int) := by omega
              have T2 := HC.out.second HT.out (by omega) (by omega)
              go_wp2_with fail
              refine (IH.out D E e d1 _ (by omega) HT.out.2.2.row HT.out.2.2.deb hC2.1 hC2.2 he T2).mono ?_
              rintro ee w3 ⟨rfl, d2, M2, Q2, S2⟩
              have HQ := Lib.hid (HC.out.done (by omega) (by omega) HW1.out HT.out M2 Q2 S2)
              clear T2 M2 Q2 S2
              go_wp2
              go_end0
              exact ⟨rfl, HQ.out⟩
            · have T2 := HC.out.second HT.out (by omega) (by omega)
              have Q2 : Sd (fun i => lstB (L i)) D e d1 := by
                by_cases hx : E ≤ D
                · exact T2.right hx
                · exact T2.left (by omega)
              have HQ := Lib.hid (HC.out.done (by omega) (by omega) HW1.out HT.out (Mv.refl _ _ _) Q2 HT.out.2.2.refl)
              clear T2 Q2
              by_cases hax2 : D < E
              · have b3 : (D : Int) < (E : Int) := by omega
                have b4 : ¬ (E : Int) < (e : Int) := by omega
                have b4' : ¬ E < e := by omega
                go_wp2
                go_end0
                exact ⟨rfl, HQ.out⟩
              · have b3 : ¬ (D : Int) < (E : Int) := by omega
                go_wp2
                go_end0
                exact ⟨rfl, HQ.out⟩
          · have HT : Hid (Half L a D b n c1 c1 wr wr) := by
              refine ⟨Mv.refl _ _ _, ?_, HW1.out.refl⟩
              by_cases hx : x ≤ a
              · exact HC.out.2.1.right hx
              · exact HC.out.2.1.left (by omega)
            by_cases hax3 : a < x
            · have b1 : (a : Int) < (x : Int) := by omega
              have b2 : ¬ (x : Int) < (D : Int) := by omega
              have b2' : ¬ x < D := by omega
              by_cases hC2 : D < E ∧ E < e
              · have b3 : (D : Int) < (E : Int) := by omega
                have b4 : (E : Int) < (e : Int) := by omega
                have T2 := HC.out.second HT.out (by omega) (by omega)
                go_wp2_with fail
                refine (IH.out D E e c1 _ (by omega) HT.out.2.2.row HT.out.2.2.deb hC2.1 hC2.2 he T2).mono ?_
                rintro ee w3 ⟨rfl, d2, M2, Q2, S2⟩
                have HQ := Lib.hid (HC.out.done (by omega) (by omega) HW1.out HT.out M2 Q2 S2)
                clear T2 M2 Q2 S2
                go_wp2
                go_end0
                exact ⟨rfl, HQ.out⟩
              · have T2 := HC.out.second HT.out (by omega) (by omega)
                have Q2 : Sd (fun i => lstB (L i)) D e c1 := by
                  by_cases hx : E ≤ D
                  · exact T2.right hx
                  · exact T2.left (by omega)
                have HQ := Lib.hid (HC.out.done (by omega) (by omega) HW1.out HT.out (Mv.refl _ _ _) Q2 HT.out.2.2.refl)
                clear T2 Q2
                by_cases hax2 : D < E
                · have b3 : (D : Int) < (E : Int) := by omega
                  have b4 : ¬ (E : Int) < (e : Int) := by omega
                  have b4' : ¬ E < e := by omega
                  go_wp2
                  go_end0
                  exact ⟨rfl, HQ.out⟩
                · have b3 : ¬ (D : Int) < (E : Int) := by omega
                  go_wp2
                  go_end0
                  exact ⟨rfl, HQ.out⟩
            · have b1 : ¬ (a : Int) < (x : Int) := by omega
              by_cases hC2 : D < E ∧ E < e
              · have b3 : (D : Int) < (E : Int) := by omega
                have b4 : (E : Int) < (e : Int) := by omega
                have T2 := HC.out.second HT.out (by omega) (by omega)
                go_wp2_with fail
                refine (IH.out D E e c1 _ (by omega) HT.out.2.2.row HT.out.2.2.deb hC2.1 hC2.2 he T2).mono ?_
                rintro ee w3 ⟨rfl, d2, M2, Q2, S2⟩
                have HQ := Lib.hid (HC.out.done (by omega) (by omega) HW1.out HT.out M2 Q2 S2)
                clear T2 M2 Q2 S2
                go_wp2
                go_end0
                exact ⟨rfl, HQ.out⟩
              · have T2 := HC.out.second HT.out (by omega) (by omega)
                have Q2 : Sd (fun i => lstB (L i)) D e c1 := by
                  by_cases hx : E ≤ D
                  · exact T2.right hx
                  · exact T2.left (by omega)
                have HQ := Lib.hid (HC.out.done (by omega) (by omega) HW1.out HT.out (Mv.refl _ _ _) Q2 HT.out.2.2.refl)
                clear T2 Q2
                by_cases hax2 : D < E
                · have b3 : (D : Int) < (E : Int) := by omega
                  have b4 : ¬ (E : Int) < (e : Int) := by omega
                  have b4' : ¬ E < e := by omega
                  go_wp2
                  go_end0
                  exact ⟨rfl, HQ.out⟩
                · have b3 : ¬ (D : Int) < (E : Int) := by omega
                  go_wp2
                  go_end0
                  exact ⟨rfl, HQ.out⟩
end Go.Proofs.YtgehepiphdphjaaDoor
