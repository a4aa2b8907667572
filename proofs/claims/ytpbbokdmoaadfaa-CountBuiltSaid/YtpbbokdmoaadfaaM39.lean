/- The statement CountBuilt of layer 12, walked. -/
import Derived.Test.YtpbbokdmoaadfaaM38
namespace Go.Proofs.Ytpbbokdmoaadfaa
open Go Go.RowKit
set_option linter.unusedVariables false
set_option linter.unusedSimpArgs false
def cwEn : Nd := { kind := 1 }
theorem cwE_sp : Sp [cwEn] := sp_one ⟨rfl, .inl rfl⟩ (.inl rfl) (by decide)
theorem cwE_sc : Sc [cwEn] := ⟨cwE_sp.sm.form, by decide, by decide⟩
structure CzS (w0 : World) (A : Option Addr) (l : List Nd) (c : Nat) (B : Option Addr) (m : List Nd) (d : Nat) (Aw : Option Addr) (cw : Nat) (W : Wd) (bz : Nat) (Az : Option Addr) (w : World) : Prop where
  s : CdS w0 A l c B m d Aw cw W w
  z : Dx bz Az [cwEn] 1 1 w
theorem CzS.later {w0 w w' : World} {A : Option Addr} {l : List Nd} {c : Nat} {B : Option Addr} {m : List Nd} {d : Nat} {Aw : Option Addr} {cw : Nat} {W : Wd} {bz : Nat} {Az : Option Addr} (h : CzS w0 A l c B m d Aw cw W bz Az w) (hb : Below w.heap.size w w') : CzS w0 A l c B m d Aw cw W bz Az w' := ⟨h.s.later hb, h.z.later hb⟩
structure CyS (w0 : World) (A : Option Addr) (l : List Nd) (c : Nat) (B : Option Addr) (m : List Nd) (d : Nat) (Aw : Option Addr) (cw : Nat) (W : Wd) (bf : Nat) (Af : Option Addr) (nf cf : Nat) (w : World) : Prop where
  s : CdS w0 A l c B m d Aw cw W w
  f : Dx bf Af (wrapL 8 0 0 l) nf cf w
theorem CyS.later {w0 w w' : World} {A : Option Addr} {l : List Nd} {c : Nat} {B : Option Addr} {m : List Nd} {d : Nat} {Aw : Option Addr} {cw : Nat} {W : Wd} {bf : Nat} {Af : Option Addr} {nf cf : Nat} (h : CyS w0 A l c B m d Aw cw W bf Af nf cf w) (hb : Below w.heap.size w w') : CyS w0 A l c B m d Aw cw W bf Af nf cf w' := ⟨h.s.later hb, h.f.later hb⟩
theorem grown_below {w w' : World} {base : Nat} {v : Value} {l : List Nat} (h : Own8 w base v l) (hg : w.grownBy w' v.ownBlock) (hb : base ≤ w.heap.size) : Below base w w' := (Below.refl base w).grown hg hb (fun k hk => (World.ownsRow.lt h k hk).1)
theorem wy_pos0 {l : List Nd} {W : Wd} : 0 < wyD l W ↔ 0 < cntD l W := by rw [wyD_cnt]; omega
set_option maxHeartbeats 64000000 in
set_option maxRecDepth 1000000 in
theorem countbuilt_walk (l : List Nd) (A : Option Addr) (c : Nat) (m : List Nd) (B : Option Addr) (d : Nat) (W : Wd) (Aw : Option Addr) (cw : Nat) (hc1 : l.length ≤ c) (hl : l.length ≤ 9223372036854775807) (htl : Txt l) (hc2 : m.length ≤ d) (hm : m.length ≤ 9223372036854775807) (htm : Txt m) (hwl : W.length ≤ 9223372036854775807) (w : World) (hrl : NRow w A l) (hrm : NRow w B m) (hwd : WdA w Aw cw W) :
    Calls Try.prog 5 #[.agg #[.slice A l.length c], .agg #[.slice B m.length d], .slice Aw W.length cw] w (Ans w (.bool true)) := by
  have HS0 := Lib.hid (CdS.new w A l c B m d Aw cw W hrl hrm hwd)
  have HTL := Lib.hid htl
  have HTM := Lib.hid htm
  have hn9 : (W.length : Int) ≤ 9223372036854775807 := by omega
  have hcw : W.length ≤ cw := hwd.1
  clear hrl hrm htl htm hwd
  go_enter Try.func5, Try.ntmps5
  go_upto_region 1 with (fail)
  generalize (w.alloc (.cells #[.slice A l.length c] 24)).alloc (.cells #[.slice B m.length d] 24) = w1 at *
  go_wp2_with fail
  refine (awake12_any _).mono ?_; rintro e w2 ⟨rfl, hb⟩
  have HS2 := Lib.hid (HS0.out.later hb)
  clear hb HS0
  have e0 := HS2.out.bl.cell 0
  have e1 := HS2.out.bm.cell 0
  simp at e0 e1
  have HF := Lib.hid (few_any l A c hl HTL.out _ HS2.out.rl)
  cases hf : fewB l with
  | false =>
    rw [hf] at HF
    clear hf
    go_wp2_with fail
    refine HF.out.mono ?_; rintro e w3 ⟨rfl, hb⟩
    have HS3 := Lib.hid (HS2.out.later hb)
    clear hb e0 e1 HF HS2
    go_wp2_with fail
    refine (awake12_any _).mono ?_; rintro e w4 ⟨rfl, hb⟩
    have HSY := Lib.hid (HS3.out.later hb)
    clear hb
    go_wp2
    go_ret
    exact ⟨rfl, HSY.out.bel⟩
  | true =>
    rw [hf] at HF
    have L1 := Lib.hid (few_txt hf).1
    have HFL := Lib.hid hf
    clear hf
    go_wp2_with fail
    refine HF.out.mono ?_; rintro e w3 ⟨rfl, hb⟩
    have HS3 := Lib.hid (HS2.out.later hb)
    clear hb e0 e1 HF HS2
    have e0 := HS3.out.bl.cell 0
    have e1 := HS3.out.bm.cell 0
    simp at e0 e1
    have HF := Lib.hid (few_any m B d hm HTM.out _ HS3.out.rm)
    cases hf : fewB m with
    | false =>
      rw [hf] at HF
      clear hf
      go_wp2_with fail
      refine HF.out.mono ?_; rintro e w4 ⟨rfl, hb⟩
      have HS4 := Lib.hid (HS3.out.later hb)
      clear hb e0 e1 HF HS3
      go_wp2_with fail
      refine (awake12_any _).mono ?_; rintro e w5 ⟨rfl, hb⟩
      have HSY := Lib.hid (HS4.out.later hb)
      clear hb
      go_wp2
      go_ret
      exact ⟨rfl, HSY.out.bel⟩
    | true =>
      rw [hf] at HF
      have L2 := Lib.hid (few_txt hf).1
      have HFM := Lib.hid hf
      clear hf
      go_wp2_with fail
      refine HF.out.mono ?_; rintro e w4 ⟨rfl, hb⟩
      have HS4 := Lib.hid (HS3.out.later hb)
      clear hb e0 e1 HF HS3
      have e0 := HS4.out.bl.cell 0
      have e1 := HS4.out.bm.cell 0
      simp at e0 e1
      have HF := Lib.hid (rfits_any A Aw l.length c W.length cw w4 hl hwl)
      cases hf : fitsB l.length W.length with
      | false =>
        rw [hf] at HF
        clear hf
        go_wp2_with fail
        refine HF.out.mono ?_; rintro e w5 ⟨rfl, hb⟩
        have HS5 := Lib.hid (HS4.out.later hb)
        clear hb e0 e1 HF HS4
        go_wp2_with fail
        refine (awake12_any _).mono ?_; rintro e w6 ⟨rfl, hb⟩
        have HSY := Lib.hid (HS5.out.later hb)
        clear hb
        go_wp2
        go_ret
        exact ⟨rfl, HSY.out.bel⟩
      | true =>
        rw [hf] at HF
        have HW8 : Hid (W.length ≤ 8) := by
          unfold fitsB at hf
          simp at hf
          exact hf.2
        clear hf
        go_wp2_with fail
        refine HF.out.mono ?_; rintro e w5 ⟨rfl, hb⟩
        have HS5 := Lib.hid (HS4.out.later hb)
        clear hb e0 e1 HF HS4
        have e0 := HS5.out.bl.cell 0
        have e1 := HS5.out.bm.cell 0
        simp at e0 e1
        have HF := Lib.hid (rfits_any B Aw m.length d W.length cw w5 hm hwl)
        cases hf : fitsB m.length W.length with
        | false =>
          rw [hf] at HF
          clear hf
          go_wp2_with fail
          refine HF.out.mono ?_; rintro e w6 ⟨rfl, hb⟩
          have HS6 := Lib.hid (HS5.out.later hb)
          clear hb e0 e1 HF HS5
          go_wp2_with fail
          refine (awake12_any _).mono ?_; rintro e w7 ⟨rfl, hb⟩
          have HSY := Lib.hid (HS6.out.later hb)
          clear hb
          go_wp2
          go_ret
          exact ⟨rfl, HSY.out.bel⟩
        | true =>
          rw [hf] at HF
          clear hf
          go_wp2_with fail
          refine HF.out.mono ?_; rintro e w6 ⟨rfl, hb⟩
          have HS6 := Lib.hid (HS5.out.later hb)
          clear hb e0 e1 HF HS5
          have e0 := HS6.out.bl.cell 0
          have e1 := HS6.out.bm.cell 0
          simp at e0 e1
          have HF := Lib.hid (rright_any l A c hc1 (by have := L1.out; omega) HTL.out _ HS6.out.rl)
          cases hf : rgB l with
          | false =>
            rw [hf] at HF
            clear hf
            go_wp2_with fail
            refine HF.out.mono ?_; rintro e w7 ⟨rfl, hb⟩
            have HS7 := Lib.hid (HS6.out.later hb)
            clear hb e0 e1 HF HS6
            go_wp2_with fail
            refine (awake12_any _).mono ?_; rintro e w8 ⟨rfl, hb⟩
            have HSY := Lib.hid (HS7.out.later hb)
            clear hb
            go_wp2
            go_ret
            exact ⟨rfl, HSY.out.bel⟩
          | true =>
            rw [hf] at HF
            have hrg := (rgB_iff l).1 hf
            have HPL := Lib.hid (few_sp HFL.out hrg.1)
            have HRL := Lib.hid hrg
            clear hf hrg
            go_wp2_with fail
            refine HF.out.mono ?_; rintro e w7 ⟨rfl, hb⟩
            have HS7 := Lib.hid (HS6.out.later hb)
            clear hb e0 e1 HF HS6
            have e0 := HS7.out.bl.cell 0
            have e1 := HS7.out.bm.cell 0
            simp at e0 e1
            have HF := Lib.hid (rright_any m B d hc2 (by have := L2.out; omega) HTM.out _ HS7.out.rm)
            cases hf : rgB m with
            | false =>
              rw [hf] at HF
              clear hf
              go_wp2_with fail
              refine HF.out.mono ?_; rintro e w8 ⟨rfl, hb⟩
              have HS8 := Lib.hid (HS7.out.later hb)
              clear hb e0 e1 HF HS7
              go_wp2_with fail
              refine (awake12_any _).mono ?_; rintro e w9 ⟨rfl, hb⟩
              have HSY := Lib.hid (HS8.out.later hb)
              clear hb
              go_wp2
              go_ret
              exact ⟨rfl, HSY.out.bel⟩
            | true =>
              rw [hf] at HF
              have hrg := (rgB_iff m).1 hf
              have HPM := Lib.hid (few_sp HFM.out hrg.1)
              have HRM := Lib.hid hrg
              clear hf hrg
              go_wp2_with fail
              refine HF.out.mono ?_; rintro e w8 ⟨rfl, hb⟩
              have HS8 := Lib.hid (HS7.out.later hb)
              clear hb e0 e1 HF HS7
              have e0 := HS8.out.bl.cell 0
              have e1 := HS8.out.bm.cell 0
              simp at e0 e1
              have htl1 : ∀ n ∈ l, n.text.length ≤ 1073741824 := fun n hn => by have := (few_txt HFL.out).2 n hn; omega
              have htm1 : ∀ n ∈ m, n.text.length ≤ 1073741824 := fun n hn => by have := (few_txt HFM.out).2 n hn; omega
              have HSL := Lib.hid (Sp.sc HPL.out htl1)
              have HSM := Lib.hid (Sp.sc HPM.out htm1)
              clear htl1 htm1
              have hw9 : W.length ≤ 900 := by have := HW8.out; omega
              have HWL := Lib.hid ((HS8.out.isL hc1).cways HSL.out (HS8.out.wd HW8.out) hw9)
              have ha2 : wyD l W ≤ 2 := wyD_le
              have hb2 : wyD m W ≤ 2 := wyD_le
              have HO5 : Hid (wyD (pairL 5 l m) W = min 2 (wyD l W + wyD m W)) := by
                unfold Hid
                rw [wyD_cnt, wyD_cnt, wyD_cnt, cntD_or HSL.out.form HSM.out.form]; omega
              have HR1 : Hid (wyD (pairL 4 l [cwEn]) W = wyD l W) := by
                unfold Hid
                rw [wyD_cnt, wyD_cnt, (row_empty1 HSL.out.form cwE_sp.sm.form rfl).1]
              have HR2 : Hid (wyD (pairL 4 [cwEn] l) W = wyD l W) := by
                unfold Hid
                rw [wyD_cnt, wyD_cnt, (row_empty1 HSL.out.form cwE_sp.sm.form rfl).2]
              have HF1 : Hid (wyD (wrapL 8 0 0 l) (byU W.length :: W) = wyD l W) := by
                unfold Hid
                rw [wyD_cnt, wyD_cnt, frame_head HSL.out.form (by have := HW8.out; omega)]
              have HF2 : Hid (wyD (wrapL 8 0 0 l) (byU (W.length + 1) :: W) = 0) := by
                unfold Hid
                rw [wyD_cnt, frame_off HSL.out.form (by have := HW8.out; omega)]; rfl
              have HF3 : Hid (wyD (wrapL 8 0 0 l) [] = 0) := by
                unfold Hid
                rw [wyD_cnt, frame_nil HSL.out.form]; rfl
              have HIS : Hid (0 < wyD l W → InS (spD l) W.length) := fun h => cnt_span HSL.out.form (wy_pos0.1 h)
              go_wp2_with fail
              refine HWL.out.mono ?_; rintro e w9 ⟨rfl, hb⟩
              have HS9 := Lib.hid (HS8.out.later hb)
              clear hb e0 e1 HS8 HWL
              have e0 := HS9.out.bl.cell 0
              have e1 := HS9.out.bm.cell 0
              simp at e0 e1
              have HWM := Lib.hid ((HS9.out.isM hc2).cways HSM.out (HS9.out.wd HW8.out) hw9)
              generalize wyD l W = na at *
              generalize wyD m W = nb at *
              obtain ⟨z, hz⟩ : ∃ z, min 2 (na + nb) = z := ⟨_, rfl⟩
              rw [hz] at HO5
              have hmn : min (2 : Int) ((na : Int) + (nb : Int)) = (z : Int) := by omega
              clear hz
              go_wp2_with fail
              refine HWM.out.mono ?_; rintro e w10 ⟨rfl, hb⟩
              have HS10 := Lib.hid (HS9.out.later hb)
              clear hb e0 e1 HS9 HWM
              go_upto_region 6 with (fail)
              obtain ⟨hez, hb1⟩ := dx_one cwEn w10 (cs := #[.int .i64 1, .int .i64 0, .int .i64 0, .int .i64 0, .int .i64 0, .int .u64 0, .int .u64 0, .int .u64 0, .int .u64 0, .string ⟨#[]⟩]) (by unfold cwEn; rw [ndC_zero]; rfl)
              have HZ1 : Hid (CzS w A l c B m d Aw cw W (w10.heap.size + 1) (some ⟨w10.heap.size, 0, none⟩) _) := ⟨HS10.out.later hb1, hez⟩
              clear hez hb1 HS10
              generalize (w10.alloc (.cells #[.int .i64 1, .int .i64 0, .int .i64 0, .int .i64 0, .int .i64 0, .int .u64 0, .int .u64 0, .int .u64 0, .int .u64 0, .string ⟨#[]⟩] 44)).alloc (.cells #[.slice (some ⟨w10.heap.size, 0, none⟩) 1 1] 24) = w11 at *
              generalize w10.heap.size + 1 = bz at *
              generalize (some ⟨w10.heap.size, 0, none⟩ : Option Addr) = Az at *
              have e0 := HZ1.out.s.bl.cell 0
              have e1 := HZ1.out.s.bm.cell 0
              simp at e0 e1
              have e2 := HZ1.out.z.load
              have CALL := Lib.hid ((HZ1.out.s.isL hc1).rpair (HZ1.out.s.isM hc2) HPL.out.sm HPM.out.sm 5)
              have HSCP := Lib.hid (Sp.sc (HPL.out.pair HPM.out (by have := L1.out; have := L2.out; omega) (kind := 5) (.inr rfl)) (pair_tx HSL.out.tx HSM.out.tx))
              go_wp2_with fail
              refine CALL.out.mono ?_; intro e v hp; obtain ⟨s, rfl, ho, hb⟩ := hp
              have HZa := Lib.hid (HZ1.out.later hb)
              have CY := Lib.hid (ho.isD.cways HSCP.out (HZa.out.s.wd HW8.out) hw9)
              rw [HO5.out] at CY
              clear CALL ho hb HSCP HO5 e0 e1 e2 HZ1
              go_wp2_with fail
              refine CY.out.mono ?_; rintro e w12 ⟨rfl, hb⟩
              have HZ2 := Lib.hid (HZa.out.later hb)
              have e0 := HZ2.out.s.bl.cell 0
              have e1 := HZ2.out.s.bm.cell 0
              simp at e0 e1
              have e2 := HZ2.out.z.load
              clear hb CY HZa
              have CALL := Lib.hid ((HZ2.out.s.isL hc1).rpair HZ2.out.z.isD HPL.out.sm cwE_sp.sm 4)
              have HSCP := Lib.hid (Sp.sc (HPL.out.pair cwE_sp (by have := L1.out; simp; omega) (kind := 4) (.inl rfl)) (pair_tx HSL.out.tx cwE_sc.tx))
              go_wp2_with fail
              refine CALL.out.mono ?_; intro e v hp; obtain ⟨s, rfl, ho, hb⟩ := hp
              have HZa := Lib.hid (HZ2.out.later hb)
              have CY := Lib.hid (ho.isD.cways HSCP.out (HZa.out.s.wd HW8.out) hw9)
              rw [HR1.out] at CY
              clear CALL ho hb HSCP HR1 e0 e1 e2 HZ2
              go_wp2_with fail
              refine CY.out.mono ?_; rintro e w13 ⟨rfl, hb⟩
              have HZ3 := Lib.hid (HZa.out.later hb)
              have e0 := HZ3.out.s.bl.cell 0
              have e1 := HZ3.out.s.bm.cell 0
              simp at e0 e1
              have e2 := HZ3.out.z.load
              clear hb CY HZa
              have CALL := Lib.hid (HZ3.out.z.isD.rpair (HZ3.out.s.isL hc1) cwE_sp.sm HPL.out.sm 4)
              have HSCP := Lib.hid (Sp.sc (cwE_sp.pair HPL.out (by have := L1.out; simp; omega) (kind := 4) (.inl rfl)) (pair_tx cwE_sc.tx HSL.out.tx))
              go_wp2_with fail
              refine CALL.out.mono ?_; intro e v hp; obtain ⟨s, rfl, ho, hb⟩ := hp
              have HZa := Lib.hid (HZ3.out.later hb)
              have CY := Lib.hid (ho.isD.cways HSCP.out (HZa.out.s.wd HW8.out) hw9)
              rw [HR2.out] at CY
              clear CALL ho hb HSCP HR2 e0 e1 e2 HZ3
              go_wp2_with fail
              refine CY.out.mono ?_; rintro e w14 ⟨rfl, hb⟩
              have HZ4 := Lib.hid (HZa.out.later hb)
              have e0 := HZ4.out.s.bl.cell 0
              have e1 := HZ4.out.s.bm.cell 0
              simp at e0 e1
              have e2 := HZ4.out.z.load
              clear hb CY HZa
              have CALL := Lib.hid ((HZ4.out.s.isL hc1).rwrap HPL.out.sm 8 0 0)
              go_wp2_with fail
              refine CALL.out.mono ?_; intro e v hp; obtain ⟨s, rfl, ho, hb⟩ := hp
              obtain ⟨Af, cf, hc, hv, hr⟩ := ho.isD
              obtain ⟨nf, hnf⟩ : ∃ nf, (wrapL 8 0 0 l).length = nf := ⟨_, rfl⟩
              rw [hnf] at hc hv
              obtain rfl : s = .slice Af nf cf := by simpa using hv
              have hbb := hb.trans ((Below.refl _ _).alloc hb.size (.cells #[.slice Af nf cf] 24))
              have HY1 : Hid (CyS w A l c B m d Aw cw W v.heap.size Af nf cf (v.alloc (.cells #[.slice Af nf cf] 24))) := ⟨HZ4.out.s.later hbb, dx_of hr hnf hc⟩
              have HSCF := Lib.hid (Sp.sc (HPL.out.wrap (by have := L1.out; omega) (kind := 8) (.inr (.inl rfl))) (wrapc_tx HSL.out.tx))
              clear CALL ho hb hr hv hc hbb e0 e1 e2 HZ4 hnf
              have hw8 : (W.length : Int) ≤ 8 := by have := HW8.out; omega
              go_upto_region 9 with (fail)
              generalize v.alloc (.cells #[.slice Af nf cf] 24) = w15 at *
              generalize v.heap.size = bf at *
              have hb6 := (Below.refl w15.heap.size w15).alloc (Nat.le_refl _) (.cells #[.int .u8 (W.length : Int)] 5)
              have HOx : Hid (Own8 (w15.alloc (.cells #[.int .u8 (W.length : Int)] 5)) w15.heap.size (.slice (some ⟨w15.heap.size, 0, none⟩) 1 1) (nats [byU W.length])) := own_new (w := w15) (W := [byU W.length]) (cs := #[.int .u8 (W.length : Int)]) (by simp [bytesV, nats, byU_nat (show W.length < 256 by have := HW8.out; omega)]) (by simp)
              have HYb := Lib.hid (HY1.out.later hb6)
              have HB6 := Lib.hid hb6
              clear hb6
              go_upto_region 10 with (at_builtin; refine wpList_plain rfl fun K hK => ?_; refine wp_append_w _ _ rfl w15.heap.size _ [byU W.length] rfl HOx.out W (.slice Aw W.length cw) rfl (HYb.out.s.wd HW8.out) (by have := HW8.out; simp; omega) HB6.out.size ?_; intro vx w16 h1 h2; have HX16 : Hid (IsW (byU W.length :: W) vx w16) := own_isW (W := byU W.length :: W) h1 (by have := HW8.out; simp; omega); have HB16 := Lib.hid (HB6.out.trans (grown_below HOx.out h2 HB6.out.size)); refine hK _ _ ?_; clear h1 h2 hK K)
              have HY2 := Lib.hid (HY1.out.later HB16.out)
              clear HOx HYb HB6 HY1
              clear HB16
              have hb6 := (Below.refl w16.heap.size w16).alloc (Nat.le_refl _) (.cells #[.int .u8 (((W.length + 1 : Nat) : Int) : Int)] 5)
              have HOx : Hid (Own8 (w16.alloc (.cells #[.int .u8 (((W.length + 1 : Nat) : Int) : Int)] 5)) w16.heap.size (.slice (some ⟨w16.heap.size, 0, none⟩) 1 1) (nats [byU (W.length + 1)])) := own_new (w := w16) (W := [byU (W.length + 1)]) (cs := #[.int .u8 (((W.length + 1 : Nat) : Int) : Int)]) (by simp [bytesV, nats, byU_nat (show (W.length + 1) < 256 by have := HW8.out; omega)]) (by simp)
              have HYb := Lib.hid (HY2.out.later hb6)
              have HB6 := Lib.hid hb6
              clear hb6
              go_upto_region 11 with (at_builtin; refine wpList_plain rfl fun K hK => ?_; refine wp_append_w _ _ rfl w16.heap.size _ [byU (W.length + 1)] rfl HOx.out W (.slice Aw W.length cw) rfl (HYb.out.s.wd HW8.out) (by have := HW8.out; simp; omega) HB6.out.size ?_; intro vy w17 h1 h2; have HY17 : Hid (IsW (byU (W.length + 1) :: W) vy w17) := own_isW (W := byU (W.length + 1) :: W) h1 (by have := HW8.out; simp; omega); have HB17 := Lib.hid (HB6.out.trans (grown_below HOx.out h2 HB6.out.size)); refine hK _ _ ?_; clear h1 h2 hK K)
              have HY3 := Lib.hid (HY2.out.later HB17.out)
              clear HOx HYb HB6 HY2
              have HX17 := Lib.hid (HX16.out.later HB17.out)
              clear HX16 HB17
              have e0 := HY3.out.f.load
              have CX := Lib.hid (HY3.out.f.isD.cways HSCF.out HX17.out (by have := HW8.out; simp; omega))
              rw [HF1.out] at CX
              go_wp2_with fail
              refine CX.out.mono ?_; rintro e w18 ⟨rfl, hb⟩
              have HY4 := Lib.hid (HY3.out.later hb)
              have HY18 := Lib.hid (HY17.out.later hb)
              clear hb CX HX17 HY17 HY3 e0
              have e0 := HY4.out.f.load
              have CX := Lib.hid (HY4.out.f.isD.cways HSCF.out HY18.out (by have := HW8.out; simp; omega))
              rw [HF2.out] at CX
              go_wp2_with fail
              refine CX.out.mono ?_; rintro e w19 ⟨rfl, hb⟩
              have HY5 := Lib.hid (HY4.out.later hb)
              clear hb CX HY18 HY4 e0
              have e0 := HY5.out.f.load
              have CX := Lib.hid (HY5.out.f.isD.cways HSCF.out (IsW.nil w19) (by simp))
              rw [HF3.out] at CX
              go_wp2_with fail
              refine CX.out.mono ?_; rintro e w20 ⟨rfl, hb⟩
              have HS20 := Lib.hid (HY5.out.later hb).s
              clear hb CX HY5 e0
              have e0 := HS20.out.bl.cell 0
              simp at e0
              have hpos := HSL.out.form.1
              have hlz1 : (1 : Int) ≤ (l.length : Int) := by omega
              have hlz2 : (l.length : Int) ≤ 100 := by have := L1.out; omega
              obtain ⟨p, hp⟩ : ∃ p, spN l (l.length - 1) = p := ⟨_, rfl⟩
              have hpd : spD l = p := hp
              rw [hpd] at HIS
              have CX := Lib.hid ((HS20.out.isL hc1).rspnode HPL.out (i := l.length - 1) (by omega) hp)
              rw [show ((l.length - 1 : Nat) : Int) = (l.length : Int) - 1 by omega] at CX
              clear hp hpd
              obtain ⟨p1, p2⟩ := p
              go_wp2_with fail
              refine CX.out.mono ?_; rintro e w21 ⟨rfl, hb⟩
              have HS21 := Lib.hid (HS20.out.later hb)
              clear hb CX HS20 e0
              by_cases h0 : na = 0
              · subst h0
                go_wp2
                go_ret
                exact ⟨rfl, HS21.out.bel⟩
              · have hi := HIS.out (by omega)
                unfold InS at hi
                simp only at hi
                obtain ⟨i1, i2, i3⟩ := hi
                have hn0 : ((na : Int) == 0) = false := by simp [h0]
                by_cases h2 : p2 < 0
                · go_wp2
                  go_ret
                  exact ⟨rfl, HS21.out.bel⟩
                · have i4 : (W.length : Int) ≤ p2 := by omega
                  go_wp2
                  go_ret
                  exact ⟨rfl, HS21.out.bel⟩
end Go.Proofs.Ytpbbokdmoaadfaa
