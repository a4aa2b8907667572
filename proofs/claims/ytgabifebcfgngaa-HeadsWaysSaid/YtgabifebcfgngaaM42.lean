/- The statement HeadsWays of layer 14, walked. -/
import Derived.Test.YtgabifebcfgngaaM41
namespace Go.Proofs.Ytgabifebcfgngaa
open Go Go.RowKit
set_option linter.unusedVariables false
set_option linter.unusedSimpArgs false
set_option maxRecDepth 1000000
set_option maxHeartbeats 64000000

structure HwyS (w0 : World) (bd : Nat) (A : Option Addr) (l : List Nd) (c be : Nat) (B : Option Addr) (m : List Nd) (c2 : Nat) (P : World → Prop) (w : World) : Prop where
  bel : Below w0.heap.size w0 w
  d : Dx bd A l l.length c w
  e : Dx be B m m.length c2 w
  p : P w
  pl : ∀ w w', P w → Below w.heap.size w w' → P w'
section
variable {w0 w w' : World} {bd : Nat} {A : Option Addr} {l : List Nd} {c be : Nat} {B : Option Addr} {m : List Nd} {c2 : Nat} {P Q : World → Prop}
theorem HwyS.later (h : HwyS w0 bd A l c be B m c2 P w) (hb : Below w.heap.size w w') : HwyS w0 bd A l c be B m c2 P w' :=
  ⟨h.bel.trans (hb.mono h.bel.size), h.d.later hb, h.e.later hb, h.pl _ _ h.p hb, h.pl⟩
theorem HwyS.add (h : HwyS w0 bd A l c be B m c2 P w) (hq : Q w) (hl : ∀ w w', Q w → Below w.heap.size w w' → Q w') : HwyS w0 bd A l c be B m c2 (fun w => P w ∧ Q w) w :=
  ⟨h.bel, h.d, h.e, ⟨h.p, hq⟩, fun w w' k hb => ⟨h.pl w w' k.1 hb, hl w w' k.2 hb⟩⟩
end
theorem headsways_walk (l m : List Nd) (A B : Option Addr) (c c2 : Nat) (hc1 : l.length ≤ c) (hc2 : m.length ≤ c2) (hl : l.length ≤ 9223372036854775807) (hm : m.length ≤ 9223372036854775807) (htx : Txt l) (hty : Txt m) (w : World) (hrow : NRow w A l) (hrow2 : NRow w B m) :
    Calls Try.prog 6 #[.agg #[.slice A l.length c], .agg #[.slice B m.length c2]] w (Ans w (.bool true)) := by
  have hb1 := (Below.refl w.heap.size w).alloc (Nat.le_refl _) (.cells #[.slice A l.length c] 24)
  have hk1 := Blk.new w #[.slice A l.length c] 24
  have hs1 : (w.alloc (.cells #[.slice A l.length c] 24)).heap.size = w.heap.size + 1 := World.size_alloc _ _
  have hb2 := (Below.refl (w.alloc (.cells #[.slice A l.length c] 24)).heap.size _).alloc (Nat.le_refl _) (.cells #[.slice B m.length c2] 24)
  have hk2 := Blk.new' hs1.symm (.slice B m.length c2 :: [] : List Value).toArray 24
  have hbb := hb1.trans (hb2.mono hb1.size)
  have HS : Hid (HwyS w w.heap.size A l c (w.heap.size + 1) B m c2 (fun _ => True) ((w.alloc (.cells #[.slice A l.length c] 24)).alloc (.cells #[.slice B m.length c2] 24))) :=
    ⟨hbb, ⟨hc1, rfl, hk1.later hb2, hrow.later hbb⟩, ⟨hc2, rfl, hk2, hrow2.later hbb⟩, trivial, fun _ _ _ _ => trivial⟩
  have HAW := Lib.hid (fun w => awake14_any w)
  have HTX := Lib.hid htx
  have HTY := Lib.hid hty
  clear hb1 hk1 hs1 hb2 hk2 hbb hrow hrow2 htx hty
  go_enter Try.func6, Try.ntmps6
  go_upto_region 1 with (fail)
  generalize (w.alloc (.cells #[.slice A l.length c] 24)).alloc (.cells #[.slice B m.length c2] 24) = w1 at HS ⊢
  have e0 := HS.out.d.load
  have e1 := HS.out.e.load
  go_wp2_with fail
  refine ((HAW.out _)).mono ?_; rintro e w2 ⟨rfl, hb⟩
  have HS2 := Lib.hid (HS.out.later hb)
  clear hb e0 e1 HS
  have HS := HS2
  clear HS2
  have e0 := HS.out.d.load
  have e1 := HS.out.e.load
  have HF := Lib.hid (few_any l A c hl HTX.out _ HS.out.d.row)
  cases hf : fewB l with
  | false =>
    rw [hf] at HF
    clear hf
    go_wp2_with fail
    refine ((HF.out)).mono ?_; rintro e w2 ⟨rfl, hb⟩
    have HS2 := Lib.hid (HS.out.later hb)
    clear hb e0 e1 HS
    have HS := HS2
    clear HS2
    have e0 := HS.out.d.load
    have e1 := HS.out.e.load
    go_wp2_with fail
    refine ((HAW.out _)).mono ?_; rintro e w2 ⟨rfl, hb⟩
    have HS2 := Lib.hid (HS.out.later hb)
    clear hb e0 e1 HS
    have HS := HS2
    clear HS2
    have e0 := HS.out.d.load
    have e1 := HS.out.e.load
    go_wp2
    go_ret
    exact ⟨rfl, HS.out.bel⟩
  | true =>
    rw [hf] at HF
    have L1 := Lib.hid (few_txt hf).1
    clear hf
    go_wp2_with fail
    refine ((HF.out)).mono ?_; rintro e w2 ⟨rfl, hb⟩
    have HS2 := Lib.hid (HS.out.later hb)
    clear hb e0 e1 HS
    have HS := HS2
    clear HS2
    have e0 := HS.out.d.load
    have e1 := HS.out.e.load
    clear HF
    have HF := Lib.hid (few_any m B c2 hm HTY.out _ HS.out.e.row)
    cases hf : fewB m with
    | false =>
      rw [hf] at HF
      clear hf
      go_wp2_with fail
      refine ((HF.out)).mono ?_; rintro e w2 ⟨rfl, hb⟩
      have HS2 := Lib.hid (HS.out.later hb)
      clear hb e0 e1 HS
      have HS := HS2
      clear HS2
      have e0 := HS.out.d.load
      have e1 := HS.out.e.load
      go_wp2_with fail
      refine ((HAW.out _)).mono ?_; rintro e w2 ⟨rfl, hb⟩
      have HS2 := Lib.hid (HS.out.later hb)
      clear hb e0 e1 HS
      have HS := HS2
      clear HS2
      have e0 := HS.out.d.load
      have e1 := HS.out.e.load
      go_wp2
      go_ret
      exact ⟨rfl, HS.out.bel⟩
    | true =>
      rw [hf] at HF
      have L2 := Lib.hid (few_txt hf).1
      clear hf
      go_wp2_with fail
      refine ((HF.out)).mono ?_; rintro e w2 ⟨rfl, hb⟩
      have HS2 := Lib.hid (HS.out.later hb)
      clear hb e0 e1 HS
      have HS := HS2
      clear HS2
      have e0 := HS.out.d.load
      have e1 := HS.out.e.load
      clear HF
      have HF := Lib.hid (rright_any l A c hc1 (by have := L1.out; omega) HTX.out _ HS.out.d.row)
      cases hf : rgB l with
      | false =>
        rw [hf] at HF
        clear hf
        go_wp2_with fail
        refine ((HF.out)).mono ?_; rintro e w2 ⟨rfl, hb⟩
        have HS2 := Lib.hid (HS.out.later hb)
        clear hb e0 e1 HS
        have HS := HS2
        clear HS2
        have e0 := HS.out.d.load
        have e1 := HS.out.e.load
        go_wp2_with fail
        refine ((HAW.out _)).mono ?_; rintro e w2 ⟨rfl, hb⟩
        have HS2 := Lib.hid (HS.out.later hb)
        clear hb e0 e1 HS
        have HS := HS2
        clear HS2
        have e0 := HS.out.d.load
        have e1 := HS.out.e.load
        go_wp2
        go_ret
        exact ⟨rfl, HS.out.bel⟩
      | true =>
        rw [hf] at HF
        have HR := Lib.hid ((rgB_iff l).1 hf)
        clear hf
        go_wp2_with fail
        refine ((HF.out)).mono ?_; rintro e w2 ⟨rfl, hb⟩
        have HS2 := Lib.hid (HS.out.later hb)
        clear hb e0 e1 HS
        have HS := HS2
        clear HS2
        have e0 := HS.out.d.load
        have e1 := HS.out.e.load
        clear HF
        have HF := Lib.hid (rright_any m B c2 hc2 (by have := L2.out; omega) HTY.out _ HS.out.e.row)
        cases hf : rgB m with
        | false =>
          rw [hf] at HF
          clear hf
          go_wp2_with fail
          refine ((HF.out)).mono ?_; rintro e w2 ⟨rfl, hb⟩
          have HS2 := Lib.hid (HS.out.later hb)
          clear hb e0 e1 HS
          have HS := HS2
          clear HS2
          have e0 := HS.out.d.load
          have e1 := HS.out.e.load
          go_wp2_with fail
          refine ((HAW.out _)).mono ?_; rintro e w2 ⟨rfl, hb⟩
          have HS2 := Lib.hid (HS.out.later hb)
          clear hb e0 e1 HS
          have HS := HS2
          clear HS2
          have e0 := HS.out.d.load
          have e1 := HS.out.e.load
          go_wp2
          go_ret
          exact ⟨rfl, HS.out.bel⟩
        | true =>
          rw [hf] at HF
          have HQ := Lib.hid ((rgB_iff m).1 hf)
          clear hf
          by_cases ga : l.length ≤ 10
          · have za : ¬ (l.length : Int) > 10 := by omega
            by_cases gb : m.length ≤ 10
            · have zb : ¬ (m.length : Int) > 10 := by omega
              have HLA := Lib.hid ga
              have HLB := Lib.hid gb
              go_wp2_with fail
              refine ((HF.out)).mono ?_; rintro e w2 ⟨rfl, hb⟩
              have HS2 := Lib.hid (HS.out.later hb)
              clear hb e0 e1 HS
              have HS := HS2
              clear HS2
              have e0 := HS.out.d.load
              have e1 := HS.out.e.load
              clear HF
              go_upto_region 3 with (fail)
              clear za zb ga gb
              generalize hw2 : w2 = w2' at *
              clear hw2
              have HSM : Hid (Sm l) := ⟨HR.out.1, by have := HLA.out; omega, HTX.out⟩
              have HSN : Hid (Sm m) := ⟨HQ.out.1, by have := HLB.out; omega, HTY.out⟩
              go_upto_region 4 with (fail)
              obtain ⟨ht, hbx⟩ := dx_one anEn w2' (cs := #[.int .i64 1, .int .i64 0, .int .i64 0, .int .i64 0, .int .i64 0, .int .u64 0, .int .u64 0, .int .u64 0, .int .u64 0, .string ⟨#[]⟩]) (by unfold anEn; rw [ndC_zero]; rfl)
              have HS2 : Hid (HwyS w w.heap.size A l c (w.heap.size + 1) B m c2 (fun w => True ∧ Dx (w2'.heap.size + 1) (some ⟨w2'.heap.size, 0, none⟩) anE 1 1 w) _) := (HS.out.later hbx).add ht (fun _ _ h hb => h.later hb)
              clear ht hbx HS e0 e1
              have HS := HS2
              clear HS2
              generalize (w2'.alloc (.cells #[.int .i64 1, .int .i64 0, .int .i64 0, .int .i64 0, .int .i64 0, .int .u64 0, .int .u64 0, .int .u64 0, .int .u64 0, .string ⟨#[]⟩] 48)).alloc (.cells #[.slice (some ⟨w2'.heap.size, 0, none⟩) 1 1] 24) = w3 at *
              generalize w2'.heap.size + 1 = bn at *
              generalize (some ⟨w2'.heap.size, 0, none⟩ : Option Addr) = An at *
              have e0 := HS.out.d.load
              have e1 := HS.out.e.load
              have CALL := Lib.hid (HS.out.d.isD.rpair HS.out.e.isD HSM.out HSN.out 5)
              go_wp2_with fail
              refine CALL.out.mono ?_; intro e v hp; obtain ⟨s, rfl, ho, hb⟩ := hp
              obtain ⟨A5, c5, hc, hv, hr⟩ := ho.isD
              obtain rfl : s = .slice A5 (pairL 5 l m).length c5 := by simpa using hv
              have hbb := hb.trans ((Below.refl _ _).alloc hb.size (.cells #[.slice A5 (pairL 5 l m).length c5] 24))
              have hdx : Dx v.heap.size A5 (pairL 5 l m) (pairL 5 l m).length c5 _ := dx_of hr rfl hc
              have HS2 := Lib.hid ((HS.out.later hbb).add (Q := fun w => Dx v.heap.size A5 (pairL 5 l m) (pairL 5 l m).length c5 w) hdx (fun _ _ h hb => h.later hb))
              clear HS CALL hb ho hr hv hc e0 e1 hbb hdx
              try clear e2
              have HS := HS2
              clear HS2
              go_upto_region 5 with (fail)
              generalize v.alloc (.cells #[.slice A5 (pairL 5 l m).length c5] 24) = w5 at *
              generalize v.heap.size = b5 at *
              have e0 := HS.out.d.load
              have e1 := HS.out.e.load
              have e2 := HS.out.p.1.2.load
              have CALL := Lib.hid (HS.out.p.1.2.isD.rpair HS.out.d.isD anE_sm HSM.out 4)
              go_wp2_with fail
              refine CALL.out.mono ?_; intro e v hp; obtain ⟨s, rfl, ho, hb⟩ := hp
              obtain ⟨A4, c4, hc, hv, hr⟩ := ho.isD
              obtain rfl : s = .slice A4 (pairL 4 anE l).length c4 := by simpa using hv
              have hbb := hb.trans ((Below.refl _ _).alloc hb.size (.cells #[.slice A4 (pairL 4 anE l).length c4] 24))
              have hdx : Dx v.heap.size A4 (pairL 4 anE l) (pairL 4 anE l).length c4 _ := dx_of hr rfl hc
              have HS2 := Lib.hid ((HS.out.later hbb).add (Q := fun w => Dx v.heap.size A4 (pairL 4 anE l) (pairL 4 anE l).length c4 w) hdx (fun _ _ h hb => h.later hb))
              clear HS CALL hb ho hr hv hc e0 e1 hbb hdx
              try clear e2
              have HS := HS2
              clear HS2
              go_upto_region 6 with (fail)
              generalize v.alloc (.cells #[.slice A4 (pairL 4 anE l).length c4] 24) = w6 at *
              generalize v.heap.size = b4 at *
              have e0 := HS.out.d.load
              have e1 := HS.out.e.load
              have CALL := Lib.hid (HS.out.d.isD.rwrap HSM.out 8 0 0)
              go_wp2_with fail
              refine CALL.out.mono ?_; intro e v hp; obtain ⟨s, rfl, ho, hb⟩ := hp
              obtain ⟨A8, c8, hc, hv, hr⟩ := ho.isD
              obtain rfl : s = .slice A8 (wrapL 8 0 0 l).length c8 := by simpa using hv
              have hbb := hb.trans ((Below.refl _ _).alloc hb.size (.cells #[.slice A8 (wrapL 8 0 0 l).length c8] 24))
              have hdx : Dx v.heap.size A8 (wrapL 8 0 0 l) (wrapL 8 0 0 l).length c8 _ := dx_of hr rfl hc
              have HS2 := Lib.hid ((HS.out.later hbb).add (Q := fun w => Dx v.heap.size A8 (wrapL 8 0 0 l) (wrapL 8 0 0 l).length c8 w) hdx (fun _ _ h hb => h.later hb))
              clear HS CALL hb ho hr hv hc e0 e1 hbb hdx
              try clear e2
              have HS := HS2
              clear HS2
              go_upto_region 7 with (fail)
              generalize v.alloc (.cells #[.slice A8 (wrapL 8 0 0 l).length c8] 24) = w7 at *
              generalize v.heap.size = b8 at *
              have R5 : Hid (Rgt (pairL 5 l m)) := (rgt_pair HR.out.1 HQ.out.1 (.inr rfl)).2 ⟨HR.out, HQ.out⟩
              have hE : Rgt anE := (rgt_iff anE_sm.form).2 (fun i hi hk => by
                have hi1 : i < 1 := hi
                obtain rfl : i = 0 := by omega
                rcases hk with hk | hk <;> cases hk)
              have R4 : Hid (Rgt (pairL 4 anE l)) := (rgt_pair anE_sm.form HR.out.1 (.inl rfl)).2 ⟨hE, HR.out⟩
              have R8 : Hid (Rgt (wrapL 8 0 0 l)) := (rgt_wrap HR.out.1 (wrap_form (kind := 8) HR.out.1 (.inr (.inl rfl)) ⟨rfl, rfl⟩) (by omega)).2 ⟨HR.out, fun hk => by omega⟩
              clear hE
              have X5 : Hid (Sm (pairL 5 l m)) := HSM.out.pair HSN.out (by have := HLA.out; have := HLB.out; omega) (.inr rfl)
              have X4 : Hid (Sm (pairL 4 anE l)) := anE_sm.pair HSM.out (by have := HLA.out; rw [show anE.length = 1 from rfl]; omega) (.inl rfl)
              have X8 : Hid (Sm (wrapL 8 0 0 l)) := HSM.out.wrap (by have := HLA.out; omega) (.inr (.inl rfl))
              have N5 : Hid ((pairL 5 l m).length ≤ 21) := by
                have h1 := HLA.out; have h2 := HLB.out
                unfold Hid pairL; rw [List.length_append, List.length_append, List.length_map]; simp; omega
              have N4 : Hid ((pairL 4 anE l).length ≤ 21) := by
                have h1 := HLA.out
                unfold Hid pairL; rw [List.length_append, List.length_append, List.length_map, show anE.length = 1 from rfl]; simp; omega
              have N8 : Hid ((wrapL 8 0 0 l).length ≤ 21) := by
                have h1 := HLA.out
                unfold Hid wrapL; rw [List.length_append]; simp; omega
              have HM1 := Lib.hid (or_heads HR.out HQ.out R5.out)
              have HM2 := Lib.hid (row_heads HR.out R4.out)
              have hM3 : hdsL (wrapL 8 0 0 l) (stL (wrapL 8 0 0 l)) = [(stL (wrapL 8 0 0 l), 1)] := frame_heads
              rw [show ([{ kind := 1 }] : List Nd) = anE from rfl] at HM2
              generalize pairL 5 l m = L5 at *
              generalize pairL 4 anE l = L4 at *
              generalize wrapL 8 0 0 l = L8 at *
              have len1 : ∀ {q : List Nd} (hq : Rgt q) (hn : q.length ≤ 24), (hdsL q (stL q)).length ≤ 1000 := fun {q} hq hn => by
                have h1 := hds_len hq (st_form hq.1.1)
                have h2 : (stL q).length * q.length = q.length := by unfold stL; simp
                omega
              have U1 := Lib.hid (len1 HR.out (by have := HLA.out; omega))
              have U2 := Lib.hid (len1 HQ.out (by have := HLB.out; omega))
              have U5 := Lib.hid (len1 R5.out (by have := N5.out; omega))
              have U4 := Lib.hid (len1 R4.out (by have := N4.out; omega))
              clear len1
              have V1 := Lib.hid (hds_pos l (stL l))
              have V2 := Lib.hid (hds_pos m (stL m))
              have V5 := Lib.hid (hds_pos L5 (stL L5))
              have V4 := Lib.hid (hds_pos L4 (stL L4))
              obtain ⟨Ta, hTa⟩ : ∃ T, hdsL l (stL l) = T := ⟨_, rfl⟩
              obtain ⟨Tb, hTb⟩ : ∃ T, hdsL m (stL m) = T := ⟨_, rfl⟩
              obtain ⟨Tc, hTc⟩ : ∃ T, hdsL L5 (stL L5) = T := ⟨_, rfl⟩
              obtain ⟨Th, hTh⟩ : ∃ T, hdsL L4 (stL L4) = T := ⟨_, rfl⟩
              rw [hTa] at HM1 HM2 U1 V1
              rw [hTb] at HM1 U2 V2
              rw [hTc] at HM1 U5 V5
              rw [hTh] at HM2 U4 V4
              have HST1 := Lib.hid (fun w' => start14_any l A c (by have := HLA.out; omega) w')
              have HHD1 : Hid (∀ w' B0 k, NRow w' A l → ItRow w' B0 (stL l) → Calls Try.prog 10 #[.agg #[.slice A l.length c], .slice B0 (stL l).length k] w' (fun e w'' => ∃ v, e = .returned v ∧ BrV Ta v w'' ∧ Below w'.heap.size w' w'')) := fun w' B0 k h1 h2 => (hdHeads_any l A c (stL l) B0 k HR.out (by have := HLA.out; omega) HTX.out (st_form HR.out.1.1) (by unfold stL; simp) w' h1 h2).mono fun e w'' h => by
                have := hds_known h; rw [hTa] at this; exact this
              have HST2 := Lib.hid (fun w' => start14_any m B c2 (by have := HLB.out; omega) w')
              have HHD2 : Hid (∀ w' B0 k, NRow w' B m → ItRow w' B0 (stL m) → Calls Try.prog 10 #[.agg #[.slice B m.length c2], .slice B0 (stL m).length k] w' (fun e w'' => ∃ v, e = .returned v ∧ BrV Tb v w'' ∧ Below w'.heap.size w' w'')) := fun w' B0 k h1 h2 => (hdHeads_any m B c2 (stL m) B0 k HQ.out (by have := HLB.out; omega) HTY.out (st_form HQ.out.1.1) (by unfold stL; simp) w' h1 h2).mono fun e w'' h => by
                have := hds_known h; rw [hTb] at this; exact this
              have HST3 := Lib.hid (fun w' => start14_any L5 A5 c5 (by have := N5.out; omega) w')
              have HHD3 : Hid (∀ w' B0 k, NRow w' A5 L5 → ItRow w' B0 (stL L5) → Calls Try.prog 10 #[.agg #[.slice A5 L5.length c5], .slice B0 (stL L5).length k] w' (fun e w'' => ∃ v, e = .returned v ∧ BrV Tc v w'' ∧ Below w'.heap.size w' w'')) := fun w' B0 k h1 h2 => (hdHeads_any L5 A5 c5 (stL L5) B0 k R5.out (by have := N5.out; omega) X5.out.txt (st_form R5.out.1.1) (by unfold stL; simp) w' h1 h2).mono fun e w'' h => by
                have := hds_known h; rw [hTc] at this; exact this
              have HST4 := Lib.hid (fun w' => start14_any L8 A8 c8 (by have := N8.out; omega) w')
              have HHD4 : Hid (∀ w' B0 k, NRow w' A8 L8 → ItRow w' B0 (stL L8) → Calls Try.prog 10 #[.agg #[.slice A8 L8.length c8], .slice B0 (stL L8).length k] w' (fun e w'' => ∃ v, e = .returned v ∧ BrV [(stL L8, 1)] v w'' ∧ Below w'.heap.size w' w'')) := fun w' B0 k h1 h2 => (hdHeads_any L8 A8 c8 (stL L8) B0 k R8.out (by have := N8.out; omega) X8.out.txt (st_form R8.out.1.1) (by unfold stL; simp) w' h1 h2).mono fun e w'' h => by
                have := hds_known h; rw [hM3] at this; exact this
              have HST5 := Lib.hid (fun w' => start14_any L4 A4 c4 (by have := N4.out; omega) w')
              have HHD5 : Hid (∀ w' B0 k, NRow w' A4 L4 → ItRow w' B0 (stL L4) → Calls Try.prog 10 #[.agg #[.slice A4 L4.length c4], .slice B0 (stL L4).length k] w' (fun e w'' => ∃ v, e = .returned v ∧ BrV Th v w'' ∧ Below w'.heap.size w' w'')) := fun w' B0 k h1 h2 => (hdHeads_any L4 A4 c4 (stL L4) B0 k R4.out (by have := N4.out; omega) X4.out.txt (st_form R4.out.1.1) (by unfold stL; simp) w' h1 h2).mono fun e w'' h => by
                have := hds_known h; rw [hTh] at this; exact this
              have HM1 := HM1
              clear hTa hTb hTc hTh hM3 X5 X4 X8
              refine wp_region_stable (S := (HwyS w w.heap.size A l c (w.heap.size + 1) B m c2 (fun w => (((True ∧ Dx bn An anE 1 1 w) ∧ Dx b5 A5 L5 L5.length c5 w) ∧ Dx b4 A4 L4 L4.length c4 w) ∧ Dx b8 A8 L8 L8.length c8 w))) (hSt := fun _ _ h hb => h.later hb) (plan := [[(2, none)], [(2, none)], [(62, some 1)], [(61, some 0), (63, some 2)], [(64, some 3)]]) (by kernel_rfl) (by kernel_rfl) (by kernel_rfl) ?hS ?_
              rotate_left
              iterate 2 first
                | (refine chain_skip (by rfl) (by rfl) ?_)
                | (apply chain_want (by rfl)
                   · intro act wx hS hr
                     simp at hr
                     have e0 := hS.d.load
                     go_simp
                     (try go_ints)
                     first
                       | exact Done.same
                  )
              (refine chain_rel (StV (stL l)) (StV.later (stL l)) (by rfl) ?_ ?_
               · intro act wx hS hr
                 simp at hr
                 have e0 := hS.d.load
                 all_goals go_simp
                 with_reducible refine Calls.mono (HST1.out _) ?_
                 rintro e w' ⟨v, rfl, hv, hb⟩
                 exact Done.rel hb hv
              )
              (refine chain_rel (BrV Ta) (BrV.later Ta) (by rfl) ?_ ?_
               · intro act wx hS hr
                 simp at hr
                 have e0 := hS.d.load
                 obtain ⟨hr1, u2, hr2, B2, k2, rfl, hk2, hq2⟩ := hr
                 all_goals go_simp
                 with_reducible refine Calls.mono (HHD1.out _ B2 k2 hS.d.row hq2) ?_
                 rintro e w' ⟨v, rfl, hv, hb⟩
                 exact Done.rel hb hv
              )
              (refine chain_rel (BrV Ta) (BrV.later Ta) (by rfl) ?_ ?_
               · intro act wx hS hr
                 simp at hr
                 have e0 := hS.d.load
                 obtain ⟨u3, hr3, hv3⟩ := hr
                 all_goals go_simp
                 exact Done.rel (Below.refl _ _) hv3
              )
              show ∀ w', _ → _
              intro wz hz
              simp [Act.put]
              case hS => exact HS.out
              intro _ _ _ _ v9 hv
              have HS2 := Lib.hid (hz.add hv (BrV.later Ta v9))
              clear hz hv HS
              have HS := HS2
              clear HS2
              go_upto_region 8 with (fail)
              refine wp_region_stable (S := (HwyS w w.heap.size A l c (w.heap.size + 1) B m c2 (fun w => ((((True ∧ Dx bn An anE 1 1 w) ∧ Dx b5 A5 L5 L5.length c5 w) ∧ Dx b4 A4 L4 L4.length c4 w) ∧ Dx b8 A8 L8 L8.length c8 w) ∧ BrV Ta v9 w))) (hSt := fun _ _ h hb => h.later hb) (plan := [[(3, none)], [(3, none)], [(66, some 1)], [(65, some 0), (67, some 2)], [(68, some 3)]]) (by kernel_rfl) (by kernel_rfl) (by kernel_rfl) ?hS ?_
              rotate_left
              iterate 2 first
                | (refine chain_skip (by rfl) (by rfl) ?_)
                | (apply chain_want (by rfl)
                   · intro act wx hS hr
                     simp at hr
                     have e0 := hS.e.load
                     go_simp
                     (try go_ints)
                     first
                       | exact Done.same
                  )
              (refine chain_rel (StV (stL m)) (StV.later (stL m)) (by rfl) ?_ ?_
               · intro act wx hS hr
                 simp at hr
                 have e0 := hS.e.load
                 all_goals go_simp
                 with_reducible refine Calls.mono (HST2.out _) ?_
                 rintro e w' ⟨v, rfl, hv, hb⟩
                 exact Done.rel hb hv
              )
              (refine chain_rel (BrV Tb) (BrV.later Tb) (by rfl) ?_ ?_
               · intro act wx hS hr
                 simp at hr
                 have e0 := hS.e.load
                 obtain ⟨hr1, u2, hr2, B2, k2, rfl, hk2, hq2⟩ := hr
                 all_goals go_simp
                 with_reducible refine Calls.mono (HHD2.out _ B2 k2 hS.e.row hq2) ?_
                 rintro e w' ⟨v, rfl, hv, hb⟩
                 exact Done.rel hb hv
              )
              (refine chain_rel (BrV Tb) (BrV.later Tb) (by rfl) ?_ ?_
               · intro act wx hS hr
                 simp at hr
                 have e0 := hS.e.load
                 obtain ⟨u3, hr3, hv3⟩ := hr
                 all_goals go_simp
                 exact Done.rel (Below.refl _ _) hv3
              )
              show ∀ w', _ → _
              intro wz hz
              simp [Act.put]
              case hS => exact HS.out
              intro _ _ _ _ v10 hv
              have HS2 := Lib.hid (hz.add hv (BrV.later Tb v10))
              clear hz hv HS
              have HS := HS2
              clear HS2
              go_upto_region 9 with (fail)
              refine wp_region_stable (S := (HwyS w w.heap.size A l c (w.heap.size + 1) B m c2 (fun w => (((((True ∧ Dx bn An anE 1 1 w) ∧ Dx b5 A5 L5 L5.length c5 w) ∧ Dx b4 A4 L4 L4.length c4 w) ∧ Dx b8 A8 L8 L8.length c8 w) ∧ BrV Ta v9 w) ∧ BrV Tb v10 w))) (hSt := fun _ _ h hb => h.later hb) (plan := [[(6, none)], [(6, none)], [(70, some 1)], [(69, some 0), (71, some 2)], [(72, some 3)]]) (by kernel_rfl) (by kernel_rfl) (by kernel_rfl) ?hS ?_
              rotate_left
              iterate 2 first
                | (refine chain_skip (by rfl) (by rfl) ?_)
                | (apply chain_want (by rfl)
                   · intro act wx hS hr
                     simp at hr
                     have e0 := hS.p.1.1.1.1.2.load
                     go_simp
                     (try go_ints)
                     first
                       | exact Done.same
                  )
              (refine chain_rel (StV (stL L5)) (StV.later (stL L5)) (by rfl) ?_ ?_
               · intro act wx hS hr
                 simp at hr
                 have e0 := hS.p.1.1.1.1.2.load
                 all_goals go_simp
                 with_reducible refine Calls.mono (HST3.out _) ?_
                 rintro e w' ⟨v, rfl, hv, hb⟩
                 exact Done.rel hb hv
              )
              (refine chain_rel (BrV Tc) (BrV.later Tc) (by rfl) ?_ ?_
               · intro act wx hS hr
                 simp at hr
                 have e0 := hS.p.1.1.1.1.2.load
                 obtain ⟨hr1, u2, hr2, B2, k2, rfl, hk2, hq2⟩ := hr
                 all_goals go_simp
                 with_reducible refine Calls.mono (HHD3.out _ B2 k2 hS.p.1.1.1.1.2.row hq2) ?_
                 rintro e w' ⟨v, rfl, hv, hb⟩
                 exact Done.rel hb hv
              )
              (refine chain_rel (BrV Tc) (BrV.later Tc) (by rfl) ?_ ?_
               · intro act wx hS hr
                 simp at hr
                 have e0 := hS.p.1.1.1.1.2.load
                 obtain ⟨u3, hr3, hv3⟩ := hr
                 all_goals go_simp
                 exact Done.rel (Below.refl _ _) hv3
              )
              show ∀ w', _ → _
              intro wz hz
              simp [Act.put]
              case hS => exact HS.out
              intro _ _ _ _ v11 hv
              have HS2 := Lib.hid (hz.add hv (BrV.later Tc v11))
              clear hz hv HS
              have HS := HS2
              clear HS2
              go_upto_region 10 with (fail)
              refine wp_region_stable (S := (HwyS w w.heap.size A l c (w.heap.size + 1) B m c2 (fun w => ((((((True ∧ Dx bn An anE 1 1 w) ∧ Dx b5 A5 L5 L5.length c5 w) ∧ Dx b4 A4 L4 L4.length c4 w) ∧ Dx b8 A8 L8 L8.length c8 w) ∧ BrV Ta v9 w) ∧ BrV Tb v10 w) ∧ BrV Tc v11 w))) (hSt := fun _ _ h hb => h.later hb) (plan := [[(8, none)], [(8, none)], [(74, some 1)], [(73, some 0), (75, some 2)], [(76, some 3)]]) (by kernel_rfl) (by kernel_rfl) (by kernel_rfl) ?hS ?_
              rotate_left
              iterate 2 first
                | (refine chain_skip (by rfl) (by rfl) ?_)
                | (apply chain_want (by rfl)
                   · intro act wx hS hr
                     simp at hr
                     have e0 := hS.p.1.1.1.2.load
                     go_simp
                     (try go_ints)
                     first
                       | exact Done.same
                  )
              (refine chain_rel (StV (stL L8)) (StV.later (stL L8)) (by rfl) ?_ ?_
               · intro act wx hS hr
                 simp at hr
                 have e0 := hS.p.1.1.1.2.load
                 all_goals go_simp
                 with_reducible refine Calls.mono (HST4.out _) ?_
                 rintro e w' ⟨v, rfl, hv, hb⟩
                 exact Done.rel hb hv
              )
              (refine chain_rel (BrV [(stL L8, 1)]) (BrV.later [(stL L8, 1)]) (by rfl) ?_ ?_
               · intro act wx hS hr
                 simp at hr
                 have e0 := hS.p.1.1.1.2.load
                 obtain ⟨hr1, u2, hr2, B2, k2, rfl, hk2, hq2⟩ := hr
                 all_goals go_simp
                 with_reducible refine Calls.mono (HHD4.out _ B2 k2 hS.p.1.1.1.2.row hq2) ?_
                 rintro e w' ⟨v, rfl, hv, hb⟩
                 exact Done.rel hb hv
              )
              (refine chain_rel (BrV [(stL L8, 1)]) (BrV.later [(stL L8, 1)]) (by rfl) ?_ ?_
               · intro act wx hS hr
                 simp at hr
                 have e0 := hS.p.1.1.1.2.load
                 obtain ⟨u3, hr3, hv3⟩ := hr
                 all_goals go_simp
                 exact Done.rel (Below.refl _ _) hv3
              )
              show ∀ w', _ → _
              intro wz hz
              simp [Act.put]
              case hS => exact HS.out
              intro _ _ _ _ v12 hv
              have HS2 := Lib.hid (hz.add hv (BrV.later [(stL L8, 1)] v12))
              clear hz hv HS
              have HS := HS2
              clear HS2
              go_upto_region 12 with (fail)
              obtain ⟨⟨⟨⟨⟨⟨⟨⟨-, -⟩, -⟩, z4⟩, z8⟩, q9⟩, q10⟩, q11⟩, q12⟩ := HS.out.p
              obtain ⟨a9, k9, D9, rfl, g9⟩ := q9
              obtain ⟨a10, k10, D10, rfl, g10⟩ := q10
              obtain ⟨a11, k11, D11, rfl, g11⟩ := q11
              obtain ⟨a12, k12, D12, rfl, g12⟩ := q12
              obtain ⟨Ag, cg, rfl⟩ := one_br g12.brs
              obtain ⟨b12, o12, rfl, -, -⟩ := g12.row 0 (Nat.zero_lt_succ _)
              have hl9 : D9.length = Ta.length := by rw [← g9.brs, List.length_map]
              have hl10 : D10.length = Tb.length := by rw [← g10.brs, List.length_map]
              have hl11 : D11.length = Tc.length := by rw [← g11.brs, List.length_map]
              have HS2 : Hid (HwyS w w.heap.size A l c (w.heap.size + 1) B m c2 (fun w => (Dx b4 A4 L4 L4.length c4 w ∧ Dx b8 A8 L8 L8.length c8 w) ∧ BrA Ta a9 D9 w ∧ BrA Tb a10 D10 w ∧ BrA Tc a11 D11 w ∧ BrA [(stL L8, 1)] (some ⟨b12, o12, none⟩) [⟨stL L8, Ag, cg, 1⟩] w) wz) := ⟨HS.out.bel, HS.out.d, HS.out.e, ⟨⟨z4, z8⟩, g9, g10, g11, g12⟩, fun _ _ h hb => ⟨⟨h.1.1.later hb, h.1.2.later hb⟩, h.2.1.later hb, h.2.2.1.later hb, h.2.2.2.1.later hb, h.2.2.2.2.later hb⟩⟩
              clear z4 z8 g9 g10 g11 g12 HS
              have HS := HS2
              clear HS2
              have SM9 : Hid (∀ w', BrA Ta a9 D9 w' → Calls Try.prog 24 #[.slice a9 D9.length k9] w' (Ans w' (.int .i64 (sumB Ta : Int)))) := fun w' h => hdSum_any Ta a9 D9 k9 (by have := U1.out; omega) V1.out w' h
              have SM10 : Hid (∀ w', BrA Tb a10 D10 w' → Calls Try.prog 24 #[.slice a10 D10.length k10] w' (Ans w' (.int .i64 (sumB Tb : Int)))) := fun w' h => hdSum_any Tb a10 D10 k10 (by have := U2.out; omega) V2.out w' h
              have SM11 : Hid (∀ w', BrA Tc a11 D11 w' → Calls Try.prog 24 #[.slice a11 D11.length k11] w' (Ans w' (.int .i64 (sumB Tc : Int)))) := fun w' h => hdSum_any Tc a11 D11 k11 (by have := U5.out; omega) V5.out w' h
              have SMH : Hid (∀ a D k, D.length = D9.length → ∀ w', BrA Th a D w' → Calls Try.prog 24 #[.slice a D.length k] w' (Ans w' (.int .i64 (sumB Ta : Int)))) := fun a D k hn w' h => by
                have := hdSum_any Th a D k (by have := U1.out; omega) V4.out w' h
                rw [HM2.out.2] at this; exact this
              have HND : Hid (∀ D : List HdE, D.map brS = Th → D.length = D9.length) := fun D h => by
                have h1 := congrArg List.length h
                rw [List.length_map] at h1
                have := HM2.out.1
                omega
              have HSA : Hid (∀ w' B3 k, ItRow w' Ag (stL L8) → ItRow w' B3 (stL L8) → Calls Try.prog 17 #[.slice Ag (stL L8).length cg, .slice B3 (stL L8).length k] w' (Ans w' (.bool true))) := fun w' B3 k h1 h2 => by
                have := rstsame_any (stL L8) (stL L8) Ag B3 cg k w' h1 h2 (by unfold stL; simp) (by unfold stL; simp)
                rw [decide_eq_true rfl] at this; exact this
              have W1 : Hid (∀ w', NRow w' A l → Calls Try.prog 15 #[.agg #[.slice A l.length c], .int .i64 ((l.length : Int) - 1)] w' (Ans w' (.int .i64 ((wyN l (l.length - 1) : Nat) : Int)))) := fun w' h => by
                have h0 := HR.out.1.1
                have := rways_any l A c hc1 (by have := HLA.out; omega) (l.length - 1) (by omega) (HR.out.1.okTo (by omega)) w' h
                rw [show (((l.length - 1 : Nat)) : Int) = (l.length : Int) - 1 by omega] at this
                exact this
              have W2 : Hid (∀ w', NRow w' B m → Calls Try.prog 15 #[.agg #[.slice B m.length c2], .int .i64 ((m.length : Int) - 1)] w' (Ans w' (.int .i64 ((wyN m (m.length - 1) : Nat) : Int)))) := fun w' h => by
                have h0 := HQ.out.1.1
                have := rways_any m B c2 hc2 (by have := HLB.out; omega) (m.length - 1) (by omega) (HQ.out.1.okTo (by omega)) w' h
                rw [show (((m.length - 1 : Nat)) : Int) = (m.length : Int) - 1 by omega] at this
                exact this
              have u1 := U1.out
              have u2 := U2.out
              have u5 := U5.out
              have v1 := sumB_le V1.out
              have v2 := sumB_le V2.out
              have v5 := sumB_le V5.out
              rw [← hl9] at u1 v1 HM1
              rw [← hl10] at u2 v2 HM1
              rw [← hl11] at u5 v5 HM1
              clear hl9 hl10 hl11 U1 U2 U5 U4 V1 V2 V5 V4 HM2 HST1 HST2 HST3 HHD1 HHD2 HHD3 HHD4
              have hlz : (l.length : Int) ≤ 10 := by have := HLA.out; omega
              have hmz : (m.length : Int) ≤ 10 := by have := HLB.out; omega
              generalize wyN l (l.length - 1) = x at *
              generalize wyN m (m.length - 1) = y at *
              generalize sumB Ta = s9 at *
              generalize sumB Tb = s10 at *
              generalize sumB Tc = s11 at *
              generalize D9.length = n9 at *
              generalize D10.length = n10 at *
              generalize D11.length = n11 at *
              have u1z : (n9 : Int) ≤ 1000 := by omega
              have u2z : (n10 : Int) ≤ 1000 := by omega
              have u5z : (n11 : Int) ≤ 1000 := by omega
              have v1z : (s9 : Int) ≤ 2000 := by omega
              have v2z : (s10 : Int) ≤ 2000 := by omega
              have v5z : (s11 : Int) ≤ 2000 := by omega
              clear u1 u2 u5 v1 v2 v5
              have e0 := HS.out.d.load
              have e1 := HS.out.e.load
              by_cases hx : 0 < x
              · have hxz : (x : Int) > 0 := by omega
                go_wp2_with fail
                refine (W1.out _ HS.out.d.row).mono ?_; rintro e wc ⟨rfl, hb⟩
                have HS2 := Lib.hid (HS.out.later hb)
                clear hb HS e0 e1
                have HS := HS2
                clear HS2
                have e0 := HS.out.d.load
                have e1 := HS.out.e.load
                by_cases hy : 0 < y
                · have hyz : (y : Int) > 0 := by omega
                  have hle : (n9 : Int) + (n10 : Int) - 1 = (n11 : Int) := by
                    have := HM1.out.1
                    rw [if_pos ⟨hx, hy⟩] at this; omega
                  go_wp2_with fail
                  refine (W2.out _ HS.out.e.row).mono ?_; rintro e wd ⟨rfl, hb⟩
                  have HS2 := Lib.hid (HS.out.later hb)
                  clear hb HS e0 e1 HM1 W1 W2
                  have HS := HS2
                  clear HS2
                  go_upto_region 14 with (fail)
                  refine wp_region_stable (S := (HwyS w w.heap.size A l c (w.heap.size + 1) B m c2 (fun w => (Dx b4 A4 L4 L4.length c4 w ∧ Dx b8 A8 L8 L8.length c8 w) ∧ BrA Ta a9 D9 w ∧ BrA Tb a10 D10 w ∧ BrA Tc a11 D11 w ∧ BrA [(stL L8, 1)] (some ⟨b12, o12, none⟩) [⟨stL L8, Ag, cg, 1⟩] w))) (hSt := fun _ _ h hb => h.later hb) (plan := [[(11, none)], [(93, some 0)], [(9, none)], [(95, some 2)], [(10, none)], [(97, some 4)], [(96, some 3), (98, some 5)], [(13, none)], [(99, some 6), (100, some 7)], [(94, some 1), (101, some 8)], [(102, some 9)], [(13, none)], [(104, some 11)], [(105, some 12)], [(11, none)], [(107, some 14)], [(9, none)], [(109, some 16)], [(10, none)], [(111, some 18)], [(110, some 17), (112, some 19)], [(108, some 15), (113, some 20)], [(106, some 13), (114, some 21)], [(103, some 10), (115, some 22)], [(116, some 23)], [(12, none)], [(118, some 25)], [(119, some 26)], [(117, some 24), (120, some 27)], [(121, some 28)], [(12, none)], [(123, some 30)], [(124, some 31)], [(125, some 32)], [(126, some 33)], [(122, some 29), (127, some 34)], [(128, some 35)], [(12, none)], [(130, some 37)], [(131, some 38)], [(132, some 39)], [(8, none)], [(134, some 41)], [(133, some 40), (135, some 42)], [(136, some 43)], [(129, some 36), (137, some 44)]]) (by kernel_rfl) (by kernel_rfl) (by kernel_rfl) ?hS ?_
                  rotate_left
                  iterate 42 first
                    | (refine chain_skip (by rfl) (by rfl) ?_)
                    | (apply chain_want (by rfl)
                       · intro act wx hS hr
                         simp at hr
                         have e8 := hS.p.1.2.load
                         have x0 := br_cell hS.p.2.2.2.2.row 0 _ rfl
                         have q0 := hS.p.2.2.2.2.its ⟨stL L8, Ag, cg, 1⟩ (by simp)
                         simp at x0
                         obtain ⟨x0, x1⟩ := x0
                         go_simp
                         (try go_ints)
                         first
                           | ((with_reducible refine (SM9.out _ hS.p.2.1).mono ?_); rintro e w' ⟨rfl, hb⟩; exact Done.mk hb)
                           | ((with_reducible refine (SM10.out _ hS.p.2.2.1).mono ?_); rintro e w' ⟨rfl, hb⟩; exact Done.mk hb)
                           | ((with_reducible refine (SM11.out _ hS.p.2.2.2.1).mono ?_); rintro e w' ⟨rfl, hb⟩; exact Done.mk hb)
                           | (obtain ⟨hr1, v, hr2, B3, k, rfl, hk, hq8⟩ := hr; simp only [hr1, hr2, Option.getD_some]; (refine (HSA.out _ B3 k q0 hq8).mono ?_); rintro e w' ⟨rfl, hb⟩; exact Done.mk hb)
                           | exact Done.same
                      )
                  (refine chain_rel (StV (stL L8)) (StV.later (stL L8)) (by rfl) ?_ ?_
                   · intro act wx hS hr
                     simp at hr
                     have e8 := hS.p.1.2.load
                     have x0 := br_cell hS.p.2.2.2.2.row 0 _ rfl
                     have q0 := hS.p.2.2.2.2.its ⟨stL L8, Ag, cg, 1⟩ (by simp)
                     simp at x0
                     obtain ⟨x0, x1⟩ := x0
                     all_goals go_simp
                     with_reducible refine Calls.mono (HST4.out _) ?_
                     rintro e w' ⟨v, rfl, hv, hb⟩
                     exact Done.rel hb hv
                  )
                  iterate 3 first
                    | (refine chain_skip (by rfl) (by rfl) ?_)
                    | (apply chain_want (by rfl)
                       · intro act wx hS hr
                         simp at hr
                         have e8 := hS.p.1.2.load
                         have x0 := br_cell hS.p.2.2.2.2.row 0 _ rfl
                         have q0 := hS.p.2.2.2.2.its ⟨stL L8, Ag, cg, 1⟩ (by simp)
                         simp at x0
                         obtain ⟨x0, x1⟩ := x0
                         go_simp
                         (try go_ints)
                         first
                           | ((with_reducible refine (SM9.out _ hS.p.2.1).mono ?_); rintro e w' ⟨rfl, hb⟩; exact Done.mk hb)
                           | ((with_reducible refine (SM10.out _ hS.p.2.2.1).mono ?_); rintro e w' ⟨rfl, hb⟩; exact Done.mk hb)
                           | ((with_reducible refine (SM11.out _ hS.p.2.2.2.1).mono ?_); rintro e w' ⟨rfl, hb⟩; exact Done.mk hb)
                           | (obtain ⟨hr1, v, hr2, B3, k, rfl, hk, hq8⟩ := hr; simp only [hr1, hr2, Option.getD_some]; (refine (HSA.out _ B3 k q0 hq8).mono ?_); rintro e w' ⟨rfl, hb⟩; exact Done.mk hb)
                           | exact Done.same
                      )
                  show ∀ w', _ → _
                  intro wz hz
                  simp [Act.put]
                  case hS => exact HS.out
                  intro _ _
                  have HS2 := Lib.hid hz
                  clear hz HS
                  have HS := HS2
                  clear HS2
                  go_upto_region 16 with (fail)
                  refine wp_region_stable (S := (HwyS w w.heap.size A l c (w.heap.size + 1) B m c2 (fun w => (Dx b4 A4 L4 L4.length c4 w ∧ Dx b8 A8 L8 L8.length c8 w) ∧ BrA Ta a9 D9 w ∧ BrA Tb a10 D10 w ∧ BrA Tc a11 D11 w ∧ BrA [(stL L8, 1)] (some ⟨b12, o12, none⟩) [⟨stL L8, Ag, cg, 1⟩] w))) (hSt := fun _ _ h hb => h.later hb) (plan := [[(7, none)], [(7, none)], [(140, some 1)], [(139, some 0), (141, some 2)], [(142, some 3)]]) (by kernel_rfl) (by kernel_rfl) (by kernel_rfl) ?hS ?_
                  rotate_left
                  iterate 2 first
                    | (refine chain_skip (by rfl) (by rfl) ?_)
                    | (apply chain_want (by rfl)
                       · intro act wx hS hr
                         simp at hr
                         have e0 := hS.p.1.1.load
                         go_simp
                         (try go_ints)
                         first
                           | exact Done.same
                      )
                  (refine chain_rel (StV (stL L4)) (StV.later (stL L4)) (by rfl) ?_ ?_
                   · intro act wx hS hr
                     simp at hr
                     have e0 := hS.p.1.1.load
                     all_goals go_simp
                     with_reducible refine Calls.mono (HST5.out _) ?_
                     rintro e w' ⟨v, rfl, hv, hb⟩
                     exact Done.rel hb hv
                  )
                  (refine chain_rel (BrV Th) (BrV.later Th) (by rfl) ?_ ?_
                   · intro act wx hS hr
                     simp at hr
                     have e0 := hS.p.1.1.load
                     obtain ⟨hr1, u2, hr2, B2, k2, rfl, hk2, hq2⟩ := hr
                     all_goals go_simp
                     with_reducible refine Calls.mono (HHD5.out _ B2 k2 hS.p.1.1.row hq2) ?_
                     rintro e w' ⟨v, rfl, hv, hb⟩
                     exact Done.rel hb hv
                  )
                  (refine chain_rel (BrV Th) (BrV.later Th) (by rfl) ?_ ?_
                   · intro act wx hS hr
                     simp at hr
                     have e0 := hS.p.1.1.load
                     obtain ⟨u3, hr3, hv3⟩ := hr
                     all_goals go_simp
                     exact Done.rel (Below.refl _ _) hv3
                  )
                  show ∀ w', _ → _
                  intro wz hz
                  simp [Act.put]
                  case hS => exact HS.out
                  intro _ _ _ _ v14 hv
                  obtain ⟨a14, k14, D14, rfl, g14⟩ := hv
                  have hn14 := HND.out D14 g14.brs
                  have SM14 := Lib.hid (SMH.out a14 D14 k14 hn14)
                  have HS2 := Lib.hid (hz.add g14 (fun _ _ h hb => h.later hb))
                  clear hz HS g14
                  have HS := HS2
                  clear HS2
                  generalize D14.length = n14 at *
                  subst hn14
                  go_wp2_with fail
                  refine (SM14.out _ HS.out.p.2).mono ?_; rintro e wa ⟨rfl, hb⟩
                  have HS2 := Lib.hid (HS.out.later hb)
                  clear hb HS
                  have HS := HS2
                  clear HS2
                  go_wp2_with fail
                  refine (SM9.out _ HS.out.p.1.2.1).mono ?_; rintro e wb ⟨rfl, hb⟩
                  have HS2 := Lib.hid (HS.out.later hb)
                  clear hb HS
                  have HS := HS2
                  clear HS2
                  have hss : ((s9 : Int) == (s9 : Int)) = true := by simp
                  go_wp2
                  go_ret
                  exact ⟨by simp, HS.out.bel⟩
                · have hyz : ¬ (y : Int) > 0 := by omega
                  have hy0 : y = 0 := by omega
                  have hle : (n9 : Int) + (n10 : Int) = (n11 : Int) := by
                    have := HM1.out.1
                    rw [if_neg (fun h => hy h.2)] at this; omega
                  have hse : (s9 : Int) + (s10 : Int) = (s11 : Int) := by
                    have := HM1.out.2 (fun h => hy h.2); omega
                  subst hy0
                  go_wp2_with fail
                  refine (W2.out _ HS.out.e.row).mono ?_; rintro e wd ⟨rfl, hb⟩
                  have HS2 := Lib.hid (HS.out.later hb)
                  clear hb HS e0 e1 HM1 W1 W2 hy
                  have HS := HS2
                  clear HS2
                  go_upto_region 14 with (fail)
                  refine wp_region_stable (S := (HwyS w w.heap.size A l c (w.heap.size + 1) B m c2 (fun w => (Dx b4 A4 L4 L4.length c4 w ∧ Dx b8 A8 L8 L8.length c8 w) ∧ BrA Ta a9 D9 w ∧ BrA Tb a10 D10 w ∧ BrA Tc a11 D11 w ∧ BrA [(stL L8, 1)] (some ⟨b12, o12, none⟩) [⟨stL L8, Ag, cg, 1⟩] w))) (hSt := fun _ _ h hb => h.later hb) (plan := [[(11, none)], [(93, some 0)], [(9, none)], [(95, some 2)], [(10, none)], [(97, some 4)], [(96, some 3), (98, some 5)], [(13, none)], [(99, some 6), (100, some 7)], [(94, some 1), (101, some 8)], [(102, some 9)], [(13, none)], [(104, some 11)], [(105, some 12)], [(11, none)], [(107, some 14)], [(9, none)], [(109, some 16)], [(10, none)], [(111, some 18)], [(110, some 17), (112, some 19)], [(108, some 15), (113, some 20)], [(106, some 13), (114, some 21)], [(103, some 10), (115, some 22)], [(116, some 23)], [(12, none)], [(118, some 25)], [(119, some 26)], [(117, some 24), (120, some 27)], [(121, some 28)], [(12, none)], [(123, some 30)], [(124, some 31)], [(125, some 32)], [(126, some 33)], [(122, some 29), (127, some 34)], [(128, some 35)], [(12, none)], [(130, some 37)], [(131, some 38)], [(132, some 39)], [(8, none)], [(134, some 41)], [(133, some 40), (135, some 42)], [(136, some 43)], [(129, some 36), (137, some 44)]]) (by kernel_rfl) (by kernel_rfl) (by kernel_rfl) ?hS ?_
                  rotate_left
                  iterate 42 first
                    | (refine chain_skip (by rfl) (by rfl) ?_)
                    | (apply chain_want (by rfl)
                       · intro act wx hS hr
                         simp at hr
                         have e8 := hS.p.1.2.load
                         have x0 := br_cell hS.p.2.2.2.2.row 0 _ rfl
                         have q0 := hS.p.2.2.2.2.its ⟨stL L8, Ag, cg, 1⟩ (by simp)
                         simp at x0
                         obtain ⟨x0, x1⟩ := x0
                         go_simp
                         (try go_ints)
                         first
                           | ((with_reducible refine (SM9.out _ hS.p.2.1).mono ?_); rintro e w' ⟨rfl, hb⟩; exact Done.mk hb)
                           | ((with_reducible refine (SM10.out _ hS.p.2.2.1).mono ?_); rintro e w' ⟨rfl, hb⟩; exact Done.mk hb)
                           | ((with_reducible refine (SM11.out _ hS.p.2.2.2.1).mono ?_); rintro e w' ⟨rfl, hb⟩; exact Done.mk hb)
                           | (obtain ⟨hr1, v, hr2, B3, k, rfl, hk, hq8⟩ := hr; simp only [hr1, hr2, Option.getD_some]; (refine (HSA.out _ B3 k q0 hq8).mono ?_); rintro e w' ⟨rfl, hb⟩; exact Done.mk hb)
                           | exact Done.same
                      )
                  (refine chain_rel (StV (stL L8)) (StV.later (stL L8)) (by rfl) ?_ ?_
                   · intro act wx hS hr
                     simp at hr
                     have e8 := hS.p.1.2.load
                     have x0 := br_cell hS.p.2.2.2.2.row 0 _ rfl
                     have q0 := hS.p.2.2.2.2.its ⟨stL L8, Ag, cg, 1⟩ (by simp)
                     simp at x0
                     obtain ⟨x0, x1⟩ := x0
                     all_goals go_simp
                     with_reducible refine Calls.mono (HST4.out _) ?_
                     rintro e w' ⟨v, rfl, hv, hb⟩
                     exact Done.rel hb hv
                  )
                  iterate 3 first
                    | (refine chain_skip (by rfl) (by rfl) ?_)
                    | (apply chain_want (by rfl)
                       · intro act wx hS hr
                         simp at hr
                         have e8 := hS.p.1.2.load
                         have x0 := br_cell hS.p.2.2.2.2.row 0 _ rfl
                         have q0 := hS.p.2.2.2.2.its ⟨stL L8, Ag, cg, 1⟩ (by simp)
                         simp at x0
                         obtain ⟨x0, x1⟩ := x0
                         go_simp
                         (try go_ints)
                         first
                           | ((with_reducible refine (SM9.out _ hS.p.2.1).mono ?_); rintro e w' ⟨rfl, hb⟩; exact Done.mk hb)
                           | ((with_reducible refine (SM10.out _ hS.p.2.2.1).mono ?_); rintro e w' ⟨rfl, hb⟩; exact Done.mk hb)
                           | ((with_reducible refine (SM11.out _ hS.p.2.2.2.1).mono ?_); rintro e w' ⟨rfl, hb⟩; exact Done.mk hb)
                           | (obtain ⟨hr1, v, hr2, B3, k, rfl, hk, hq8⟩ := hr; simp only [hr1, hr2, Option.getD_some]; (refine (HSA.out _ B3 k q0 hq8).mono ?_); rintro e w' ⟨rfl, hb⟩; exact Done.mk hb)
                           | exact Done.same
                      )
                  show ∀ w', _ → _
                  intro wz hz
                  simp [Act.put]
                  case hS => exact HS.out
                  intro _ _
                  have HS2 := Lib.hid hz
                  clear hz HS
                  have HS := HS2
                  clear HS2
                  go_upto_region 16 with (fail)
                  refine wp_region_stable (S := (HwyS w w.heap.size A l c (w.heap.size + 1) B m c2 (fun w => (Dx b4 A4 L4 L4.length c4 w ∧ Dx b8 A8 L8 L8.length c8 w) ∧ BrA Ta a9 D9 w ∧ BrA Tb a10 D10 w ∧ BrA Tc a11 D11 w ∧ BrA [(stL L8, 1)] (some ⟨b12, o12, none⟩) [⟨stL L8, Ag, cg, 1⟩] w))) (hSt := fun _ _ h hb => h.later hb) (plan := [[(7, none)], [(7, none)], [(140, some 1)], [(139, some 0), (141, some 2)], [(142, some 3)]]) (by kernel_rfl) (by kernel_rfl) (by kernel_rfl) ?hS ?_
                  rotate_left
                  iterate 2 first
                    | (refine chain_skip (by rfl) (by rfl) ?_)
                    | (apply chain_want (by rfl)
                       · intro act wx hS hr
                         simp at hr
                         have e0 := hS.p.1.1.load
                         go_simp
                         (try go_ints)
                         first
                           | exact Done.same
                      )
                  (refine chain_rel (StV (stL L4)) (StV.later (stL L4)) (by rfl) ?_ ?_
                   · intro act wx hS hr
                     simp at hr
                     have e0 := hS.p.1.1.load
                     all_goals go_simp
                     with_reducible refine Calls.mono (HST5.out _) ?_
                     rintro e w' ⟨v, rfl, hv, hb⟩
                     exact Done.rel hb hv
                  )
                  (refine chain_rel (BrV Th) (BrV.later Th) (by rfl) ?_ ?_
                   · intro act wx hS hr
                     simp at hr
                     have e0 := hS.p.1.1.load
                     obtain ⟨hr1, u2, hr2, B2, k2, rfl, hk2, hq2⟩ := hr
                     all_goals go_simp
                     with_reducible refine Calls.mono (HHD5.out _ B2 k2 hS.p.1.1.row hq2) ?_
                     rintro e w' ⟨v, rfl, hv, hb⟩
                     exact Done.rel hb hv
                  )
                  (refine chain_rel (BrV Th) (BrV.later Th) (by rfl) ?_ ?_
                   · intro act wx hS hr
                     simp at hr
                     have e0 := hS.p.1.1.load
                     obtain ⟨u3, hr3, hv3⟩ := hr
                     all_goals go_simp
                     exact Done.rel (Below.refl _ _) hv3
                  )
                  show ∀ w', _ → _
                  intro wz hz
                  simp [Act.put]
                  case hS => exact HS.out
                  intro _ _ _ _ v14 hv
                  obtain ⟨a14, k14, D14, rfl, g14⟩ := hv
                  have hn14 := HND.out D14 g14.brs
                  have SM14 := Lib.hid (SMH.out a14 D14 k14 hn14)
                  have HS2 := Lib.hid (hz.add g14 (fun _ _ h hb => h.later hb))
                  clear hz HS g14
                  have HS := HS2
                  clear HS2
                  generalize D14.length = n14 at *
                  subst hn14
                  go_wp2_with fail
                  refine (SM14.out _ HS.out.p.2).mono ?_; rintro e wa ⟨rfl, hb⟩
                  have HS2 := Lib.hid (HS.out.later hb)
                  clear hb HS
                  have HS := HS2
                  clear HS2
                  go_wp2_with fail
                  refine (SM9.out _ HS.out.p.1.2.1).mono ?_; rintro e wb ⟨rfl, hb⟩
                  have HS2 := Lib.hid (HS.out.later hb)
                  clear hb HS
                  have HS := HS2
                  clear HS2
                  have hss : ((s9 : Int) == (s9 : Int)) = true := by simp
                  go_wp2
                  go_ret
                  exact ⟨by simp, HS.out.bel⟩
              · have hx0 : x = 0 := by omega
                have hle : (n9 : Int) + (n10 : Int) = (n11 : Int) := by
                  have := HM1.out.1
                  rw [if_neg (fun h => hx h.1)] at this; omega
                have hse : (s9 : Int) + (s10 : Int) = (s11 : Int) := by
                  have := HM1.out.2 (fun h => hx h.1); omega
                subst hx0
                go_wp2_with fail
                refine (W1.out _ HS.out.d.row).mono ?_; rintro e wc ⟨rfl, hb⟩
                have HS2 := Lib.hid (HS.out.later hb)
                clear hb HS e0 e1 HM1 W1 W2 hx
                have HS := HS2
                clear HS2
                have e0 := HS.out.d.load
                have e1 := HS.out.e.load
                go_upto_region 14 with (fail)
                refine wp_region_stable (S := (HwyS w w.heap.size A l c (w.heap.size + 1) B m c2 (fun w => (Dx b4 A4 L4 L4.length c4 w ∧ Dx b8 A8 L8 L8.length c8 w) ∧ BrA Ta a9 D9 w ∧ BrA Tb a10 D10 w ∧ BrA Tc a11 D11 w ∧ BrA [(stL L8, 1)] (some ⟨b12, o12, none⟩) [⟨stL L8, Ag, cg, 1⟩] w))) (hSt := fun _ _ h hb => h.later hb) (plan := [[(11, none)], [(93, some 0)], [(9, none)], [(95, some 2)], [(10, none)], [(97, some 4)], [(96, some 3), (98, some 5)], [(13, none)], [(99, some 6), (100, some 7)], [(94, some 1), (101, some 8)], [(102, some 9)], [(13, none)], [(104, some 11)], [(105, some 12)], [(11, none)], [(107, some 14)], [(9, none)], [(109, some 16)], [(10, none)], [(111, some 18)], [(110, some 17), (112, some 19)], [(108, some 15), (113, some 20)], [(106, some 13), (114, some 21)], [(103, some 10), (115, some 22)], [(116, some 23)], [(12, none)], [(118, some 25)], [(119, some 26)], [(117, some 24), (120, some 27)], [(121, some 28)], [(12, none)], [(123, some 30)], [(124, some 31)], [(125, some 32)], [(126, some 33)], [(122, some 29), (127, some 34)], [(128, some 35)], [(12, none)], [(130, some 37)], [(131, some 38)], [(132, some 39)], [(8, none)], [(134, some 41)], [(133, some 40), (135, some 42)], [(136, some 43)], [(129, some 36), (137, some 44)]]) (by kernel_rfl) (by kernel_rfl) (by kernel_rfl) ?hS ?_
                rotate_left
                iterate 42 first
                  | (refine chain_skip (by rfl) (by rfl) ?_)
                  | (apply chain_want (by rfl)
                     · intro act wx hS hr
                       simp at hr
                       have e8 := hS.p.1.2.load
                       have x0 := br_cell hS.p.2.2.2.2.row 0 _ rfl
                       have q0 := hS.p.2.2.2.2.its ⟨stL L8, Ag, cg, 1⟩ (by simp)
                       simp at x0
                       obtain ⟨x0, x1⟩ := x0
                       go_simp
                       (try go_ints)
                       first
                         | ((with_reducible refine (SM9.out _ hS.p.2.1).mono ?_); rintro e w' ⟨rfl, hb⟩; exact Done.mk hb)
                         | ((with_reducible refine (SM10.out _ hS.p.2.2.1).mono ?_); rintro e w' ⟨rfl, hb⟩; exact Done.mk hb)
                         | ((with_reducible refine (SM11.out _ hS.p.2.2.2.1).mono ?_); rintro e w' ⟨rfl, hb⟩; exact Done.mk hb)
                         | (obtain ⟨hr1, v, hr2, B3, k, rfl, hk, hq8⟩ := hr; simp only [hr1, hr2, Option.getD_some]; (refine (HSA.out _ B3 k q0 hq8).mono ?_); rintro e w' ⟨rfl, hb⟩; exact Done.mk hb)
                         | exact Done.same
                    )
                (refine chain_rel (StV (stL L8)) (StV.later (stL L8)) (by rfl) ?_ ?_
                 · intro act wx hS hr
                   simp at hr
                   have e8 := hS.p.1.2.load
                   have x0 := br_cell hS.p.2.2.2.2.row 0 _ rfl
                   have q0 := hS.p.2.2.2.2.its ⟨stL L8, Ag, cg, 1⟩ (by simp)
                   simp at x0
                   obtain ⟨x0, x1⟩ := x0
                   all_goals go_simp
                   with_reducible refine Calls.mono (HST4.out _) ?_
                   rintro e w' ⟨v, rfl, hv, hb⟩
                   exact Done.rel hb hv
                )
                iterate 3 first
                  | (refine chain_skip (by rfl) (by rfl) ?_)
                  | (apply chain_want (by rfl)
                     · intro act wx hS hr
                       simp at hr
                       have e8 := hS.p.1.2.load
                       have x0 := br_cell hS.p.2.2.2.2.row 0 _ rfl
                       have q0 := hS.p.2.2.2.2.its ⟨stL L8, Ag, cg, 1⟩ (by simp)
                       simp at x0
                       obtain ⟨x0, x1⟩ := x0
                       go_simp
                       (try go_ints)
                       first
                         | ((with_reducible refine (SM9.out _ hS.p.2.1).mono ?_); rintro e w' ⟨rfl, hb⟩; exact Done.mk hb)
                         | ((with_reducible refine (SM10.out _ hS.p.2.2.1).mono ?_); rintro e w' ⟨rfl, hb⟩; exact Done.mk hb)
                         | ((with_reducible refine (SM11.out _ hS.p.2.2.2.1).mono ?_); rintro e w' ⟨rfl, hb⟩; exact Done.mk hb)
                         | (obtain ⟨hr1, v, hr2, B3, k, rfl, hk, hq8⟩ := hr; simp only [hr1, hr2, Option.getD_some]; (refine (HSA.out _ B3 k q0 hq8).mono ?_); rintro e w' ⟨rfl, hb⟩; exact Done.mk hb)
                         | exact Done.same
                    )
                show ∀ w', _ → _
                intro wz hz
                simp [Act.put]
                case hS => exact HS.out
                intro _ _
                have HS2 := Lib.hid hz
                clear hz HS
                have HS := HS2
                clear HS2
                go_upto_region 16 with (fail)
                refine wp_region_stable (S := (HwyS w w.heap.size A l c (w.heap.size + 1) B m c2 (fun w => (Dx b4 A4 L4 L4.length c4 w ∧ Dx b8 A8 L8 L8.length c8 w) ∧ BrA Ta a9 D9 w ∧ BrA Tb a10 D10 w ∧ BrA Tc a11 D11 w ∧ BrA [(stL L8, 1)] (some ⟨b12, o12, none⟩) [⟨stL L8, Ag, cg, 1⟩] w))) (hSt := fun _ _ h hb => h.later hb) (plan := [[(7, none)], [(7, none)], [(140, some 1)], [(139, some 0), (141, some 2)], [(142, some 3)]]) (by kernel_rfl) (by kernel_rfl) (by kernel_rfl) ?hS ?_
                rotate_left
                iterate 2 first
                  | (refine chain_skip (by rfl) (by rfl) ?_)
                  | (apply chain_want (by rfl)
                     · intro act wx hS hr
                       simp at hr
                       have e0 := hS.p.1.1.load
                       go_simp
                       (try go_ints)
                       first
                         | exact Done.same
                    )
                (refine chain_rel (StV (stL L4)) (StV.later (stL L4)) (by rfl) ?_ ?_
                 · intro act wx hS hr
                   simp at hr
                   have e0 := hS.p.1.1.load
                   all_goals go_simp
                   with_reducible refine Calls.mono (HST5.out _) ?_
                   rintro e w' ⟨v, rfl, hv, hb⟩
                   exact Done.rel hb hv
                )
                (refine chain_rel (BrV Th) (BrV.later Th) (by rfl) ?_ ?_
                 · intro act wx hS hr
                   simp at hr
                   have e0 := hS.p.1.1.load
                   obtain ⟨hr1, u2, hr2, B2, k2, rfl, hk2, hq2⟩ := hr
                   all_goals go_simp
                   with_reducible refine Calls.mono (HHD5.out _ B2 k2 hS.p.1.1.row hq2) ?_
                   rintro e w' ⟨v, rfl, hv, hb⟩
                   exact Done.rel hb hv
                )
                (refine chain_rel (BrV Th) (BrV.later Th) (by rfl) ?_ ?_
                 · intro act wx hS hr
                   simp at hr
                   have e0 := hS.p.1.1.load
                   obtain ⟨u3, hr3, hv3⟩ := hr
                   all_goals go_simp
                   exact Done.rel (Below.refl _ _) hv3
                )
                show ∀ w', _ → _
                intro wz hz
                simp [Act.put]
                case hS => exact HS.out
                intro _ _ _ _ v14 hv
                obtain ⟨a14, k14, D14, rfl, g14⟩ := hv
                have hn14 := HND.out D14 g14.brs
                have SM14 := Lib.hid (SMH.out a14 D14 k14 hn14)
                have HS2 := Lib.hid (hz.add g14 (fun _ _ h hb => h.later hb))
                clear hz HS g14
                have HS := HS2
                clear HS2
                generalize D14.length = n14 at *
                subst hn14
                go_wp2_with fail
                refine (SM14.out _ HS.out.p.2).mono ?_; rintro e wa ⟨rfl, hb⟩
                have HS2 := Lib.hid (HS.out.later hb)
                clear hb HS
                have HS := HS2
                clear HS2
                go_wp2_with fail
                refine (SM9.out _ HS.out.p.1.2.1).mono ?_; rintro e wb ⟨rfl, hb⟩
                have HS2 := Lib.hid (HS.out.later hb)
                clear hb HS
                have HS := HS2
                clear HS2
                have hss : ((s9 : Int) == (s9 : Int)) = true := by simp
                go_wp2
                go_ret
                exact ⟨by simp, HS.out.bel⟩
            · have zb : (m.length : Int) > 10 := by omega
              clear ga gb
              go_wp2_with fail
              refine ((HF.out)).mono ?_; rintro e w2 ⟨rfl, hb⟩
              have HS2 := Lib.hid (HS.out.later hb)
              clear hb e0 e1 HS
              have HS := HS2
              clear HS2
              have e0 := HS.out.d.load
              have e1 := HS.out.e.load
              go_wp2_with fail
              refine ((HAW.out _)).mono ?_; rintro e w2 ⟨rfl, hb⟩
              have HS2 := Lib.hid (HS.out.later hb)
              clear hb e0 e1 HS
              have HS := HS2
              clear HS2
              have e0 := HS.out.d.load
              have e1 := HS.out.e.load
              go_wp2
              go_ret
              exact ⟨rfl, HS.out.bel⟩
          · have za : (l.length : Int) > 10 := by omega
            clear ga
            go_wp2_with fail
            refine ((HF.out)).mono ?_; rintro e w2 ⟨rfl, hb⟩
            have HS2 := Lib.hid (HS.out.later hb)
            clear hb e0 e1 HS
            have HS := HS2
            clear HS2
            have e0 := HS.out.d.load
            have e1 := HS.out.e.load
            go_wp2_with fail
            refine ((HAW.out _)).mono ?_; rintro e w2 ⟨rfl, hb⟩
            have HS2 := Lib.hid (HS.out.later hb)
            clear hb e0 e1 HS
            have HS := HS2
            clear HS2
            have e0 := HS.out.d.load
            have e1 := HS.out.e.load
            go_wp2
            go_ret
            exact ⟨rfl, HS.out.bel⟩
end Go.Proofs.Ytgabifebcfgngaa
