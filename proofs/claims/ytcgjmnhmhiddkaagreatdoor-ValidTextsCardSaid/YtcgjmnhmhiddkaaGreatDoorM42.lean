/- The statement ValidOnly of layer 9, walked. -/
import Derived.Test.YtcgjmnhmhiddkaaGreatDoorM39
import Derived.Test.YtcgjmnhmhiddkaaGreatDoorM41
import Derived.Test.YtcgjmnhmhiddkaaGreatDoorM15
import Derived.Test.YtcgjmnhmhiddkaaGreatDoorM22
import Derived.Test.YtcgjmnhmhiddkaaGreatDoorM13
namespace Go.Proofs.YtcgjmnhmhiddkaaGreatDoor
open Go Go.RowKit
set_option linter.unusedVariables false
set_option linter.unusedSimpArgs false
set_option maxRecDepth 100000

/-- The tables. -/
structure TbS (w0 w : World) : Prop where
  bel : Below w0.heap.size w0 w
  t : T10 w
  u : U8T w
theorem TbS.later {w0 w w' : World} (h : TbS w0 w) (hb : Below w.heap.size w w') : TbS w0 w' := ⟨h.bel.trans (hb.mono h.bel.size), h.t.later hb, h.u.later hb⟩
/-- .. and a description. -/
structure TdS (w0 : World) (b : Nat) (an : Option Addr) (n kn : Nat) (D : List Nd) (w : World) : Prop where
  s : TbS w0 w
  box : Blk w b #[.slice an n kn] 25
  row : NRow w an D
theorem TdS.later {w0 w w' : World} {b : Nat} {an : Option Addr} {n kn : Nat} {D : List Nd} (h : TdS w0 b an n kn D w) (hb : Below w.heap.size w w') : TdS w0 b an n kn D w' := ⟨h.s.later hb, h.box.later hb, h.row.later hb⟩
theorem TdS.new {w0 w w' : World} (h : TbS w0 w) (hb : Below w.heap.size w w') {an : Option Addr} {n kn : Nat} {D : List Nd} (hr : NRow w' an D) : TdS w0 w'.heap.size an n kn D (w'.alloc (.cells #[.slice an n kn] 25)) :=
  ⟨h.later (hb.trans ((Below.refl _ _).alloc hb.size _)), Blk.new _ _ _, hr.later ((Below.refl _ _).alloc (Nat.le_refl _) _)⟩
theorem TdS.isD {w0 w : World} {b : Nat} {an : Option Addr} {n kn : Nat} {D : List Nd} (h : TdS w0 b an n kn D w) (hn : D.length = n) (hk : n ≤ kn) : IsD D (.agg #[.slice an n kn]) w := ⟨an, kn, by omega, by rw [hn], h.row⟩
theorem VOk.pr {l : List UInt8} {D : List Nd} (h : VOk l D) (hl : l.length ≤ 2000) : PrOk D := ⟨h.form, h.len, fun n hn => Nat.le_trans (h.txt n hn) hl⟩
theorem VOk.sm {l : List UInt8} {D : List Nd} (h : VOk l D) (hl : l.length ≤ 2000) : Sm D := ⟨h.form, h.len, fun n hn => Nat.le_trans (h.txt n hn) (by omega)⟩
theorem VOk.right {l : List UInt8} {D : List Nd} (h : VOk l D) : rgB D = true := by
  unfold rgB
  rw [(formB_iff D).2 h.form, h.fst]; rfl
theorem isD_same {a b : List Nd} {u v : Value} {w : World} (h : IsD a u w) (k : IsD b v w) (ha : a.length ≤ 4096) (hb : b.length ≤ 4096) {x : Bool} (hx : decide (a = b) = x) : Calls Tryz.prog 10 #[u, v] w (Ans w (.bool x)) := by
  obtain ⟨A, c, hc, rfl, hr⟩ := h
  obtain ⟨B, d, hd, rfl, hq⟩ := k
  subst hx
  exact refnsame_any a b A B c d w hr hq (by omega) (by omega)
theorem isD_rright {l : List Nd} {v : Value} {w : World} (h : IsD l v w) (hs : Sm l) {x : Bool} (hx : rgB l = x) : Calls Tryz.prog 13 #[v] w (Ans w (.bool x)) := by
  obtain ⟨A, c, hc, rfl, hr⟩ := h
  subst hx
  exact rright_any l A c hc (by have := hs.len; omega) hs.txt w hr
/-- A parsed description's row, and its numbers. -/
theorem OwnN.parts {w : World} {base : Nat} {v : Value} {D : List Nd} (h : OwnN w base v D) : ∃ an kn, v = .slice an D.length kn ∧ D.length ≤ kn ∧ NRow w an D := by
  obtain ⟨A, c, hc, hv, hr⟩ := h.isD
  injection hv with hv
  exact ⟨A, c, by simpa using hv, hc, hr⟩
set_option maxHeartbeats 16000000 in
theorem validonly_walk (l : List UInt8) (w : World) (hT : T10 w) (hU : U8T w) (hl : l.length ≤ 9223372036854775807) :
    Calls Tryz.prog 4 #[.string (bs l)] w (Ans w (.bool true)) := by
  have HS : Hid (TbS w w) := ⟨Below.refl _ _, hT, hU⟩
  clear hT hU
  go_enter Tryz.func4, Tryz.ntmps4
  go_wp2_with fail
  refine (awake9_any _ HS.out.u).mono ?_; rintro e w1 ⟨rfl, hb⟩
  have HS1 := Lib.hid (HS.out.later hb)
  clear hb HS
  by_cases h6 : 600 < l.length
  · have hz : ((bs l).size : Int) > 600 := by rw [bs_size]; omega
    go_wp2_with fail
    refine (awake9_any _ HS1.out.u).mono ?_; rintro e w2 ⟨rfl, hb⟩
    have HS2 := Lib.hid (HS1.out.later hb)
    clear hb HS1
    go_wp2
    go_ret
    exact ⟨rfl, HS2.out.bel⟩
  · have hz : ¬ ((bs l).size : Int) > 600 := by rw [bs_size]; omega
    have RD := Lib.hid (vread_any (l := l) (by omega) w1 HS1.out.u)
    obtain ⟨r, hr⟩ : ∃ r, validL l = r := ⟨_, rfl⟩
    rw [hr] at RD
    cases r with
    | bad er p =>
      obtain ⟨e1, e2, p1, p2⟩ := valid_bad hr
      have hsz : p ≤ ((bs l).size : Int) := by rw [bs_size]; exact p2
      have hne : (er != 0) = true := by rw [bne_iff_ne]; omega
      have HE1 : Hid (1 ≤ er) := e1
      clear hr p2 h6
      generalize bs l = s at *
      go_wp2_with fail
      refine RD.out.mono ?_; rintro e w2 ⟨rfl, hb⟩
      have HS2 := Lib.hid (HS1.out.later (hb.trans ((Below.refl _ _).alloc hb.size (.cells #[.slice none 0 0] 25))))
      clear hb HS1 RD
      go_wp2
      go_ret
      exact ⟨rfl, HS2.out.bel⟩
    | ok D =>
      have ok := valid_ok hr
      have OK := Lib.hid ok
      have HP := Lib.hid (ok.pr (by omega))
      have HM := Lib.hid (ok.sm (by omega))
      have HRG := Lib.hid ok.right
      have h4 := ok.len
      have HFEW : Hid (D.length ≤ 1202) := by have := ok.few; unfold Hid; omega
      have htl : (textN D).length ≤ 10000000 := Nat.le_trans (textN_len ok.form (fun n hn => HP.out.txt n hn)) (by have := HFEW.out; omega)
      have VT := Lib.hid (valid_text ok.form ok.len)
      have HFS := Lib.hid ok.fst
      obtain ⟨n, hn⟩ : ∃ n, D.length = n := ⟨_, rfl⟩
      have HN := Lib.hid hn
      clear hr ok hn h6
      generalize bs l = s at *
      go_wp2_with fail
      refine RD.out.mono ?_; rintro e w2 ⟨nv, rfl, ho, hb⟩
      obtain ⟨an, kn, rfl, hkn, hrow⟩ := ho.parts
      rw [HN.out] at hkn ⊢
      have HS2 : Hid (TdS w w2.heap.size an n kn D _) := TdS.new HS1.out hb hrow
      have HK := Lib.hid hkn
      clear hb ho hrow hkn HS1 RD
      go_upto_region 4 with (fail)
      generalize w2.alloc (.cells #[.slice an n kn] 25) = w3 at *
      generalize w2.heap.size = b at *
      have CR : Hid (∀ w', TdS w b an n kn D w' → Calls Tryz.prog 12 #[.agg #[.slice an n kn]] w' (Ans w' (.bool true))) := fun w' h => (h.isD HN.out HK.out).nright HM.out h.s.u HRG.out
      have CQ : Hid (∀ w', TdS w b an n kn D w' → Calls Tryz.prog 13 #[.agg #[.slice an n kn]] w' (Ans w' (.bool true))) := fun w' h => isD_rright (h.isD HN.out HK.out) HM.out HRG.out
      have CD : Hid (∀ w', TdS w b an n kn D w' → Calls Tryz.prog 14 #[.agg #[.slice an n kn]] w' (Ans w' (.int .i64 ((deepN D : Nat) : Int)))) := fun w' h => (h.isD HN.out HK.out).pdeep HP.out h.s.t rfl
      have CT : Hid (∀ w', TdS w b an n kn D w' → Calls Tryz.prog 15 #[.agg #[.slice an n kn]] w' (Ans w' (.string (bs (textN D))))) := fun w' h => (h.isD HN.out HK.out).ptext HP.out h.s.t
      have e0 := HS2.out.box.cell 0
      simp at e0
      go_wp2_with fail
      refine (CR.out _ HS2.out).mono ?_; rintro e y1 ⟨rfl, hb⟩
      have HS3 := Lib.hid (HS2.out.later hb)
      clear hb e0 HS2 CR
      have e0 := HS3.out.box.cell 0
      simp at e0
      go_wp2_with fail
      refine (CQ.out _ HS3.out).mono ?_; rintro e y2 ⟨rfl, hb⟩
      have HS4 := Lib.hid (HS3.out.later hb)
      clear hb e0 HS3 CQ
      have e0 := HS4.out.box.cell 0
      simp at e0
      by_cases hd : deepN D ≤ 64
      · have hdz : ¬ ((deepN D : Nat) : Int) > 64 := by omega
        have hvt := VT.out.2.1 hd HFS.out
        have RT : Hid (∀ w', TdS w b an n kn D w' → Calls Tryz.prog 8 #[.string (bs (textN D))] w' (PVal w' (.ok D))) := fun w' h => by
          have q := vread_any htl w' h.s.u
          rw [hvt] at q; exact q
        have CS : Hid (∀ w' am km, n ≤ km → NRow w' am D → TdS w b an n kn D w' → Calls Tryz.prog 10 #[.agg #[.slice am n km], .agg #[.slice an n kn]] w' (Ans w' (.bool true))) := fun w' am km h1 h2 h => isD_same ⟨am, km, by rw [HN.out]; exact h1, by rw [HN.out], h2⟩ (h.isD HN.out HK.out) (by rw [HN.out] at h4; rw [HN.out]; exact h4) (by rw [HN.out] at h4; rw [HN.out]; exact h4) (decide_eq_true rfl)
        clear hvt htl hd VT HFS HP HM HRG OK
        generalize deepN D = dp at *
        generalize textN D = td at *
        go_wp2_with fail
        refine (CD.out _ HS4.out).mono ?_; rintro e y3 ⟨rfl, hb⟩
        have HS5 := Lib.hid (HS4.out.later hb)
        clear hb e0 HS4 CD
        have e0 := HS5.out.box.cell 0
        simp at e0
        go_wp2_with fail
        refine (CT.out _ HS5.out).mono ?_; rintro e y4 ⟨rfl, hb⟩
        have HS6 := Lib.hid (HS5.out.later hb)
        clear hb e0 HS5 CT
        go_wp2_with fail
        refine (RT.out _ HS6.out).mono ?_; rintro e y5 ⟨nv, rfl, ho, hb⟩
        obtain ⟨am, km, rfl, hkm, hrow⟩ := ho.parts
        rw [HN.out] at hkm ⊢
        have hb2 := hb.trans ((Below.refl _ _).alloc hb.size (.cells #[.slice am n km] 25))
        have HS7 := Lib.hid (HS6.out.later hb2)
        have HR7 := Lib.hid (hrow.later ((Below.refl _ _).alloc (Nat.le_refl _) (.cells #[.slice am n km] 25)))
        have HB7 := Lib.hid (Blk.new y5 #[.slice am n km] 25)
        have HKM := Lib.hid hkm
        clear hb hb2 ho hrow hkm HS6 RT
        go_upto_region 11 with (fail)
        generalize y5.alloc (.cells #[.slice am n km] 25) = y6 at *
        generalize y5.heap.size = b2 at *
        have e0 := HS7.out.box.cell 0
        have e1 := HB7.out.cell 0
        simp at e0 e1
        go_wp2_with fail
        refine (CS.out _ _ _ HKM.out HR7.out HS7.out).mono ?_; rintro e y7 ⟨rfl, hb⟩
        have HS8 := Lib.hid (HS7.out.later hb)
        clear hb e0 e1 HS7
        go_wp2
        go_ret
        exact ⟨rfl, HS8.out.s.bel⟩
      · have hdz : ((deepN D : Nat) : Int) > 64 := by omega
        clear htl hd VT HFS HP HM HRG OK CT
        generalize deepN D = dp at *
        go_wp2_with fail
        refine (CD.out _ HS4.out).mono ?_; rintro e y3 ⟨rfl, hb⟩
        have HS5 := Lib.hid (HS4.out.later hb)
        clear hb e0 HS4 CD
        go_wp2
        go_ret
        exact ⟨rfl, HS5.out.s.bel⟩
end Go.Proofs.YtcgjmnhmhiddkaaGreatDoor
/- The statement ValidTexts of layer 9, walked. -/
namespace Go.Proofs.YtcgjmnhmhiddkaaGreatDoor
open Go Go.RowKit
set_option linter.unusedVariables false
set_option linter.unusedSimpArgs false
set_option maxRecDepth 100000

theorem bs_at {l : List UInt8} {p : Nat} (h : p < l.length) {h2 : p < (bs l).size} : (bs l)[p]'h2 = l.getD p 0 := by
  rw [List.getD_eq_getElem?_getD, List.getElem?_eq_getElem h]; rfl
set_option maxHeartbeats 32000000 in
theorem validtexts_walk (a : List Nd) (A : Option Addr) (c1 : Nat) (hc1 : a.length ≤ c1) (hl : a.length ≤ 9223372036854775807) (htx : Txt a) (w : World) (hrow : NRow w A a) (hT : T10 w) (hU : U8T w) :
    Calls Tryz.prog 5 #[.agg #[.slice A a.length c1]] w (Ans w (.bool true)) := by
  have HTX := Lib.hid htx
  obtain ⟨n, hn⟩ : ∃ n, a.length = n := ⟨_, rfl⟩
  have HN := Lib.hid hn
  have HC : Hid (n ≤ c1) := by rw [← hn]; exact hc1
  have hb1 := (Below.refl w.heap.size w).alloc (Nat.le_refl _) (.cells #[.slice A n c1] 25)
  have HS0 : Hid (TdS w w.heap.size A n c1 a (w.alloc (.cells #[.slice A n c1] 25))) := ⟨⟨hb1, hT.later hb1, hU.later hb1⟩, Blk.new _ _ _, hrow.later hb1⟩
  have CF : Hid (∀ w', TdS w w.heap.size A n c1 a w' → Calls Tryz.prog 16 #[.agg #[.slice A n c1]] w' (Ans w' (.bool (fewB a)))) := fun w' h => by
    have q := few_any a A c1 hl htx w' h.row
    rwa [hn] at q
  have CG : Hid (fewB a = true → ∀ w', TdS w w.heap.size A n c1 a w' → Calls Tryz.prog 17 #[.agg #[.slice A n c1]] w' (Ans w' (.bool (formB a)))) := fun hf w' h => by
    have q := refform_any a A c1 (by have := (few_txt hf).1; omega) htx w' h.row
    rwa [hn] at q
  rw [hn]
  clear hrow htx hT hU hb1 hn hc1
  go_enter Tryz.func5, Tryz.ntmps5
  go_upto_region 1 with (fail)
  generalize w.alloc (.cells #[.slice A n c1] 25) = w1 at *
  obtain ⟨b, hbb⟩ : ∃ b, b = w.heap.size := ⟨_, rfl⟩
  rw [← hbb] at HS0 CF CG ⊢
  clear hbb
  go_wp2_with fail
  refine (awake9_any _ HS0.out.s.u).mono ?_; rintro e w2 ⟨rfl, hb⟩
  have HS1 := Lib.hid (HS0.out.later hb)
  clear hb HS0
  have e0 := HS1.out.box.cell 0
  simp at e0
  cases hf : fewB a with
  | false =>
    rw [hf] at CF
    clear hf CG
    go_wp2_with fail
    refine (CF.out _ HS1.out).mono ?_; rintro e w3 ⟨rfl, hb⟩
    have HSX := Lib.hid (HS1.out.later hb)
    clear hb e0 CF HS1
    go_wp2_with fail
    refine (awake9_any _ HSX.out.s.u).mono ?_; rintro e WN ⟨rfl, hb⟩
    have HSY := Lib.hid (HSX.out.later hb)
    clear hb
    go_wp2
    go_ret
    exact ⟨rfl, HSY.out.s.bel⟩
  | true =>
    have CG2 := Lib.hid (CG.out hf)
    rw [hf] at CF
    have LA := Lib.hid ((few_txt hf))
    clear hf CG
    go_wp2_with fail
    refine (CF.out _ HS1.out).mono ?_; rintro e y1 ⟨rfl, hb⟩
    have HS2 := Lib.hid (HS1.out.later hb)
    clear hb e0 CF HS1
    have e0 := HS2.out.box.cell 0
    simp at e0
    cases hf : formB a with
    | false =>
      rw [hf] at CG2
      clear hf
      go_wp2_with fail
      refine (CG2.out _ HS2.out).mono ?_; rintro e w3 ⟨rfl, hb⟩
      have HSX := Lib.hid (HS2.out.later hb)
      clear hb e0 CG2 HS2
      go_wp2_with fail
      refine (awake9_any _ HSX.out.s.u).mono ?_; rintro e WN ⟨rfl, hb⟩
      have HSY := Lib.hid (HSX.out.later hb)
      clear hb
      go_wp2
      go_ret
      exact ⟨rfl, HSY.out.s.bel⟩
    | true =>
      rw [hf] at CG2
      have FA := Lib.hid ((formB_iff a).1 hf)
      have HFB := Lib.hid hf
      clear hf
      go_wp2_with fail
      refine (CG2.out _ HS2.out).mono ?_; rintro e y2 ⟨rfl, hb⟩
      have HS4 := Lib.hid (HS2.out.later hb)
      clear hb e0 CG2 HS2
      have hla := LA.out.1
      have hla2 : n ≤ 100 := by have := HN.out; omega
      have HP : Hid (PrOk a) := ⟨FA.out, by omega, LA.out.2⟩
      have HM : Hid (Sm a) := ⟨FA.out, by omega, HTX.out⟩
      have htl : (textN a).length ≤ 10000000 := Nat.le_trans (textN_len FA.out LA.out.2) (by omega)
      have VT := Lib.hid (valid_text FA.out (by omega))
      have CT : Hid (∀ w', TdS w b A n c1 a w' → Calls Tryz.prog 15 #[.agg #[.slice A n c1]] w' (Ans w' (.string (bs (textN a))))) := fun w' h => (h.isD HN.out HC.out).ptext HP.out h.s.t
      have CD : Hid (∀ w', TdS w b A n c1 a w' → Calls Tryz.prog 14 #[.agg #[.slice A n c1]] w' (Ans w' (.int .i64 ((deepN a : Nat) : Int)))) := fun w' h => (h.isD HN.out HC.out).pdeep HP.out h.s.t rfl
      have CR : Hid (∀ w', TdS w b A n c1 a w' → Calls Tryz.prog 13 #[.agg #[.slice A n c1]] w' (Ans w' (.bool (!(fstW a).2)))) := fun w' h => isD_rright (h.isD HN.out HC.out) HM.out (by unfold rgB; rw [HFB.out, Bool.and_true])
      have RT : Hid (∀ w', TdS w b A n c1 a w' → Calls Tryz.prog 8 #[.string (bs (textN a))] w' (PVal w' (validL (textN a)))) := fun w' h => vread_any htl w' h.s.u
      have e0 := HS4.out.box.cell 0
      simp at e0
      by_cases hd : deepN a ≤ 64
      · have hdz : ¬ ((deepN a : Nat) : Int) > 64 := by omega
        cases hw : (fstW a).2 with
        | true =>
          obtain ⟨p, hv, hp, hc⟩ := VT.out.2.2 hd hw
          rw [hw] at CR
          rw [hv] at RT
          have hsz : (p : Int) < ((bs (textN a)).size : Int) := by rw [bs_size]; omega
          clear hv hd VT HP HM HFB hw htl
          go_wp2_with fail
          refine (CT.out _ HS4.out).mono ?_; rintro e y3 ⟨rfl, hb⟩
          have HS5 := Lib.hid (HS4.out.later hb)
          clear hb e0 HS4 CT
          go_wp2_with fail
          refine (RT.out _ HS5.out).mono ?_; rintro e y4 ⟨rfl, hb⟩
          have HS6 := Lib.hid (HS5.out.later (hb.trans ((Below.refl _ _).alloc hb.size (.cells #[.slice none 0 0] 25))))
          clear hb HS5 RT
          go_upto_region 5 with (fail)
          generalize y4.alloc (.cells #[.slice none 0 0] 25) = y5 at *
          have e0 := HS6.out.box.cell 0
          simp at e0
          generalize deepN a = dp at *
          go_wp2_with fail
          refine (CD.out _ HS6.out).mono ?_; rintro e y6 ⟨rfl, hb⟩
          have HS7 := Lib.hid (HS6.out.later hb)
          clear hb e0 HS6 CD
          have e0 := HS7.out.box.cell 0
          simp at e0
          go_wp2_with fail
          refine (CR.out _ HS7.out).mono ?_; rintro e y7 ⟨rfl, hb⟩
          have HS8 := Lib.hid (HS7.out.later hb)
          clear hb e0 HS7 CR
          generalize textN a = td at *
          have hpz : p < (bs td).size := by rw [bs_size]; exact hp
          have hx : (bs td)[p]'hpz = td.getD p 0 := bs_at hp
          clear hp hsz
          rcases hc with hc | hc
          · rw [hc] at hx
            clear hc
            have hq : (p : Int) < ((bs td).size : Int) := by omega
            go_wp2
            go_ret
            exact ⟨rfl, HS8.out.s.bel⟩
          · rw [hc] at hx
            clear hc
            have hq : (p : Int) < ((bs td).size : Int) := by omega
            go_wp2
            go_ret
            exact ⟨rfl, HS8.out.s.bel⟩
        | false =>
          have hvt := VT.out.2.1 hd hw
          rw [hw] at CR
          have CI : Hid (∀ w', TdS w b A n c1 a w' → Calls Tryz.prog 11 #[.string (bs (textN a))] w' (Ans w' (.bool true))) := fun w' h => vis_any htl w' h.s.u (by rw [hvt]; rfl)
          have CS : Hid (∀ w' am km, n ≤ km → NRow w' am a → TdS w b A n c1 a w' → Calls Tryz.prog 10 #[.agg #[.slice am n km], .agg #[.slice A n c1]] w' (Ans w' (.bool true))) := fun w' am km h1 h2 h => isD_same ⟨am, km, by rw [HN.out]; exact h1, by rw [HN.out], h2⟩ (h.isD HN.out HC.out) (by rw [HN.out]; omega) (by rw [HN.out]; omega) (decide_eq_true rfl)
          rw [hvt] at RT
          clear hvt hd VT HP HM HFB hw htl
          go_wp2_with fail
          refine (CT.out _ HS4.out).mono ?_; rintro e y3 ⟨rfl, hb⟩
          have HS5 := Lib.hid (HS4.out.later hb)
          clear hb e0 HS4 CT
          go_wp2_with fail
          refine (RT.out _ HS5.out).mono ?_; rintro e y4 ⟨nv, rfl, ho, hb⟩
          obtain ⟨am, km, rfl, hkm, hrow⟩ := ho.parts
          rw [HN.out] at hkm ⊢
          have hb2 := hb.trans ((Below.refl _ _).alloc hb.size (.cells #[.slice am n km] 25))
          have HS6 := Lib.hid (HS5.out.later hb2)
          have HR6 := Lib.hid (hrow.later ((Below.refl _ _).alloc (Nat.le_refl _) (.cells #[.slice am n km] 25)))
          have HB6 := Lib.hid (Blk.new y4 #[.slice am n km] 25)
          have HKM := Lib.hid hkm
          clear hb hb2 ho hrow hkm HS5 RT
          go_upto_region 5 with (fail)
          generalize y4.alloc (.cells #[.slice am n km] 25) = y5 at *
          generalize y4.heap.size = b2 at *
          have e0 := HS6.out.box.cell 0
          simp at e0
          generalize deepN a = dp at *
          go_wp2_with fail
          refine (CD.out _ HS6.out).mono ?_; rintro e y6 ⟨rfl, hb⟩
          have HS7 := Lib.hid (HS6.out.later hb)
          have HR7 := Lib.hid (HR6.out.later hb)
          have HB7 := Lib.hid (HB6.out.later hb)
          clear hb e0 HS6 HR6 HB6 CD
          have e0 := HS7.out.box.cell 0
          simp at e0
          go_wp2_with fail
          refine (CR.out _ HS7.out).mono ?_; rintro e y7 ⟨rfl, hb⟩
          have HS8 := Lib.hid (HS7.out.later hb)
          have HR8 := Lib.hid (HR7.out.later hb)
          have HB8 := Lib.hid (HB7.out.later hb)
          clear hb e0 HS7 HR7 HB7 CR
          have e0 := HS8.out.box.cell 0
          have e1 := HB8.out.cell 0
          simp at e0 e1
          go_wp2_with fail
          refine (CS.out _ _ _ HKM.out HR8.out HS8.out).mono ?_; rintro e y8 ⟨rfl, hb⟩
          have HS9 := Lib.hid (HS8.out.later hb)
          clear hb e0 e1 HS8
          go_wp2_with fail
          refine (CI.out _ HS9.out).mono ?_; rintro e y9 ⟨rfl, hb⟩
          have HSA := Lib.hid (HS9.out.later hb)
          clear hb HS9
          go_wp2
          go_ret
          exact ⟨rfl, HSA.out.s.bel⟩
      · have hdz : ((deepN a : Nat) : Int) > 64 := by omega
        obtain ⟨p, hv⟩ := VT.out.1 (by omega)
        rw [hv] at RT
        clear hv hd VT HP HM HFB htl
        go_wp2_with fail
        refine (CT.out _ HS4.out).mono ?_; rintro e y3 ⟨rfl, hb⟩
        have HS5 := Lib.hid (HS4.out.later hb)
        clear hb e0 HS4 CT
        go_wp2_with fail
        refine (RT.out _ HS5.out).mono ?_; rintro e y4 ⟨rfl, hb⟩
        have HS6 := Lib.hid (HS5.out.later (hb.trans ((Below.refl _ _).alloc hb.size (.cells #[.slice none 0 0] 25))))
        clear hb HS5 RT
        go_upto_region 5 with (fail)
        generalize y4.alloc (.cells #[.slice none 0 0] 25) = y5 at *
        have e0 := HS6.out.box.cell 0
        simp at e0
        generalize deepN a = dp at *
        go_wp2_with fail
        refine (CD.out _ HS6.out).mono ?_; rintro e y6 ⟨rfl, hb⟩
        have HS7 := Lib.hid (HS6.out.later hb)
        clear hb e0 HS6 CD
        go_wp2
        go_ret
        exact ⟨rfl, HS7.out.s.bel⟩
end Go.Proofs.YtcgjmnhmhiddkaaGreatDoor
