/- The statement NextFrames of layer 15, walked. -/
import Derived.Test.YtidoofdofdhjpaaM41
import Derived.Test.YtidoofdofdhjpaaM36
namespace Go.Proofs.Ytidoofdofdhjpaa
open Go Go.RowKit
set_option linter.unusedVariables false
set_option linter.unusedSimpArgs false
set_option maxRecDepth 1000000
set_option maxHeartbeats 64000000
theorem wd_fe {l : List Nd} (hR : Rgt l) : ∀ (W : Wd) {k : Int} {L : Brs}, AllB (FeS l k) L -> AllB (FeS l (k - (W.length : Int))) (wdB l W L)
 | [], k, L, h => by
  rw [show k - (([] : Wd).length : Int) = k by simp]; exact h
 | c :: W, k, L, h => by
  have h2 := wd_fe hR W (nx_fe hR (c := c) h)
  rw [show k - ((c :: W).length : Int) = k - 1 - (W.length : Int) by rw [List.length_cons]; omega]
  exact h2
theorem brv_none {v : Value} {w : World} (h : BrV [] v w) : NlV 0 v w := by
 obtain ⟨A, cap, D, rfl, h1⟩ := h
 have : D.length = 0 := by have := congrArg List.length h1.brs; simpa using this
 rw [this]; exact ⟨_, _, rfl⟩
structure NwfS (w0 : World) (A : Option Addr) (l : List Nd) (c : Nat) (Aw : Option Addr) (cw : Nat) (W : Wd) (bf : Nat) (Af : Option Addr) (f : List Nd) (cf : Nat) (P : World -> Prop) (w : World) : Prop where
 d : NwdS w0 A l c Aw cw W (fun _ => True) w
 f : Dx bf Af f f.length cf w
 p : P w
 pl : ∀ w w', P w -> Below w.heap.size w w' -> P w'
section
variable {w0 w w' : World} {A Aw Af : Option Addr} {l f : List Nd} {c cw bf cf : Nat} {W : Wd} {P Q : World -> Prop}
theorem NwfS.later (h : NwfS w0 A l c Aw cw W bf Af f cf P w) (hb : Below w.heap.size w w') : NwfS w0 A l c Aw cw W bf Af f cf P w' := ⟨h.d.later hb, h.f.later hb, h.pl _ _ h.p hb, h.pl⟩
theorem NwfS.add (h : NwfS w0 A l c Aw cw W bf Af f cf P w) (hq : Q w) (hl : ∀ w w', Q w -> Below w.heap.size w w' -> Q w') : NwfS w0 A l c Aw cw W bf Af f cf (fun w => P w /\ Q w) w :=
 ⟨h.d, h.f, ⟨h.p, hq⟩, fun w w' k hb => ⟨h.pl w w' k.1 hb, hl w w' k.2 hb⟩⟩
theorem NwfS.put (h : NwfS w0 A l c Aw cw W bf Af f cf P w) (hq : Q w) (hl : ∀ w w', Q w -> Below w.heap.size w w' -> Q w') : NwfS w0 A l c Aw cw W bf Af f cf Q w := ⟨h.d, h.f, hq, hl⟩
end
def NfrO (w0 : World) (A : Option Addr) (l : List Nd) (c : Nat) (Aw : Option Addr) (cw : Nat) (W : Wd) (bf : Nat) (Af : Option Addr) (f : List Nd) (cf : Nat) (S0 : List Itm) (v i : Value) (w : World) : Prop :=
 ∃ j : Nat, j <= W.length /\ i = .int .i64 (j : Int) /\ BrV (wdB f (W.take j) [(S0, 1)]) v w /\ NwfS w0 A l c Aw cw W bf Af f cf (fun _ => True) w
def NfrM (w0 : World) (A : Option Addr) (l : List Nd) (c : Nat) (Aw : Option Addr) (cw : Nat) (W : Wd) (bf : Nat) (Af : Option Addr) (f : List Nd) (cf : Nat) (u : UInt8) (P : World -> Prop) (D : List HdE) (v i : Value) (w : World) : Prop :=
 ∃ k : Nat, k <= D.length /\ i = .int .i64 (k : Int) /\ BrV (nxB f u ((D.take k).map brS)) v w /\ NwfS w0 A l c Aw cw W bf Af f cf P w
def NfrI (w0 : World) (A : Option Addr) (l : List Nd) (c : Nat) (Aw : Option Addr) (cw : Nat) (W : Wd) (bf : Nat) (Af : Option Addr) (f : List Nd) (cf : Nat) (P : World -> Prop) (F : Brs) (m : Nat) (G : List HdE) (v i : Value) (w : World) : Prop :=
 ∃ k : Nat, k <= G.length /\ i = .int .i64 (k : Int) /\ BrV (fldK F m ((G.take k).map brS)) v w /\ NwfS w0 A l c Aw cw W bf Af f cf P w
def NfrE (w0 : World) (A : Option Addr) (l : List Nd) (c : Nat) (Aw : Option Addr) (cw : Nat) (W : Wd) (bf : Nat) (Af : Option Addr) (f : List Nd) (cf : Nat) (P : World -> Prop) (D : List HdE) (n i : Value) (w : World) : Prop :=
 ∃ k : Nat, k <= D.length /\ i = .int .i64 (k : Int) /\ n = .int .i64 ((enB f ((D.take k).map brS) : Nat) : Int) /\ NwfS w0 A l c Aw cw W bf Af f cf P w
theorem nextframes_walk (l : List Nd) (A : Option Addr) (c : Nat) (W : Wd) (Aw : Option Addr) (cw : Nat) (u : UInt8) (hc1 : l.length <= c) (hl : l.length <= 9223372036854775807) (htx : Txt l) (hwl : W.length <= 9223372036854775807) (w : World) (hrow : NRow w A l) (hwd : WdA w Aw cw W) :
 Calls Try.prog 5 #[.agg #[.slice A l.length c], .slice Aw W.length cw, .int .u8 (u.toNat : Int)] w (Ans w (.bool true)) := by
 have HS := Lib.hid (NwdS.new c hrow hwd)
 have HAW := Lib.hid (fun w => awake15_any w)
 have HTX := Lib.hid htx
 have hn9 : (W.length : Int) <= 9223372036854775807 := by omega
 clear hrow htx hwd
 go_enter Try.func5, Try.ntmps5
 go_upto_region 1 with (fail)
 generalize w.alloc (.cells #[.slice A l.length c] 24) = w1 at HS ⊢
 have e0 := HS.out.box.cell 0
 simp at e0
 go_wp2_with fail
 refine ((HAW.out _)).mono ?_; rintro e w2 ⟨rfl, hb⟩
 have HS2 := Lib.hid (HS.out.later hb)
 clear hb e0 HS
 have HS := HS2
 clear HS2
 have e0 := HS.out.box.cell 0
 simp at e0
 have HF := Lib.hid (few_any l A c hl HTX.out _ HS.out.row)
 cases hf : fewB l with
 | false =>
  rw [hf] at HF
  clear hf
  go_wp2_with fail
  refine ((HF.out)).mono ?_; rintro e w2 ⟨rfl, hb⟩
  have HS2 := Lib.hid (HS.out.later hb)
  clear hb e0 HS
  have HS := HS2
  clear HS2
  have e0 := HS.out.box.cell 0
  simp at e0
  go_wp2_with fail
  refine ((HAW.out _)).mono ?_; rintro e w2 ⟨rfl, hb⟩
  have HS2 := Lib.hid (HS.out.later hb)
  clear hb e0 HS
  have HS := HS2
  clear HS2
  have e0 := HS.out.box.cell 0
  simp at e0
  go_wp2
  go_ret
  exact ⟨rfl, HS.out.bel⟩
 | true =>
  rw [hf] at HF
  have HFT := Lib.hid (few_txt hf)
  clear hf
  go_wp2_with fail
  refine ((HF.out)).mono ?_; rintro e w2 ⟨rfl, hb⟩
  have HS2 := Lib.hid (HS.out.later hb)
  clear hb e0 HS
  have HS := HS2
  clear HS2
  have e0 := HS.out.box.cell 0
  simp at e0
  clear HF
  have HF := Lib.hid (fun w => rft12_any A Aw l.length c W.length cw w hl hwl)
  cases hf : ftB l.length W.length with
  | false =>
   rw [hf] at HF
   clear hf
   go_wp2_with fail
   refine ((HF.out _)).mono ?_; rintro e w2 ⟨rfl, hb⟩
   have HS2 := Lib.hid (HS.out.later hb)
   clear hb e0 HS
   have HS := HS2
   clear HS2
   have e0 := HS.out.box.cell 0
   simp at e0
   go_wp2_with fail
   refine ((HAW.out _)).mono ?_; rintro e w2 ⟨rfl, hb⟩
   have HS2 := Lib.hid (HS.out.later hb)
   clear hb e0 HS
   have HS := HS2
   clear HS2
   have e0 := HS.out.box.cell 0
   simp at e0
   go_wp2
   go_ret
   exact ⟨rfl, HS.out.bel⟩
  | true =>
   rw [hf] at HF
   obtain ⟨hl16, hw8⟩ := ft_iff.1 hf
   clear hf
   go_wp2_with fail
   refine ((HF.out _)).mono ?_; rintro e w2 ⟨rfl, hb⟩
   have HS2 := Lib.hid (HS.out.later hb)
   clear hb e0 HS
   have HS := HS2
   clear HS2
   have e0 := HS.out.box.cell 0
   simp at e0
   clear HF
   have HF := Lib.hid (rright_any l A c hc1 (by omega) HTX.out _ HS.out.row)
   cases hf : rgB l with
   | false =>
    rw [hf] at HF
    clear hf
    go_wp2_with fail
    refine ((HF.out)).mono ?_; rintro e w2 ⟨rfl, hb⟩
    have HS2 := Lib.hid (HS.out.later hb)
    clear hb e0 HS
    have HS := HS2
    clear HS2
    have e0 := HS.out.box.cell 0
    simp at e0
    go_wp2_with fail
    refine ((HAW.out _)).mono ?_; rintro e w2 ⟨rfl, hb⟩
    have HS2 := Lib.hid (HS.out.later hb)
    clear hb e0 HS
    have HS := HS2
    clear HS2
    have e0 := HS.out.box.cell 0
    simp at e0
    go_wp2
    go_ret
    exact ⟨rfl, HS.out.bel⟩
   | true =>
    rw [hf] at HF
    have HR := Lib.hid ((rgB_iff l).1 hf)
    have HPOS : Hid (0 < l.length) := HR.out.1.1
    have HLN := Lib.hid hl16
    have HW8 := Lib.hid hw8
    clear hf
    go_wp2_with fail
    refine ((HF.out)).mono ?_; rintro e w2 ⟨rfl, hb⟩
    have HS2 := Lib.hid (HS.out.later hb)
    clear hb e0 HS
    have HS := HS2
    clear HS2
    have e0 := HS.out.box.cell 0
    simp at e0
    clear HF
    have HFL : Hid ((wrapL 8 0 0 l).length = l.length + 1) := wrapL_ln _ _ _ _
    have HSM : Hid (Sm l) := ⟨HR.out.1, by omega, HTX.out⟩
    have HRF : Hid (Rgt (wrapL 8 0 0 l)) := (rgt_wrap HR.out.1 (wrap_form HR.out.1 (kind := 8) (.inr (.inl rfl)) ⟨rfl, rfl⟩) (by omega)).2 ⟨HR.out, fun hk => by omega⟩
    have HTF : Hid (Txt (wrapL 8 0 0 l)) := (HSM.out.wrap (by omega) (kind := 8) (.inr (.inl rfl))).txt
    have HFW : Hid (enB (wrapL 8 0 0 l) (wdB (wrapL 8 0 0 l) W [(fmS l W.length, 1)]) = rowV l (l.length - 1) W 0 W.length) := by
     unfold Hid; rw [fm_ways HPOS.out HRF.out W (by omega), (wrap_cnts HR.out.1 HRF.out.1).1, ways_min]; rfl
    have HU0 : Hid ((UInt8.ofNat W.length).toNat = W.length) := u8_back (by omega)
    have HON0 : Hid (brsL (onL (wrapL 8 0 0 l) (stL (wrapL 8 0 0 l)) (UInt8.ofNat W.length)) = [(fmS l W.length, 1)]) := by unfold Hid; rw [fm_on, fm_brs, HU0.out]
    have HOK0 : Hid (OkB (wrapL 8 0 0 l) [UInt8.ofNat W.length] [(fmS l W.length, 1)]) := by
     refine ⟨List.pairwise_singleton _ _, (fun a ha => by rw [List.mem_singleton.1 ha]; exact ⟨Nat.le_refl _, by omega⟩), ?_⟩
     have := fm_cds (d := l) HRF.out (c := UInt8.ofNat W.length)
     rw [HU0.out] at this; exact this
    have HFE0 : Hid (AllB (FeS (wrapL 8 0 0 l) (W.length : Int)) [(fmS l W.length, 1)]) := fm_fe HPOS.out (by omega)
    have HS0 : Hid (fmS l W.length = [⟨1, (l.length : Int) - 1, 0, 0⟩, ⟨5, 0, (W.length : Int), 0⟩]) := rfl
    have CALL := Lib.hid (IsD.rwrap (v := .agg #[.slice A l.length c]) ⟨A, c, hc1, rfl, HS.out.row⟩ HSM.out 8 0 0)
    generalize UInt8.ofNat W.length = u0 at *
    generalize fmS l W.length = S0 at *
    generalize wrapL 8 0 0 l = f at *
    have HLF : Hid (f.length <= 17) := by have := HFL.out; unfold Hid; omega
    have HPF : Hid (0 < f.length) := by have := HFL.out; unfold Hid; omega
    go_wp2_with fail
    refine CALL.out.mono ?_; intro e v hp; obtain ⟨s, rfl, ho, hb⟩ := hp
    obtain ⟨Af, cf, hc, hv, hr⟩ := ho.isD
    obtain rfl : s = .slice Af f.length cf := by simpa using hv
    have hbb := hb.trans ((Below.refl _ _).alloc hb.size (.cells #[.slice Af f.length cf] 24))
    have HY : Hid (NwfS w A l c Aw cw W v.heap.size Af f cf (fun _ => True) (v.alloc (.cells #[.slice Af f.length cf] 24))) := ⟨HS.out.later hbb, dx_of hr rfl hc, trivial, fun _ _ _ _ => trivial⟩
    clear CALL ho hb hr hv hc hbb e0 HS
    have HS := HY
    clear HY
    have hwz : (W.length : Int) <= 8 := by have := HW8.out; omega
    go_upto_region 4 with (fail)
    generalize v.alloc (.cells #[.slice Af f.length cf] 24) = w4 at *
    generalize v.heap.size = bf at *
    have HST : Hid (∀ w', Calls Try.prog 21 #[.agg #[.slice Af f.length cf]] w' (fun e w'' => ∃ v, e = .returned v /\ StV (stL f) v w'' /\ Below w'.heap.size w' w'')) := fun w' => start15_any f Af cf (by have := HLF.out; omega) w'
    have HNF : Hid (∀ w' B k, NRow w' Af f -> ItRow w' B (stL f) -> Calls Try.prog 14 #[.agg #[.slice Af f.length cf], .slice B (stL f).length k, .int .u8 (W.length : Int)] w' (fun e w'' => ∃ v, e = .returned v /\ BrV [(S0, 1)] v w'' /\ Below w'.heap.size w' w'')) := fun w' B k h1 h2 => by
     have := on_call (c := cf) (c2 := k) HRF.out (by have := HLF.out; omega) HTF.out u0 (st_form HPF.out) (by unfold stL; simp) h1 h2
     rw [HON0.out, HU0.out] at this; exact this
    refine wp_region_stable (S := (NwfS w A l c Aw cw W bf Af f cf (fun _ => True))) (hSt := fun _ _ h hb => h.later hb) (plan := [[(7, none)], [(7, none)], [(38, some 1)], [(1, none)], [(40, some 3)], [(41, some 4)], [(37, some 0), (39, some 2), (42, some 5)], [(43, some 6)]]) (by kernel_rfl) (by kernel_rfl) (by kernel_rfl) ?hS ?_
    rotate_left
    iterate 2 first
     | (refine chain_skip (by rfl) (by rfl) ?_)
     | (apply chain_want (by rfl)
        ·intro act wx hS hr
         simp at hr
         have e0 := hS.f.load
         go_simp
         (try go_ints)
         first
          | exact Done.same
       )
    (refine chain_rel (StV (stL f)) (StV.later (stL f)) (by rfl) ?_ ?_
     ·intro act wx hS hr
      simp at hr
      have e0 := hS.f.load
      all_goals go_simp
      with_reducible refine Calls.mono (HST.out _) ?_
      rintro e w' ⟨v, rfl, hv, hb⟩
      exact Done.rel hb hv
    )
    iterate 3 first
     | (refine chain_skip (by rfl) (by rfl) ?_)
     | (apply chain_want (by rfl)
        ·intro act wx hS hr
         simp at hr
         have e0 := hS.f.load
         go_simp
         (try go_ints)
         first
          | exact Done.same
       )
    (refine chain_rel (BrV [(S0, 1)]) (BrV.later [(S0, 1)]) (by rfl) ?_ ?_
     ·intro act wx hS hr
      simp at hr
      have e0 := hS.f.load
      obtain ⟨hr1, ⟨u2, hr2, B2, k2, rfl, hk2, hq2⟩, hr3⟩ := hr
      all_goals go_simp
      with_reducible refine Calls.mono (HNF.out _ B2 k2 hS.f.row hq2) ?_
      rintro e w' ⟨v, rfl, hv, hb⟩
      exact Done.rel hb hv
    )
    (refine chain_rel (BrV [(S0, 1)]) (BrV.later [(S0, 1)]) (by rfl) ?_ ?_
     ·intro act wx hS hr
      simp at hr
      have e0 := hS.f.load
      obtain ⟨u3, hr3, hv3⟩ := hr
      all_goals go_simp
      exact Done.rel (Below.refl _ _) hv3
    )
    show ∀ w', _ -> _
    intro wz hz
    simp [Act.put]
    case hS => exact HS.out
    intro _ _ _ _ v7 hv7
    obtain ⟨A5, k5, D5, rfl, q5⟩ := hv7
    obtain ⟨A7, c7, rfl⟩ := one_br q5.brs
    obtain ⟨b5, o5, rfl, -, -⟩ := q5.row 0 (Nat.zero_lt_succ _)
    have f5 := (q5.its ⟨S0, A7, c7, 1⟩ (by simp)) 0 (by rw [HS0.out]; simp)
    obtain ⟨b7, o7, hA7, -, -⟩ := f5
    simp only at hA7
    subst hA7
    have HSL : Hid (S0.length = 2) := by unfold Hid; rw [HS0.out]; rfl
    have HSG : Hid (S0.getD 1 it0 = ⟨5, 0, (W.length : Int), 0⟩) := by unfold Hid; rw [HS0.out]; rfl
    have HS5 : Hid (NwfS w A l c Aw cw W bf Af f cf (fun w => BrA [(S0, 1)] (some ⟨b5, o5, none⟩) [⟨S0, some ⟨b7, o7, none⟩, c7, 1⟩] w) wz) := hz.put q5 (fun _ _ h hb => h.later hb)
    clear hz q5 HS HST HNF HON0
    have HQ2 : Hid (∀ w, (binOp .neq 44 (.agg #[.int .i64 5, .int .i64 0, .int .i64 (W.length : Int), .int .i64 0]) (.agg #[.int .i64 5, .int .i64 0, .int .i64 (W.length : Int), .int .i64 0])).run Try.prog w = .ok (.bool false) w) := fun w => (neq_it ⟨5, 0, (W.length : Int), 0⟩ ⟨5, 0, (W.length : Int), 0⟩ w).trans (by simp)
    have HG2 : Hid (∀ o1 o2 w, (eqGuard .neq 44 o1 o2 (.agg #[.int .i64 5, .int .i64 0, .int .i64 (W.length : Int), .int .i64 0]) (.agg #[.int .i64 5, .int .i64 0, .int .i64 (W.length : Int), .int .i64 0])).run Try.prog w = .ok () w) := fun o1 o2 w => eqGuard_neq_it o1 o2 ⟨5, 0, (W.length : Int), 0⟩ ⟨5, 0, (W.length : Int), 0⟩ w
    go_upto_region 5 with (fail)
    refine wp_region_stable (S := (NwfS w A l c Aw cw W bf Af f cf (fun w => BrA [(S0, 1)] (some ⟨b5, o5, none⟩) [⟨S0, some ⟨b7, o7, none⟩, c7, 1⟩] w))) (hSt := fun _ _ h hb => h.later hb) (plan := [[(8, none)], [(44, some 0)], [(45, some 1)], [(46, some 2)], [(8, none)], [(48, some 4)], [(49, some 5)], [(50, some 6)], [(51, some 7)], [(47, some 3), (52, some 8)], [(53, some 9)], [(8, none)], [(55, some 11)], [(56, some 12)], [(57, some 13)], [(58, some 14)], [(59, some 15)], [(54, some 10), (60, some 16)], [(61, some 17)], [(8, none)], [(63, some 19)], [(64, some 20)], [(65, some 21)], [(66, some 22)], [(67, some 23)], [(1, none)], [(69, some 25)], [(70, some 26)], [(68, some 24), (71, some 27)], [(62, some 18), (72, some 28)]]) (by kernel_rfl) (by kernel_rfl) (by kernel_rfl) ?hS ?_
    rotate_left
    iterate 30 first
     | (refine chain_skip (by rfl) (by rfl) ?_)
     | (apply chain_want (by rfl)
        ·intro act wx hS hr
         simp at hr
         have y0 := br_cell hS.p.row 0 _ rfl
         have s0 := (hS.p.its ⟨S0, some ⟨b7, o7, none⟩, c7, 1⟩ (by simp)).at (i := 1) (by show 1 < S0.length; rw [HSL.out]; omega) rfl
         rw [HSG.out] at s0
         unfold At4 at s0
         simp at y0 s0
         rw [HSL.out] at y0
         obtain ⟨y0, y1⟩ := y0
         obtain ⟨s0, s1, s2, s3⟩ := s0
         have hq2 := HQ2.out
         have hg2 := HG2.out
         go_simp
         (try go_ints)
         first
          | exact Done.same
       )
    show ∀ w', _ -> _
    intro wz hz
    simp [Act.put]
    case hS => exact HS5.out
    have HS6 := Lib.hid (hz.put (Q := fun _ => True) trivial (fun _ _ _ _ => trivial))
    have HO0 : Hid (NfrO w A l c Aw cw W bf Af f cf S0 (.slice (some ⟨b5, o5, none⟩) 1 k5) (.int .i64 0) wz) := ⟨0, Nat.zero_le _, rfl, ⟨_, _, _, rfl, hz.p⟩, HS6.out⟩
    clear HS6 HS5 hz HQ2 HG2 HSL HSG HS0
    go_wp2
    go_loopw [8, 9] (NfrO w A l c Aw cw W bf Af f cf S0) (fun _ i _ => W.length - (intOf i).toNat)
    case atStart => exact HO0.out
    case round =>
     obtain ⟨i, hi, rfl, ⟨AL, kL, D, rfl, hD⟩, hh⟩ := hrel
     have HOK : Hid (OkB f ([u0] ++ W.take i) (D.map brS)) := by
      unfold Hid; rw [hD.brs]
      exact ok_wd HRF.out (W.take i) [u0] HOK0.out
     have HFE : Hid (AllB (FeS f ((W.length : Int) - (i : Int))) (D.map brS)) := by
      unfold Hid; rw [hD.brs]
      have := wd_fe HRF.out (W.take i) HFE0.out
      rwa [show ((W.take i).length : Int) = (i : Int) by rw [List.length_take]; omega] at this
     have HDL : Hid (D.length <= 600000000) := by
      have := HOK.out.few HRF.out.1 (by have := HLF.out; omega) (by rw [List.length_append, List.length_take, List.length_singleton]; omega)
      rw [List.length_map] at this; exact this
     have hdz : (D.length : Int) <= 600000000 := by have := HDL.out; omega
     have HBR : Hid (D.map brS = wdB f (W.take i) [(S0, 1)]) := hD.brs
     have HCP := Lib.hid hD.cap
     have HS := Lib.hid (hh.put (Q := fun w => BrA (wdB f (W.take i) [(S0, 1)]) AL D w) hD (fun _ _ h hb => h.later hb))
     clear hD hh HO0
     by_cases hlt : i < W.length
     ·have hz : (i : Int) < (W.length : Int) := by omega
      have HLT := Lib.hid hlt
      obtain ⟨bw, ow, rfl, hbw, -⟩ := (HS.out.d.wd HW8.out).byte hlt
      have HBY : Hid (∀ w', NwfS w A l c (some ⟨bw, ow, none⟩) cw W bf Af f cf (fun w => BrA (wdB f (W.take i) [(S0, 1)]) AL D w) w' -> w'.cell? ⟨bw, ow + i, none⟩ = some (.int .u8 (((W.getD i 0).toNat : Nat) : Int))) := fun w' h => by
       obtain ⟨b, o, e, -, h2⟩ := (h.d.wd HW8.out).byte hlt
       cases e; exact h2
      have HWS : Hid (wdB f (W.take (i + 1)) [(S0, 1)] = nxB f (W.getD i 0) (D.map brS)) := by unfold Hid; rw [wd_step hlt, HBR.out]
      clear hlt hi hbw
      generalize W.getD i 0 = u at *
      generalize wdB f (W.take i) [(S0, 1)] = TL at *
      have HM0 : Hid (NfrM w A l c (some ⟨bw, ow, none⟩) cw W bf Af f cf u (fun w => BrA TL AL D w) D (.slice none 0 0) (.int .i64 0) wr) := ⟨0, Nat.zero_le _, rfl, brv_nil _, HS.out⟩
      clear HS
      go_wp2
      go_loopw [10, 11] (NfrM w A l c (some ⟨bw, ow, none⟩) cw W bf Af f cf u (fun w => BrA TL AL D w) D) (fun _ i _ => D.length - (intOf i).toNat)
      case atStart => exact HM0.out
      case round =>
       obtain ⟨k, hk, rfl, ⟨AV, kv, DV, rfl, hDV⟩, hh⟩ := hrel
       have HS := Lib.hid hh
       have HV := Lib.hid hDV
       clear hh hDV HM0
       by_cases hlk : k < D.length
       ·have hkz : (k : Int) < (D.length : Int) := by omega
        have HLK := Lib.hid hlk
        have HNS := Lib.hid (nx_step (l := f) (c := u) hlk)
        have HDG := Lib.hid (hd_here hlk)
        have HDM := Lib.hid (hd_mem hlk)
        obtain ⟨⟨hm1, hm2⟩, hcd⟩ := HOK.out.at (hd_mem hlk)
        have hcl := cds_len hcd
        have HOF : Hid (OkB f ([u0] ++ W.take i ++ [u]) (nxB f u ((D.take k).map brS))) := ok_nx HRF.out HOK.out k
        have HOG : Hid (OkB f ([u0] ++ W.take i ++ [u]) (brsL (onL f (D.getD k hd0).s u))) := ok_on HRF.out hcd
        have HGF : Hid ((brsL (onL f (D.getD k hd0).s u)).length <= 5000) := on_few HRF.out hcd.1 (by have := HLF.out; omega) (by have := HLF.out; omega) u
        have HOC : Hid (∀ w', NRow w' Af f -> ItRow w' (D.getD k hd0).A (D.getD k hd0).s -> Calls Try.prog 14 #[.agg #[.slice Af f.length cf], .slice (D.getD k hd0).A (D.getD k hd0).s.length (D.getD k hd0).cap, .int .u8 (u.toNat : Int)] w' (fun e w'' => ∃ v, e = .returned v /\ BrV (brsL (onL f (D.getD k hd0).s u)) v w'' /\ Below w'.heap.size w' w'')) := fun w' h1 h2 => on_call HRF.out (by have := HLF.out; omega) HTF.out u hcd.1 (by have := HLF.out; omega) h1 h2
        have hfe : FeS f ((W.length : Int) - (i : Int)) (D.getD k hd0).s := HFE.out _ (List.mem_map_of_mem (hd_mem hlk))
        have HEC : Hid (∀ w', NRow w' Af f -> ItRow w' (D.getD k hd0).A (D.getD k hd0).s -> Calls Try.prog 22 #[.agg #[.slice Af f.length cf], .slice (D.getD k hd0).A (D.getD k hd0).s.length (D.getD k hd0).cap] w' (Ans w' (.int .i64 0))) := fun w' h1 h2 => by
         have := nxEnds_any f Af cf (D.getD k hd0).s (D.getD k hd0).A (D.getD k hd0).cap HRF.out (by have := HLF.out; omega) HTF.out hcd.1 (by have := HLF.out; omega) w' h1 h2
         rw [end_none HRF.out hfe.1 hfe.2 (by have := HLT.out; omega)] at this; exact this
        clear hfe
        have HUL : Hid (([u0] ++ W.take i ++ [u]).length <= 9) := by
         unfold Hid; rw [List.length_append, List.length_append, List.length_take, List.length_singleton, List.length_singleton]; have := HW8.out; have := HLT.out; omega
        obtain ⟨bl, ol, rfl, -, -⟩ := HS.out.p.row k hlk
        clear hlk hk hcd hcl
        generalize D.getD k hd0 = d at *
        generalize brsL (onL f d.s u) = TG at *
        generalize nxB f u ((D.take k).map brS) = F at *
        generalize [u0] ++ W.take i ++ [u] = uu at *
        have HSV := Lib.hid (HS.out.add (Q := fun w => BrA F AV DV w) HV.out (fun _ _ h hb => h.later hb))
        clear HS HV
        go_upto_region 14 with (fail)
        refine wp_region_stable (S := (NwfS w A l c (some ⟨bw, ow, none⟩) cw W bf Af f cf (fun w => BrA TL (some ⟨bl, ol, none⟩) D w /\ BrA F AV DV w))) (hSt := fun _ _ h hb => h.later hb) (plan := [[(7, none)], [(8, none)], [(11, none)], [(87, some 1), (88, some 2)], [(89, some 3)], [(90, some 4)], [(86, some 0), (91, some 5)], [(92, some 6)]]) (by kernel_rfl) (by kernel_rfl) (by kernel_rfl) ?hS ?_
        rotate_left
        iterate 8 first
         | (refine chain_skip (by rfl) (by rfl) ?_)
         | (apply chain_want (by rfl)
            ·intro act wx hS hr
             simp at hr
             have e0 := hS.f.load
             obtain ⟨x0, x1⟩ := br_cell hS.p.1.row k d HDG.out
             go_simp
             (try go_ints)
             first
              | ((with_reducible refine (HEC.out _ hS.f.row (hS.p.1.its _ HDM.out)).mono ?_); rintro e w' ⟨rfl, hb⟩; exact Done.mk hb)
              | exact Done.same
           )
        show ∀ w', _ -> _
        intro w14 hz14
        simp [Act.put]
        case hS => exact HSV.out
        have HSV2 := Lib.hid hz14
        clear hz14 HSV HEC
        have HSV := HSV2
        clear HSV2
        go_upto_region 16 with (fail)
        refine wp_region_stable (S := (NwfS w A l c (some ⟨bw, ow, none⟩) cw W bf Af f cf (fun w => BrA TL (some ⟨bl, ol, none⟩) D w /\ BrA F AV DV w))) (hSt := fun _ _ h hb => h.later hb) (plan := [[(7, none)], [(8, none)], [(11, none)], [(95, some 1), (96, some 2)], [(97, some 3)], [(98, some 4)], [(1, none)], [(9, none)], [(100, some 6), (101, some 7)], [(102, some 8)], [(94, some 0), (99, some 5), (103, some 9)], [(104, some 10)]]) (by kernel_rfl) (by kernel_rfl) (by kernel_rfl) ?hS ?_
        rotate_left
        iterate 10 first
         | (refine chain_skip (by rfl) (by rfl) ?_)
         | (apply chain_want (by rfl)
            ·intro act wx hS hr
             simp at hr
             have e0 := hS.f.load
             obtain ⟨x0, x1⟩ := br_cell hS.p.1.row k d HDG.out
             have by0 := HBY.out _ (hS.put hS.p.1 (fun _ _ h hb => h.later hb))
             go_simp
             (try go_ints)
             first
              | exact Done.same
           )
        (refine chain_rel (BrV TG) (BrV.later TG) (by rfl) ?_ ?_
         ·intro act wx hS hr
          simp at hr
          have e0 := hS.f.load
          obtain ⟨x0, x1⟩ := br_cell hS.p.1.row k d HDG.out
          have by0 := HBY.out _ (hS.put hS.p.1 (fun _ _ h hb => h.later hb))
          all_goals go_simp
          with_reducible refine Calls.mono (HOC.out _ hS.f.row (hS.p.1.its _ HDM.out)) ?_
          rintro e w' ⟨v, rfl, hv, hb⟩
          exact Done.rel hb hv
        )
        (refine chain_rel (BrV TG) (BrV.later TG) (by rfl) ?_ ?_
         ·intro act wx hS hr
          simp at hr
          have e0 := hS.f.load
          obtain ⟨x0, x1⟩ := br_cell hS.p.1.row k d HDG.out
          have by0 := HBY.out _ (hS.put hS.p.1 (fun _ _ h hb => h.later hb))
          obtain ⟨u3, hr3, hv3⟩ := hr
          all_goals go_simp
          exact Done.rel (Below.refl _ _) hv3
        )
        show ∀ w', _ -> _
        intro wz hz
        simp [Act.put]
        case hS => exact HSV.out
        intro _ _ v11 hv11
        obtain ⟨AG, kg, G, rfl, hG⟩ := hv11
        have HV := Lib.hid hz.p.2
        have HGB : Hid (G.map brS = TG) := hG.brs
        have HGC := Lib.hid hG.cap
        have HGL : Hid (G.length <= 5000) := by
         have h1 := congrArg List.length hG.brs
         rw [List.length_map] at h1
         have := HGF.out; unfold Hid; omega
        have HS := Lib.hid (hz.put (Q := fun w => BrA TL (some ⟨bl, ol, none⟩) D w /\ BrA TG AG G w) ⟨hz.p.1, hG⟩ (fun _ _ h hb => ⟨h.1.later hb, h.2.later hb⟩))
        rw [<- HGB.out] at HOG HNS
        clear hz hG HSV HOC HGF
        have hdgz : (G.length : Int) <= 5000 := by have := HGL.out; omega
        have HI0 : Hid (NfrI w A l c (some ⟨bw, ow, none⟩) cw W bf Af f cf (fun w => BrA TL (some ⟨bl, ol, none⟩) D w /\ BrA TG AG G w) F d.many G (.slice AV DV.length kv) (.int .i64 0) wz) := ⟨0, Nat.zero_le _, rfl, ⟨AV, kv, DV, rfl, HV.out⟩, HS.out⟩
        clear HV HS
        go_wp2
        go_loopw [10, 13] (NfrI w A l c (some ⟨bw, ow, none⟩) cw W bf Af f cf (fun w => BrA TL (some ⟨bl, ol, none⟩) D w /\ BrA TG AG G w) F d.many G) (fun _ i _ => G.length - (intOf i).toNat)
        case atStart => exact HI0.out
        case round =>
         obtain ⟨j, hj, rfl, ⟨AC, kc, DC, rfl, hDC⟩, hh⟩ := hrel
         have HS := Lib.hid hh
         clear hh HI0
         by_cases hlj : j < G.length
         ·have hjz : (j : Int) < (G.length : Int) := by omega
          have HLJ := Lib.hid hlj
          have HSK := Lib.hid (fldK_step (F := F) (m := d.many) hlj)
          have HGH := Lib.hid (hd_here hlj)
          have HGM := Lib.hid (hd_mem hlj)
          obtain ⟨hg1, hg2⟩ := HGC.out _ (hd_mem hlj)
          obtain ⟨⟨hg3, hg4⟩, -⟩ := HOG.out.at (hd_mem hlj)
          have hok := ok_fld hm1 HOF.out HOG.out j
          have HCL : Hid (DC.length <= 600000000) := by
           have h1 := congrArg List.length hDC.brs
           rw [List.length_map] at h1
           have := hok.few HRF.out.1 (by have := HLF.out; omega) HUL.out
           unfold Hid; omega
          obtain ⟨bg, og, rfl, -, -⟩ := HS.out.p.2.row j hlj
          have HSC := Lib.hid (HS.out.add (Q := fun w => BrA (fldK F d.many ((G.take j).map brS)) AC DC w) hDC (fun _ _ h hb => h.later hb))
          have HOKC := Lib.hid hok
          clear hok hDC HS hlj hj
          generalize G.getD j hd0 = g at *
          generalize fldK F d.many ((G.take j).map brS) = TC at *
          obtain ⟨p, hp⟩ : ∃ p, d.many * g.many = p := ⟨_, rfl⟩
          have hp4 : p <= 4 := by rw [<- hp]; exact Nat.mul_le_mul hm2 hg4
          have hp1 : 1 <= p := by rw [<- hp]; exact Nat.mul_le_mul hm1 hg3
          have hpz : (d.many : Int) * (g.many : Int) = (p : Int) := by rw [<- hp]; exact (Int.natCast_mul _ _).symm
          rw [hp] at HSK
          obtain ⟨q, hq⟩ : ∃ q, min 2 p = q := ⟨_, rfl⟩
          have hqz : min (2 : Int) (p : Int) = (q : Int) := by omega
          rw [hq] at HSK
          have HAD : Hid (∀ w', BrA TC AC DC w' -> ItRow w' g.A g.s -> Calls Try.prog 23 #[.slice AC DC.length kc, .slice g.A g.s.length g.cap, .int .i64 (q : Int)] w' (AddO (addB TC g.s q) w')) := fun w' h1 h2 => radd14_any TC AC DC kc g.s g.A g.cap q HOKC.out.srt HOKC.out.pos (by have := HCL.out; omega) (by omega) (by omega) hg1 hg2 w' h1 h2
          clear hg1 hg2 hg3 hg4 hp hq
          go_upto_region 20 with (fail)
          refine wp_region_stable (S := (NwfS w A l c (some ⟨bw, ow, none⟩) cw W bf Af f cf (fun w => (BrA TL (some ⟨bl, ol, none⟩) D w /\ BrA TG (some ⟨bg, og, none⟩) G w) /\ BrA TC AC DC w))) (hSt := fun _ _ h hb => h.later hb) (plan := [[(10, none)], [(12, none)], [(13, none)], [(112, some 1), (113, some 2)], [(114, some 3)], [(115, some 4)], [(8, none)], [(11, none)], [(117, some 6), (118, some 7)], [(119, some 8)], [(120, some 9)], [(12, none)], [(13, none)], [(122, some 11), (123, some 12)], [(124, some 13)], [(125, some 14)], [(121, some 10), (126, some 15)], [(127, some 16)], [(111, some 0), (116, some 5), (128, some 17)], [(129, some 18)]]) (by kernel_rfl) (by kernel_rfl) (by kernel_rfl) ?hS ?_
          rotate_left
          iterate 18 first
           | (refine chain_skip (by rfl) (by rfl) ?_)
           | (apply chain_want (by rfl)
              ·intro act wx hS hr
               simp at hr
               obtain ⟨x0, x1⟩ := br_cell hS.p.1.1.row k d HDG.out
               obtain ⟨y0, y1⟩ := br_cell hS.p.1.2.row j g HGH.out
               go_simp
               (try go_ints)
               first
                | exact Done.same
             )
          (refine chain_rel (BrV (addB TC g.s q)) (BrV.later (addB TC g.s q)) (by rfl) ?_ ?_
           ·intro act wx hS hr
            simp at hr
            obtain ⟨x0, x1⟩ := br_cell hS.p.1.1.row k d HDG.out
            obtain ⟨y0, y1⟩ := br_cell hS.p.1.2.row j g HGH.out
            all_goals go_simp
            with_reducible refine Calls.mono (HAD.out _ hS.p.2 (hS.p.1.2.its _ HGM.out)) ?_
            rintro e w' ⟨v, rfl, hv, hb⟩
            exact Done.rel hb hv
          )
          (refine chain_rel (BrV (addB TC g.s q)) (BrV.later (addB TC g.s q)) (by rfl) ?_ ?_
           ·intro act wx hS hr
            simp at hr
            obtain ⟨x0, x1⟩ := br_cell hS.p.1.1.row k d HDG.out
            obtain ⟨y0, y1⟩ := br_cell hS.p.1.2.row j g HGH.out
            obtain ⟨u3, hr3, hv3⟩ := hr
            all_goals go_simp
            exact Done.rel (Below.refl _ _) hv3
          )
          show ∀ w', _ -> _
          intro wz hz
          simp [Act.put]
          case hS => exact HSC.out
          intro _ _ v19 hv19
          have HSN := Lib.hid (hz.put (Q := fun w => BrA TL (some ⟨bl, ol, none⟩) D w /\ BrA TG (some ⟨bg, og, none⟩) G w) hz.p.1 (fun _ _ h hb => ⟨h.1.later hb, h.2.later hb⟩))
          have HVN : Hid (BrV (fldK F d.many ((G.take (j + 1)).map brS)) v19 wz) := by rw [HSK.out]; exact hv19
          clear hz hv19 HSC HAD hpz hqz hp4 hp1
          go_wp2
          go_roundw
          case rel => exact ⟨j + 1, HLJ.out, by go_num, HVN.out, HSN.out⟩
          case measure => have := HLJ.out; simp [intOf] <;> omega
         ·obtain rfl : j = G.length := by omega
          have hjz : ¬ ((G.length : Nat) : Int) < (G.length : Int) := by omega
          have HVN : Hid (BrV (nxB f u ((D.take (k + 1)).map brS)) (.slice AC DC.length kc) wr) := by
           have h1 := hDC
           rw [show G.take G.length = G from List.take_length] at h1
           rw [HNS.out]
           exact ⟨AC, kc, DC, rfl, h1⟩
          have HSN := Lib.hid (HS.out.put (Q := fun w => BrA TL (some ⟨bl, ol, none⟩) D w) HS.out.p.1 (fun _ _ h hb => h.later hb))
          clear hDC HS hlj hj
          go_wp2
          go_roundw
          case rel => exact ⟨k + 1, HLK.out, by go_num, HVN.out, HSN.out⟩
          case measure => have := HLK.out; simp [intOf] <;> omega
       ·obtain rfl : k = D.length := by omega
        have hkz : ¬ ((D.length : Nat) : Int) < (D.length : Int) := by omega
        have HVN : Hid (BrV (wdB f (W.take (i + 1)) [(S0, 1)]) (.slice AV DV.length kv) wr) := by
         have h1 := HV.out
         rw [show D.take D.length = D from List.take_length] at h1
         rw [HWS.out]
         exact ⟨AV, kv, DV, rfl, h1⟩
        have HSN := Lib.hid (HS.out.put (Q := fun _ => True) trivial (fun _ _ _ _ => trivial))
        clear HS HV hlk hk
        go_wp2
        go_roundw
        case rel => exact ⟨i + 1, HLT.out, by go_num, HVN.out, HSN.out⟩
        case measure => have := HLT.out; simp [intOf] <;> omega
     ·obtain rfl : i = W.length := by omega
      have hz : ¬ ((W.length : Nat) : Int) < (W.length : Int) := by omega
      have HEN : Hid (enB f (D.map brS) = rowV l (l.length - 1) W 0 W.length) := by
       unfold Hid
       rw [HBR.out, List.take_length]; exact HFW.out
      have HW : Hid (∀ w', NRow w' A l -> IsW W (.slice Aw W.length cw) w' -> Calls Try.prog 24 #[.agg #[.slice A l.length c], .slice Aw W.length cw] w' (Ans w' (.int .i64 ((rowV l (l.length - 1) W 0 W.length : Nat) : Int)))) := fun w' h1 h2 => rways12_any HR.out.1 (fun n hn => by have := HFT.out.2 n hn; omega) (by have := HLN.out; omega) (.slice Aw W.length cw) W w' h1 h2 (by have := HW8.out; omega)
      have HE0 : Hid (NfrE w A l c Aw cw W bf Af f cf (fun w => BrA (wdB f (W.take W.length) [(S0, 1)]) AL D w) D (.int .i64 0) (.int .i64 0) wr) := ⟨0, Nat.zero_le _, rfl, rfl, HS.out⟩
      clear hlt hi HS
      go_wp2
      go_loopw [14, 15] (NfrE w A l c Aw cw W bf Af f cf (fun w => BrA (wdB f (W.take W.length) [(S0, 1)]) AL D w) D) (fun _ i _ => D.length - (intOf i).toNat)
      case atStart => exact HE0.out
      case round =>
       obtain ⟨k, hk, rfl, rfl, hh⟩ := hrel
       have HS := Lib.hid hh
       clear hh HE0
       by_cases hlk : k < D.length
       ·have hkz : (k : Int) < (D.length : Int) := by omega
        have HLK := Lib.hid hlk
        have HST := Lib.hid (en_step (l := f) hlk)
        have HDG := Lib.hid (hd_here hlk)
        have HDM := Lib.hid (hd_mem hlk)
        obtain ⟨⟨hm1, hm2⟩, hcd⟩ := HOK.out.at (hd_mem hlk)
        have hcl := cds_len hcd
        have he2 : mnyB (hdsL f (D.getD k hd0).s) [] <= 2 := mny_two (hds_pos f _) []
        have hn2 : enB f ((D.take k).map brS) <= 2 := en_two _ 0 (by omega)
        have HEC : Hid (∀ w', NRow w' Af f -> ItRow w' (D.getD k hd0).A (D.getD k hd0).s -> Calls Try.prog 22 #[.agg #[.slice Af f.length cf], .slice (D.getD k hd0).A (D.getD k hd0).s.length (D.getD k hd0).cap] w' (Ans w' (.int .i64 ((mnyB (hdsL f (D.getD k hd0).s) [] : Nat) : Int)))) := fun w' h1 h2 => nxEnds_any f Af cf (D.getD k hd0).s (D.getD k hd0).A (D.getD k hd0).cap HRF.out (by have := HLF.out; omega) HTF.out hcd.1 (by have := HLF.out; omega) w' h1 h2
        have hfe : FeS f ((W.length : Int) - ((W.length : Nat) : Int)) (D.getD k hd0).s := HFE.out _ (List.mem_map_of_mem (hd_mem hlk))
        have HOM : Hid (∀ w', NRow w' Af f -> ItRow w' (D.getD k hd0).A (D.getD k hd0).s -> Calls Try.prog 14 #[.agg #[.slice Af f.length cf], .slice (D.getD k hd0).A (D.getD k hd0).s.length (D.getD k hd0).cap, .int .u8 (u.toNat : Int)] w' (fun e w'' => ∃ v, e = .returned v /\ NlV 0 v w'' /\ Below w'.heap.size w' w'')) := fun w' h1 h2 => by
         have h3 : EndS 0 (D.getD k hd0).s := by
          have := hfe.2
          rwa [show ((W.length : Int) - ((W.length : Nat) : Int)) = 0 by omega] at this
         refine (on_call HRF.out (by have := HLF.out; omega) HTF.out u hcd.1 (by have := HLF.out; omega) h1 h2).mono ?_
         rintro e w'' ⟨v, rfl, hv, hb⟩
         rw [on_shut HRF.out hfe.1 h3] at hv
         exact ⟨_, rfl, brv_none hv, hb⟩
        clear hfe
        obtain ⟨bl, ol, rfl, -, -⟩ := HS.out.p.row k hlk
        clear hlk hk hcd hcl
        generalize D.getD k hd0 = d at *
        generalize mnyB (hdsL f d.s) [] = e at *
        generalize enB f ((D.take k).map brS) = n at *
        obtain ⟨p, hp⟩ : ∃ p, d.many * e = p := ⟨_, rfl⟩
        have hp4 : p <= 4 := by rw [<- hp]; exact Nat.mul_le_mul hm2 he2
        have hpz : (d.many : Int) * (e : Int) = (p : Int) := by rw [<- hp]; exact (Int.natCast_mul _ _).symm
        rw [hp] at HST
        obtain ⟨q, hq⟩ : ∃ q, min 2 (n + p) = q := ⟨_, rfl⟩
        have hqz : min (2 : Int) ((n : Int) + (p : Int)) = (q : Int) := by omega
        rw [hq] at HST
        clear hp hq hm1 hm2 he2
        go_upto_region 26 with (fail)
        refine wp_region_stable (S := (NwfS w A l c Aw cw W bf Af f cf (fun w => BrA (wdB f (W.take W.length) [(S0, 1)]) (some ⟨bl, ol, none⟩) D w))) (hSt := fun _ _ h hb => h.later hb) (plan := [[(14, none)], [(8, none)], [(15, none)], [(138, some 1), (139, some 2)], [(140, some 3)], [(141, some 4)], [(7, none)], [(8, none)], [(15, none)], [(144, some 7), (145, some 8)], [(146, some 9)], [(147, some 10)], [(143, some 6), (148, some 11)], [(142, some 5), (149, some 12)], [(137, some 0), (150, some 13)], [(151, some 14)], [(152, some 15)]]) (by kernel_rfl) (by kernel_rfl) (by kernel_rfl) ?hS ?_
        rotate_left
        iterate 17 first
         | (refine chain_skip (by rfl) (by rfl) ?_)
         | (apply chain_want (by rfl)
            ·intro act wx hS hr
             simp at hr
             have e0 := hS.f.load
             obtain ⟨x0, x1⟩ := br_cell hS.p.row k d HDG.out
             go_simp
             (try go_ints)
             first
              | ((with_reducible refine (HEC.out _ hS.f.row (hS.p.its _ HDM.out)).mono ?_); rintro e w' ⟨rfl, hb⟩; exact Done.mk hb)
              | exact Done.same
           )
        show ∀ w', _ -> _
        intro wz hz
        simp [Act.put]
        case hS => exact HS.out
        have HZ := Lib.hid hz
        clear hz HS HEC hpz hqz
        go_upto_region 27 with (fail)
        refine wp_region_stable (S := (NwfS w A l c Aw cw W bf Af f cf (fun w => BrA (wdB f (W.take W.length) [(S0, 1)]) (some ⟨bl, ol, none⟩) D w))) (hSt := fun _ _ h hb => h.later hb) (plan := [[(7, none)], [(8, none)], [(15, none)], [(154, some 1), (155, some 2)], [(156, some 3)], [(157, some 4)], [(2, none)], [(153, some 0), (158, some 5), (159, some 6)], [(160, some 7)], [(161, some 8)]]) (by kernel_rfl) (by kernel_rfl) (by kernel_rfl) ?hS ?_
        rotate_left
        iterate 7 first
         | (refine chain_skip (by rfl) (by rfl) ?_)
         | (apply chain_want (by rfl)
            ·intro act wx hS hr
             simp at hr
             have e0 := hS.f.load
             obtain ⟨x0, x1⟩ := br_cell hS.p.row k d HDG.out
             go_simp
             (try go_ints)
             first
              | (obtain ⟨v, hr, A, k, rfl⟩ := hr; simp only [hr, Option.getD_some]; go_simp; exact Done.same)
              | exact Done.same
           )
        (refine chain_rel (NlV 0) (NlV.later 0) (by rfl) ?_ ?_
         ·intro act wx hS hr
          simp at hr
          have e0 := hS.f.load
          obtain ⟨x0, x1⟩ := br_cell hS.p.row k d HDG.out
          all_goals go_simp
          with_reducible refine Calls.mono (HOM.out _ hS.f.row (hS.p.its _ HDM.out)) ?_
          rintro e w' ⟨v, rfl, hv, hb⟩
          exact Done.rel hb hv
        )
        iterate 2 first
         | (refine chain_skip (by rfl) (by rfl) ?_)
         | (apply chain_want (by rfl)
            ·intro act wx hS hr
             simp at hr
             have e0 := hS.f.load
             obtain ⟨x0, x1⟩ := br_cell hS.p.row k d HDG.out
             go_simp
             (try go_ints)
             first
              | (obtain ⟨v, hr, A, k, rfl⟩ := hr; simp only [hr, Option.getD_some]; go_simp; exact Done.same)
              | exact Done.same
           )
        show ∀ w', _ -> _
        intro w27 hz27
        simp [Act.put]
        case hS => exact HZ.out
        intro _ _
        have HZ2 := Lib.hid hz27
        clear hz27 HZ HOM
        have HZ := HZ2
        clear HZ2
        go_wp2
        go_roundw
        case rel => exact ⟨k + 1, HLK.out, by go_num, by rw [HST.out], HZ.out⟩
        case measure => have := HLK.out; simp [intOf] <;> omega
       ·obtain rfl : k = D.length := by omega
        have hkz : ¬ ((D.length : Nat) : Int) < (D.length : Int) := by omega
        have e0 := HS.out.d.box.cell 0
        simp at e0
        have HNN : Hid (enB f ((D.take D.length).map brS) = rowV l (l.length - 1) W 0 W.length) := by
         unfold Hid; rw [show D.take D.length = D from List.take_length]; exact HEN.out
        rw [HNN.out]
        clear HNN HEN
        have HW1 := Lib.hid (HW.out _ HS.out.d.row (HS.out.d.wd HW8.out))
        generalize rowV l (l.length - 1) W 0 W.length = N at *
        clear hlk hk HW
        go_wp2_with fail
        refine HW1.out.mono ?_; rintro e w5 ⟨rfl, hb⟩
        have HB := Lib.hid ((HS.out.later hb).d.bel)
        clear hb
        go_wp2
        go_ret
        exact ⟨by simp, HB.out⟩
theorem nextframes_row (l : List Nd) (A : Option Addr) (c : Nat) (W : Wd) (Aw : Option Addr) (cw : Nat) (a : Nat) (ha : a < 256) (hc1 : l.length <= c) (hl : l.length <= 9223372036854775807) (htx : Txt l) (hwl : W.length <= 9223372036854775807) (w : World) (hrow : NRow w A l) (hwd : WdA w Aw cw W) :
 Calls Try.prog 5 #[.agg #[.slice A l.length c], .slice Aw W.length cw, .int .u8 (a : Int)] w (Ans w (.bool true)) := by
 have h := nextframes_walk l A c W Aw cw (UInt8.ofNat a) hc1 hl htx hwl w hrow hwd
 rw [u8_back ha] at h
 exact h
end Go.Proofs.Ytidoofdofdhjpaa
