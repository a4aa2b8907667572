/- The statement NextFrames: a frame's first byte, and its word. -/
import Derived.Test.YtidoofdofdhjpaaM44
import Derived.Test.YtidoofdofdhjpaaM52
namespace Go.Proofs.Ytidoofdofdhjpaa
open Go
set_option linter.unusedVariables false
set_option linter.unusedSimpArgs false

theorem fm_brs (s : List Itm) : brsL [s] = [(s, 1)] := by unfold brsL brsF; simp [addB]
end Go.Proofs.Ytidoofdofdhjpaa
/- What NextForms asks: the plain mathematics. -/
namespace Go.Proofs.Ytidoofdofdhjpaa
open Go
set_option linter.unusedVariables false
set_option linter.unusedSimpArgs false

/-- Is an end 0 ahead? -/
def shI (x : Itm) : Bool := (x.kind == 5) && (x.lo == 0)
def shS (s : List Itm) (k : Nat) : Bool := ((s.take k).drop 1).any shI
theorem sh_one (s : List Itm) : shS s 1 = false := by
  unfold shS
  cases s <;> simp
theorem sh_step {s : List Itm} {k : Nat} (h1 : 1 ≤ k) (hk : k < s.length) : shS s (k + 1) = (shS s k || shI (s.getD k it0)) := by
  unfold shS
  rw [List.take_add_one, List.getElem?_eq_getElem hk, List.drop_append_of_le_length (by rw [List.length_take]; omega), List.any_append, List.getD_eq_getElem?_getD, List.getElem?_eq_getElem hk]
  simp
/-- What is ready is read to one state at most. -/
theorem on_one {l : List Nd} {s : List Itm} {c : UInt8} (h : rdyS l s = true) : brsL (onL l s c) = match rdS l s c with | none => [] | some q => [(q, 1)] := by
  unfold onL
  rw [rch_ready h]
  cases hr : rdS l s c with
  | none => simp [hr]; rfl
  | some q => simp [hr]; exact fm_brs q
theorem on_one_len {l : List Nd} {s : List Itm} {c : UInt8} (h : rdyS l s = true) : (decide ((brsL (onL l s c)).length = 1)) = (rdS l s c).isSome := by
  rw [on_one h]
  cases rdS l s c <;> simp
theorem sh_read {l : List Nd} {s : List Itm} {c : UInt8} (h : shS s s.length = true) : (rdS l s c).isSome = false := by
  cases s with
  | nil => simp [shS] at h
  | cons x r =>
    unfold shS at h
    rw [List.take_length, List.drop_one, List.tail_cons] at h
    obtain ⟨y, hy, hs⟩ := List.any_eq_true.1 h
    have hl : lowS r = none := by
      unfold lowS
      rw [if_neg]
      intro hall
      have h1 := List.all_eq_true.1 hall y hy
      unfold maylow at h1
      unfold shI at hs
      simp at h1 hs
      omega
    show ((lowS r).bind fun q => (frS l x c).map fun f => f ++ q).isSome = false
    rw [hl]; rfl
end Go.Proofs.Ytidoofdofdhjpaa
/- The statement NextForms of layer 15, walked. -/
namespace Go.Proofs.Ytidoofdofdhjpaa
open Go Go.RowKit
set_option linter.unusedVariables false
set_option linter.unusedSimpArgs false
set_option maxRecDepth 1000000
set_option maxHeartbeats 64000000

def NxfL (w0 : World) (A : Option Addr) (l : List Nd) (c : Nat) (B : Option Addr) (s : List Itm) (P : World → Prop) (n : Nat) (i : Value) (w : World) : Prop :=
  ∃ j : Nat, j ≤ n ∧ i = .int .i64 (j : Int) ∧ NxvS w0 A l c B s P w
def NxfM (w0 : World) (A : Option Addr) (l : List Nd) (c : Nat) (B : Option Addr) (s : List Itm) (P : World → Prop) (sh i : Value) (w : World) : Prop :=
  ∃ j : Nat, 1 ≤ j ∧ (j ≤ s.length ∨ j = 1) ∧ i = .int .i64 (j : Int) ∧ sh = .bool (shS s j) ∧ NxvS w0 A l c B s P w
theorem nextforms_walk (l : List Nd) (A : Option Addr) (c : Nat) (s : List Itm) (B : Option Addr) (c2 : Nat) (u : UInt8) (hc1 : l.length ≤ c) (hl : l.length ≤ 9223372036854775807) (htx : Txt l) (h1 : s.length ≤ 9223372036854775807) (hc2 : s.length ≤ c2) (w : World) (hrow : NRow w A l) (hs : ItRow w B s) :
    Calls Try.prog 4 #[.agg #[.slice A l.length c], .slice B s.length c2, .int .u8 (u.toNat : Int)] w (Ans w (.bool true)) := by
  have HS : Hid (HtwS w A l c B s (w.alloc (.cells #[.slice A l.length c] 24))) := HtwS.new c hrow hs
  have HAW := Lib.hid (fun w => awake15_any w)
  have HTX := Lib.hid htx
  have HL9 := Lib.hid h1
  have HC2 := Lib.hid hc2
  clear hrow hs htx h1 hc2
  go_enter Try.func4, Try.ntmps4
  go_upto_region 1 with (fail)
  generalize w.alloc (.cells #[.slice A l.length c] 24) = w1 at HS ⊢
  have e0 := HS.out.f.box.cell 0
  simp at e0
  go_wp2_with fail
  refine ((HAW.out _)).mono ?_; rintro e w2 ⟨rfl, hb⟩
  have HS2 := Lib.hid (HS.out.later hb)
  clear hb e0 HS
  have HS := HS2
  clear HS2
  have e0 := HS.out.f.box.cell 0
  simp at e0
  have HF := Lib.hid (few_any l A c hl HTX.out _ HS.out.f.row)
  cases hf : fewB l with
  | false =>
    rw [hf] at HF
    clear hf
    go_wp2_with fail
    refine ((HF.out)).mono ?_; rintro e w2 ⟨rfl, hb⟩
    have HS2 := Lib.hid (HS.out.later hb)
    clear hb e0 HS
    have HS := HS2
    clear HS2
    have e0 := HS.out.f.box.cell 0
    simp at e0
    go_wp2_with fail
    refine ((HAW.out _)).mono ?_; rintro e w2 ⟨rfl, hb⟩
    have HS2 := Lib.hid (HS.out.later hb)
    clear hb e0 HS
    have HS := HS2
    clear HS2
    have e0 := HS.out.f.box.cell 0
    simp at e0
    go_wp2
    go_ret
    exact ⟨rfl, HS.out.f.bel⟩
  | true =>
    rw [hf] at HF
    have L1 := Lib.hid (few_txt hf).1
    clear hf
    go_wp2_with fail
    refine ((HF.out)).mono ?_; rintro e w2 ⟨rfl, hb⟩
    have HS2 := Lib.hid (HS.out.later hb)
    clear hb e0 HS
    have HS := HS2
    clear HS2
    have e0 := HS.out.f.box.cell 0
    simp at e0
    clear HF
    have HF := Lib.hid (rright_any l A c hc1 (by have := L1.out; omega) HTX.out _ HS.out.f.row)
    cases hf : rgB l with
    | false =>
      rw [hf] at HF
      clear hf
      go_wp2_with fail
      refine ((HF.out)).mono ?_; rintro e w2 ⟨rfl, hb⟩
      have HS2 := Lib.hid (HS.out.later hb)
      clear hb e0 HS
      have HS := HS2
      clear HS2
      have e0 := HS.out.f.box.cell 0
      simp at e0
      go_wp2_with fail
      refine ((HAW.out _)).mono ?_; rintro e w2 ⟨rfl, hb⟩
      have HS2 := Lib.hid (HS.out.later hb)
      clear hb e0 HS
      have HS := HS2
      clear HS2
      have e0 := HS.out.f.box.cell 0
      simp at e0
      go_wp2
      go_ret
      exact ⟨rfl, HS.out.f.bel⟩
    | true =>
      rw [hf] at HF
      have HR := Lib.hid ((rgB_iff l).1 hf)
      clear hf
      go_wp2_with fail
      refine ((HF.out)).mono ?_; rintro e w2 ⟨rfl, hb⟩
      have HS2 := Lib.hid (HS.out.later hb)
      clear hb e0 HS
      have HS := HS2
      clear HS2
      have e0 := HS.out.f.box.cell 0
      simp at e0
      clear HF
      have HF := Lib.hid (rfits15_any l A c s B c2 (by have := L1.out; omega) HL9.out HTX.out _ HS.out.f.row HS.out.rs)
      cases hf : fitB l s with
      | false =>
        rw [hf] at HF
        clear hf
        go_wp2_with fail
        refine ((HF.out)).mono ?_; rintro e w2 ⟨rfl, hb⟩
        have HS2 := Lib.hid (HS.out.later hb)
        clear hb e0 HS
        have HS := HS2
        clear HS2
        have e0 := HS.out.f.box.cell 0
        simp at e0
        go_wp2_with fail
        refine ((HAW.out _)).mono ?_; rintro e w2 ⟨rfl, hb⟩
        have HS2 := Lib.hid (HS.out.later hb)
        clear hb e0 HS
        have HS := HS2
        clear HS2
        have e0 := HS.out.f.box.cell 0
        simp at e0
        go_wp2
        go_ret
        exact ⟨rfl, HS.out.f.bel⟩
      | true =>
        rw [hf] at HF
        obtain ⟨⟨hl24, hs8⟩, hst⟩ := fit_iff.1 hf
        have HFO := Lib.hid (stF_form hst)
        have HLN := Lib.hid hl24
        have HSL := Lib.hid hs8
        clear hf hst
        go_wp2_with fail
        refine ((HF.out)).mono ?_; rintro e w2 ⟨rfl, hb⟩
        have HS2 := Lib.hid (HS.out.later hb)
        clear hb e0 HS
        have HS := HS2
        clear HS2
        have e0 := HS.out.f.box.cell 0
        simp at e0
        clear HF
        have HON := Lib.hid (on_call HR.out (by omega) HTX.out u HFO.out (by omega) HS.out.f.row HS.out.rs (c := c) (c2 := c2))
        have hbl := brsL_all (onL l s u)
        have HSR : Hid (HdSrt (brsL (onL l s u))) := hbl.1
        have HPO : Hid (∀ a ∈ brsL (onL l s u), (∀ y ∈ a.1, HdF l y) ∧ 1 ≤ a.2 ∧ a.2 ≤ 2) := fun a ha => ⟨brs_form (fun q hq => on_form HR.out.1 HFO.out hq) a ha, hbl.2.1 a ha⟩
        have HFEW : Hid ((brsL (onL l s u)).length ≤ 5000) := on_few HR.out HFO.out HLN.out (by have := HSL.out; omega) u
        have HONE : Hid (rdyS l s = true → decide ((brsL (onL l s u)).length = 1) = (rdS l s u).isSome) := fun h => on_one_len h
        clear hbl
        generalize brsL (onL l s u) = T at *
        go_wp2_with fail
        refine HON.out.mono ?_; rintro e w3 ⟨v, rfl, ⟨AO, kO, D, rfl, hD⟩, hb⟩
        have HS2 : Hid (NxvS w A l c B s (fun w => BrA T AO D w) w3) := ⟨HS.out.later hb, hD, fun _ _ h hb => h.later hb⟩
        have HBR := Lib.hid hD.brs
        have HCP := Lib.hid hD.cap
        have HDL : Hid (D.length ≤ 5000) := by
          have h1 := congrArg List.length hD.brs
          rw [List.length_map] at h1
          have := HFEW.out; unfold Hid; omega
        clear hb hD HS HON e0
        have HS := HS2
        clear HS2
        have hdz : (D.length : Int) ≤ 5000 := by have := HDL.out; omega
        go_wp2
        go_loopw [8] (NxfL w A l c B s (fun w => BrA T AO D w) D.length) (fun i _ => D.length - (intOf i).toNat)
        case atStart => exact ⟨0, Nat.zero_le _, rfl, HS.out⟩
        case round =>
          obtain ⟨j, hj, rfl, hh⟩ := hrel
          have HH := Lib.hid hh
          clear hh HS
          by_cases hlt : j < D.length
          · have hz : (j : Int) < (D.length : Int) := by omega
            have HLT := Lib.hid hlt
            have HDG := Lib.hid (hd_here hlt)
            have HDM := Lib.hid (hd_mem hlt)
            obtain ⟨hcp, hl1⟩ := HCP.out _ (hd_mem hlt)
            obtain ⟨hy2, hm1, hm2⟩ := HPO.out (brS (D.getD j hd0)) (by rw [← HBR.out]; exact List.mem_map_of_mem (hd_mem hlt))
            simp only [brS] at hy2 hm1 hm2
            have HFM : Hid (∀ w', NRow w' A l → ItRow w' (D.getD j hd0).A (D.getD j hd0).s → Calls Try.prog 15 #[.agg #[.slice A l.length c], .slice (D.getD j hd0).A (D.getD j hd0).s.length (D.getD j hd0).cap] w' (Ans w' (.bool true))) := fun w' h1 h2 => by
              have := riform_any l A c (D.getD j hd0).s (D.getD j hd0).A (D.getD j hd0).cap (by have := HLN.out; omega) (by omega) HTX.out w' h1 h2
              rw [form_stF hy2] at this; exact this
            obtain ⟨bb, ob, rfl, -, -⟩ := HH.out.p.row j hlt
            have hza : ¬ ((D.getD j hd0).many : Int) < 1 := by omega
            have hzb : ¬ ((D.getD j hd0).many : Int) > 2 := by omega
            by_cases hj0 : j = 0
            · subst hj0
              clear hy2 hm1 hm2 hl1 hj hlt hcp
              go_upto_region 7 with (fail)
              generalize D.getD 0 hd0 = d at *
              refine wp_region_stable (S := (NxvS w A l c B s (fun w => BrA T (some ⟨bb, ob, none⟩) D w))) (hSt := fun _ _ h hb => h.later hb) (plan := [[(3, none)], [(7, none)], [(8, none)], [(43, some 1), (44, some 2)], [(45, some 3)], [(46, some 4)], [(42, some 0), (47, some 5)], [(48, some 6)], [(49, some 7)], [(7, none)], [(8, none)], [(51, some 9), (52, some 10)], [(53, some 11)], [(54, some 12)], [(55, some 13)], [(50, some 8), (56, some 14)], [(57, some 15)], [(7, none)], [(8, none)], [(59, some 17), (60, some 18)], [(61, some 19)], [(62, some 20)], [(63, some 21)], [(58, some 16), (64, some 22)], [(65, some 23)], [(8, none)], [(67, some 25)], [(68, some 26)], [(7, none)], [(8, none)], [(71, some 29)], [(70, some 28), (72, some 30)], [(73, some 31)], [(74, some 32)], [(7, none)], [(8, none)], [(76, some 34), (77, some 35)], [(78, some 36)], [(79, some 37)], [(75, some 33), (80, some 38)], [(81, some 39)], [(69, some 27), (82, some 40)], [(66, some 24), (83, some 41)]]) (by kernel_rfl) (by kernel_rfl) (by kernel_rfl) ?hS ?_
              rotate_left
              iterate 43 first
                | (refine chain_skip (by rfl) (by rfl) ?_)
                | (apply chain_want (by rfl)
                   · intro act wx hS hr
                     simp at hr
                     have e0 := hS.h.f.box.cell 0
                     have x0 := br_cell hS.p.row 0 d HDG.out
                     simp at e0 x0
                     obtain ⟨x0, x1⟩ := x0
                     go_simp
                     (try go_ints)
                     first
                       | ((with_reducible refine (HFM.out _ hS.h.f.row (hS.p.its _ HDM.out)).mono ?_); rintro e w' ⟨rfl, hb⟩; exact Done.mk hb)
                       | exact Done.same
                  )
              show ∀ w', _ → _
              intro wz hz
              simp [Act.put]
              case hS => exact HH.out
              have HS8 := Lib.hid hz
              clear hz HH
              go_wp2
              go_roundw
              case rel => exact ⟨0 + 1, HLT.out, by go_num, HS8.out⟩
              case measure => have := HLT.out; simp [intOf] <;> omega
            · obtain ⟨i, hi⟩ : ∃ i, j = i + 1 := ⟨j - 1, by omega⟩
              have hlti : i < D.length := by omega
              have hst := hd_ahead HBR.out HSR.out (i := i) (by omega)
              rw [← hi] at hst
              have HDG2 := Lib.hid (hd_here hlti)
              have HDM2 := Lib.hid (hd_mem hlti)
              obtain ⟨-, hl2⟩ := HCP.out _ (hd_mem hlti)
              have HCM : Hid (∀ w', ItRow w' (D.getD i hd0).A (D.getD i hd0).s → ItRow w' (D.getD j hd0).A (D.getD j hd0).s → Calls Try.prog 16 #[.slice (D.getD i hd0).A (D.getD i hd0).s.length (D.getD i hd0).cap, .slice (D.getD j hd0).A (D.getD j hd0).s.length (D.getD j hd0).cap] w' (Ans w' (.int .i64 (-1)))) := fun w' h1 h2 => by
                have := rstcmp_any _ _ _ _ (D.getD i hd0).cap (D.getD j hd0).cap w' h1 h2 (by omega) (by omega)
                rw [hst] at this; exact this
              have hji : (j : Int) - 1 = (i : Int) := by omega
              have hjp : (j : Int) > 0 := by omega
              have hjn : 0 < j := by omega
              have hjd : decide (0 < j) = true := decide_eq_true hjn
              have hiz : (i : Int) < (D.length : Int) := by omega
              have HJI := Lib.hid hi
              clear hy2 hm1 hm2 hl1 hj hlt hcp hst hi hlti hl2 hj0
              go_upto_region 7 with (fail)
              generalize D.getD j hd0 = d at *
              generalize D.getD i hd0 = p at *
              refine wp_region_stable (S := (NxvS w A l c B s (fun w => BrA T (some ⟨bb, ob, none⟩) D w))) (hSt := fun _ _ h hb => h.later hb) (plan := [[(3, none)], [(7, none)], [(8, none)], [(43, some 1), (44, some 2)], [(45, some 3)], [(46, some 4)], [(42, some 0), (47, some 5)], [(48, some 6)], [(49, some 7)], [(7, none)], [(8, none)], [(51, some 9), (52, some 10)], [(53, some 11)], [(54, some 12)], [(55, some 13)], [(50, some 8), (56, some 14)], [(57, some 15)], [(7, none)], [(8, none)], [(59, some 17), (60, some 18)], [(61, some 19)], [(62, some 20)], [(63, some 21)], [(58, some 16), (64, some 22)], [(65, some 23)], [(8, none)], [(67, some 25)], [(68, some 26)], [(7, none)], [(8, none)], [(71, some 29)], [(70, some 28), (72, some 30)], [(73, some 31)], [(74, some 32)], [(7, none)], [(8, none)], [(76, some 34), (77, some 35)], [(78, some 36)], [(79, some 37)], [(75, some 33), (80, some 38)], [(81, some 39)], [(69, some 27), (82, some 40)], [(66, some 24), (83, some 41)]]) (by kernel_rfl) (by kernel_rfl) (by kernel_rfl) ?hS ?_
              rotate_left
              iterate 43 first
                | (refine chain_skip (by rfl) (by rfl) ?_)
                | (apply chain_want (by rfl)
                   · intro act wx hS hr
                     simp at hr
                     have e0 := hS.h.f.box.cell 0
                     simp at e0
                     obtain ⟨x0, x1⟩ := br_cell hS.p.row j d HDG.out
                     obtain ⟨y0, y1⟩ := br_cell hS.p.row i p HDG2.out
                     go_simp
                     (try go_ints)
                     first
                       | ((with_reducible refine (HFM.out _ hS.h.f.row (hS.p.its _ HDM.out)).mono ?_); rintro e w' ⟨rfl, hb⟩; exact Done.mk hb)
                       | ((with_reducible refine (HCM.out _ (hS.p.its _ HDM2.out) (hS.p.its _ HDM.out)).mono ?_); rintro e w' ⟨rfl, hb⟩; exact Done.mk hb)
                       | exact Done.same
                  )
              show ∀ w', _ → _
              intro wz hz
              simp [Act.put]
              case hS => exact HH.out
              have HS8 := Lib.hid hz
              clear hz HH
              go_wp2
              go_roundw
              case rel => exact ⟨j + 1, HLT.out, by go_num, HS8.out⟩
              case measure => have := HLT.out; simp [intOf] <;> omega
          · obtain rfl : j = D.length := by omega
            have hz : ¬ ((D.length : Nat) : Int) < (D.length : Int) := by omega
            have HRDY : Hid (rready14_any l A c s B c2 HR.out.1.1 HFO.out (by have := HLN.out; omega) (by have := HSL.out; omega) wr HH.out.h.f.row HH.out.h.rs = rready14_any l A c s B c2 HR.out.1.1 HFO.out (by have := HLN.out; omega) (by have := HSL.out; omega) wr HH.out.h.f.row HH.out.h.rs) := rfl
            clear HRDY
            have HRD := Lib.hid (rready14_any l A c s B c2 HR.out.1.1 HFO.out (by have := HLN.out; omega) (by have := HSL.out; omega) wr HH.out.h.f.row HH.out.h.rs)
            have e0 := HH.out.h.f.box.cell 0
            simp at e0
            clear hj hlt
            cases hrd : rdyS l s with
            | false =>
              rw [hrd] at HRD
              clear hrd
              go_wp2_with fail
              refine HRD.out.mono ?_; rintro e w4 ⟨rfl, hb⟩
              have HB := Lib.hid ((HH.out.later hb).h.f.bel)
              clear hb
              go_wp2
              go_ret
              exact ⟨rfl, HB.out⟩
            | true =>
              rw [hrd] at HRD
              have HON1 := Lib.hid (HONE.out hrd)
              have HREAD : Hid (∀ w', NRow w' A l → ItRow w' B s → Calls Try.prog 18 #[.agg #[.slice A l.length c], .slice B s.length c2, .int .u8 (u.toNat : Int)] w' (NrdP (rdS l s u) w')) := fun w' h1 h2 => nxRead_any l A c s B c2 u HR.out.1.1 (by have := HLN.out; omega) HTX.out HFO.out hrd (by have := HSL.out; omega) HC2.out (hd_itok HR.out.1 (by have := HLN.out; omega) HTX.out HFO.out) w' h1 h2
              clear hrd HONE
              go_wp2_with fail
              refine HRD.out.mono ?_; rintro e w4 ⟨rfl, hb⟩
              have HS4 : Hid (NxvS w A l c B s (fun _ => True) w4) := ⟨HH.out.h.later hb, trivial, fun _ _ _ _ => trivial⟩
              clear hb HH HRD e0
              have hslz : (s.length : Int) ≤ 8 := by have := HSL.out; omega
              go_wp2
              go_loopw [9, 10] (NxfM w A l c B s (fun _ => True)) (fun _ i _ => s.length - (intOf i).toNat)
              case atStart => exact ⟨1, Nat.le_refl _, .inr rfl, rfl, by rw [sh_one], HS4.out⟩
              case round =>
                obtain ⟨k, hk1, hk2, rfl, rfl, hh⟩ := hrel
                have HH := Lib.hid hh
                clear hh HS4
                by_cases hlt : k < s.length
                · have hz : (k : Int) < (s.length : Int) := by omega
                  have HST := Lib.hid (sh_step hk1 hlt)
                  obtain ⟨bs_, os_, rfl, -, -⟩ := HH.out.h.rs k hlt
                  have g := HH.out.h.rs.at hlt rfl
                  have HLT := Lib.hid hlt
                  have HK1 := Lib.hid hk1
                  generalize s.getD k it0 = x at *
                  obtain ⟨kk, nn, lo, hi⟩ := x
                  unfold At4 at g
                  simp only at g
                  obtain ⟨x0, x1, x2, x3⟩ := g
                  have hkn : ¬ (k : Int) < 0 := by omega
                  unfold shI at HST
                  simp only at HST
                  clear hk1 hk2 hlt
                  cases hsh : shS s k with
                  | true =>
                    rw [hsh, Bool.true_or] at HST
                    clear hsh
                    go_wp2
                    go_roundw
                    case rel => exact ⟨k + 1, Nat.le_succ_of_le HK1.out, .inl HLT.out, by go_num, by rw [HST.out], HH.out⟩
                    case measure => have := HLT.out; simp [intOf] <;> omega
                  | false =>
                    rw [hsh, Bool.false_or] at HST
                    clear hsh
                    by_cases h5 : kk = 5
                    · subst h5
                      rw [show ((5 : Int) == 5) = true from rfl, Bool.true_and] at HST
                      by_cases h0 : lo = 0
                      · subst h0
                        rw [show ((0 : Int) == 0) = true from rfl] at HST
                        go_wp2
                        go_roundw
                        case rel => exact ⟨k + 1, Nat.le_succ_of_le HK1.out, .inl HLT.out, by go_num, by rw [HST.out], HH.out⟩
                        case measure => have := HLT.out; simp [intOf] <;> omega
                      · have hb : (lo == 0) = false := beq_eq_false_iff_ne.2 h0
                        rw [hb] at HST
                        go_wp2
                        go_roundw
                        case rel => exact ⟨k + 1, Nat.le_succ_of_le HK1.out, .inl HLT.out, by go_num, by rw [HST.out], HH.out⟩
                        case measure => have := HLT.out; simp [intOf] <;> omega
                    · have hb : (kk == 5) = false := beq_eq_false_iff_ne.2 h5
                      rw [hb, Bool.false_and] at HST
                      go_wp2
                      go_roundw
                      case rel => exact ⟨k + 1, Nat.le_succ_of_le HK1.out, .inl HLT.out, by go_num, by rw [HST.out], HH.out⟩
                      case measure => have := HLT.out; simp [intOf] <;> omega
                · have hz : ¬ (k : Int) < (s.length : Int) := by omega
                  have HB0 : Hid ((rdS l s u).isSome = true → shS s k = false) := fun h => by
                    rcases hk2 with h2 | h2
                    · obtain rfl : k = s.length := by omega
                      cases hq : shS s s.length with
                      | false => rfl
                      | true => rw [sh_read hq] at h; cases h
                    · rw [h2]; exact sh_one s
                  have HRE := Lib.hid (HREAD.out wr HH.out.h.f.row HH.out.h.rs)
                  have e0 := HH.out.h.f.box.cell 0
                  simp at e0
                  have hlb : decide (D.length = 1) = (rdS l s u).isSome := by
                    rw [← HON1.out]
                    have h1 := congrArg List.length HBR.out
                    rw [List.length_map] at h1
                    rw [h1]
                  have hlc : ((D.length : Int) == 1) = (rdS l s u).isSome := by
                    rw [← hlb, Bool.eq_iff_iff, beq_iff_eq, decide_eq_true_iff]; omega
                  have HLC := Lib.hid hlc
                  clear hlb hlc hk1 hk2 hlt HREAD HON1
                  go_wp2_with fail
                  refine HRE.out.mono ?_; rintro e w5 ⟨v5, rfl, hb5, -, -⟩
                  have HB5 := Lib.hid ((HH.out.later hb5).h.f.bel)
                  clear hb5 HRE HH e0
                  generalize rdS l s u = o at *
                  generalize o.isSome = bb at *
                  generalize shS s k = sh at *
                  have hlc := HLC.out
                  cases bb with
                  | true =>
                    obtain rfl : sh = false := HB0.out rfl
                    go_wp2
                    go_ret
                    exact ⟨rfl, HB5.out⟩
                  | false =>
                    cases sh with
                    | true =>
                      go_wp2
                      go_ret
                      exact ⟨rfl, HB5.out⟩
                    | false =>
                      go_wp2
                      go_ret
                      exact ⟨rfl, HB5.out⟩
theorem nextforms_row (l : List Nd) (A : Option Addr) (c : Nat) (s : List Itm) (B : Option Addr) (c2 : Nat) (a : Nat) (ha : a < 256) (hc1 : l.length ≤ c) (hl : l.length ≤ 9223372036854775807) (htx : Txt l) (h1 : s.length ≤ 9223372036854775807) (hc2 : s.length ≤ c2) (w : World) (hrow : NRow w A l) (hs : ItRow w B s) :
    Calls Try.prog 4 #[.agg #[.slice A l.length c], .slice B s.length c2, .int .u8 (a : Int)] w (Ans w (.bool true)) := by
  have h := nextforms_walk l A c s B c2 (UInt8.ofNat a) hc1 hl htx h1 hc2 w hrow hs
  rw [u8_back ha] at h
  exact h
end Go.Proofs.Ytidoofdofdhjpaa
