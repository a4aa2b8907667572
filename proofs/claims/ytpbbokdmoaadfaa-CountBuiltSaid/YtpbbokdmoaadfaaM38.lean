/- The statement CountRow of layer 12, walked. -/
import Derived.Test.YtpbbokdmoaadfaaM37
namespace Go.Proofs.Ytpbbokdmoaadfaa
open Go Go.RowKit
set_option linter.unusedVariables false
set_option linter.unusedSimpArgs false
structure CdS (w0 : World) (A : Option Addr) (l : List Nd) (c : Nat) (B : Option Addr) (m : List Nd) (d : Nat) (Aw : Option Addr) (cw : Nat) (W : Wd) (w : World) : Prop where
  bel : Below w0.heap.size w0 w
  rl : NRow w A l
  rm : NRow w B m
  bl : Blk w w0.heap.size #[.slice A l.length c] 24
  bm : Blk w (w0.heap.size + 1) #[.slice B m.length d] 24
  wd : W.length ≤ 8 → IsW W (.slice Aw W.length cw) w
section
variable {w0 w w' : World} {A : Option Addr} {l : List Nd} {c : Nat} {B : Option Addr} {m : List Nd} {d : Nat} {Aw : Option Addr} {cw : Nat} {W : Wd} (h : CdS w0 A l c B m d Aw cw W w)
include h
theorem CdS.later (hb : Below w.heap.size w w') : CdS w0 A l c B m d Aw cw W w' := ⟨h.bel.trans (hb.mono h.bel.size), h.rl.later hb, h.rm.later hb, h.bl.later hb, h.bm.later hb, fun k => (h.wd k).later hb⟩
theorem CdS.isL (hc : l.length ≤ c) : IsD l (.agg #[.slice A l.length c]) w := ⟨A, c, hc, rfl, h.rl⟩
theorem CdS.isM (hc : m.length ≤ d) : IsD m (.agg #[.slice B m.length d]) w := ⟨B, d, hc, rfl, h.rm⟩
end
theorem CdS.new (w : World) (A : Option Addr) (l : List Nd) (c : Nat) (B : Option Addr) (m : List Nd) (d : Nat) (Aw : Option Addr) (cw : Nat) (W : Wd) (hl : NRow w A l) (hm : NRow w B m) (hw : WdA w Aw cw W) :
    CdS w A l c B m d Aw cw W ((w.alloc (.cells #[.slice A l.length c] 24)).alloc (.cells #[.slice B m.length d] 24)) := by
  have HB := ((Below.refl w.heap.size w).alloc (Nat.le_refl _) (.cells #[.slice A l.length c] 24)).alloc (by simp) (.cells #[.slice B m.length d] 24)
  exact ⟨HB, hl.later HB, hm.later HB, (Blk.new w _ _).alloc _, Blk.new' (by simp) _ _, fun k => (hw.2 (by omega)).later HB⟩
def crN (l m : List Nd) (W : Wd) (k : Nat) : Nat := min 2 (((List.range k).map fun j => wyD l (W.take j) * wyD m (W.drop j)).sum)
theorem crN_succ {l m : List Nd} {W : Wd} {k : Nat} : crN l m W (k + 1) = min 2 (crN l m W k + wyD l (W.take k) * wyD m (W.drop k)) := by
  unfold crN
  rw [List.range_succ, List.map_append, List.sum_append]
  simp only [List.map_cons, List.map_nil, List.sum_cons, List.sum_nil]
  omega
structure CeS (w0 : World) (A : Option Addr) (l : List Nd) (c : Nat) (B : Option Addr) (m : List Nd) (d : Nat) (Aw : Option Addr) (cw : Nat) (W : Wd) (bp : Nat) (Ap : Option Addr) (p : List Nd) (np cp : Nat) (w : World) : Prop where
  s : CdS w0 A l c B m d Aw cw W w
  x : Dx bp Ap p np cp w
theorem CeS.later {w0 w w' : World} {A : Option Addr} {l : List Nd} {c : Nat} {B : Option Addr} {m : List Nd} {d : Nat} {Aw : Option Addr} {cw : Nat} {W : Wd} {bp : Nat} {Ap : Option Addr} {p : List Nd} {np cp : Nat} (h : CeS w0 A l c B m d Aw cw W bp Ap p np cp w) (hb : Below w.heap.size w w') : CeS w0 A l c B m d Aw cw W bp Ap p np cp w' := ⟨h.s.later hb, h.x.later hb⟩
def LnV (n : Nat) (v : Value) (w : World) : Prop := ∃ A c, v = .slice A n c
theorem LnV.later (n : Nat) : ∀ v w w', LnV n v w → Below w.heap.size w w' → LnV n v w' := fun v w w' h hb => h
theorem TrV.later : ∀ v w w', TrV v w → Below w.heap.size w w' → TrV v w' := fun v w w' h hb => h
def CroL (w0 : World) (A : Option Addr) (l : List Nd) (c : Nat) (B : Option Addr) (m : List Nd) (d : Nat) (Aw : Option Addr) (cw : Nat) (W : Wd) (x7 x8 : Value) (w : World) : Prop := ∃ k : Nat, k ≤ W.length + 1 ∧ x7 = .int .i64 ((crN l m W k : Nat) : Int) ∧ x8 = .int .i64 (k : Int) ∧ CdS w0 A l c B m d Aw cw W w
theorem wyD_cnt {l : List Nd} {W : Wd} : wyD l W = min 2 (cntD l W) := wyD_eq
theorem crN_end {l m : List Nd} (hl : Form l) (hm : Form m) {W : Wd} : crN l m W (W.length + 1) = wyD (pairL 4 l m) W := by
  rw [wyD_cnt, row_ways hl hm]
  unfold crN
  congr 2
  refine List.map_congr_left fun k _ => ?_
  rw [wyD_cnt, wyD_cnt]
theorem Sp.sc {l : List Nd} (h : Sp l) (ht : ∀ n ∈ l, n.text.length ≤ 1073741824) : Sc l := ⟨h.sm.form, h.sm.len, ht⟩
theorem pair_tx {l m : List Nd} {kind : Int} (h : ∀ n ∈ l, n.text.length ≤ 1073741824) (k : ∀ n ∈ m, n.text.length ≤ 1073741824) : ∀ n ∈ pairL kind l m, n.text.length ≤ 1073741824 := fun n hn => by
  unfold pairL at hn
  rcases List.mem_append.1 hn with h1 | h1
  · rcases List.mem_append.1 h1 with h2 | h2
    · exact h n h2
    · obtain ⟨x, hx, rfl⟩ := List.mem_map.1 h2
      have : (mvN (l.length : Int) x).text = x.text := by unfold mvN; (repeat' split) <;> rfl
      rw [this]; exact k x hx
  · rw [List.mem_singleton.1 h1]; simp
theorem wrapc_tx {l : List Nd} {k lo hi : Int} (h : ∀ n ∈ l, n.text.length ≤ 1073741824) : ∀ n ∈ wrapL k lo hi l, n.text.length ≤ 1073741824 := fun n hn => by
  unfold wrapL at hn
  rcases List.mem_append.1 hn with h1 | h1
  · exact h n h1
  · rw [List.mem_singleton.1 h1]; simp
set_option maxHeartbeats 64000000 in
set_option maxRecDepth 1000000 in
theorem countrow_walk (l : List Nd) (A : Option Addr) (c : Nat) (m : List Nd) (B : Option Addr) (d : Nat) (W : Wd) (Aw : Option Addr) (cw : Nat) (hc1 : l.length ≤ c) (hl : l.length ≤ 9223372036854775807) (htl : Txt l) (hc2 : m.length ≤ d) (hm : m.length ≤ 9223372036854775807) (htm : Txt m) (hwl : W.length ≤ 9223372036854775807) (w : World) (hrl : NRow w A l) (hrm : NRow w B m) (hwd : WdA w Aw cw W) :
    Calls Try.prog 7 #[.agg #[.slice A l.length c], .agg #[.slice B m.length d], .slice Aw W.length cw] w (Ans w (.bool true)) := by
  have HS0 := Lib.hid (CdS.new w A l c B m d Aw cw W hrl hrm hwd)
  have HTL := Lib.hid htl
  have HTM := Lib.hid htm
  have hn9 : (W.length : Int) ≤ 9223372036854775807 := by omega
  have hcw : W.length ≤ cw := hwd.1
  clear hrl hrm htl htm hwd
  go_enter Try.func7, Try.ntmps7
  go_upto_region 1 with (fail)
  generalize (w.alloc (.cells #[.slice A l.length c] 24)).alloc (.cells #[.slice B m.length d] 24) = w1 at *
  go_wp2_with fail
  refine (awake12_any _).mono ?_; rintro e w2 ⟨rfl, hb⟩
  have HS2 := Lib.hid (HS0.out.later hb)
  clear hb HS0
  have e0 := HS2.out.bl.cell 0
  have e1 := HS2.out.bm.cell 0
  simp at e0 e1
  have HF := Lib.hid (few_any l A c hl HTL.out _ HS2.out.rl)
  cases hf : fewB l with
  | false =>
    rw [hf] at HF
    clear hf
    go_wp2_with fail
    refine HF.out.mono ?_; rintro e w3 ⟨rfl, hb⟩
    have HS3 := Lib.hid (HS2.out.later hb)
    clear hb e0 e1 HF HS2
    go_wp2_with fail
    refine (awake12_any _).mono ?_; rintro e w4 ⟨rfl, hb⟩
    have HSY := Lib.hid (HS3.out.later hb)
    clear hb
    go_wp2
    go_ret
    exact ⟨rfl, HSY.out.bel⟩
  | true =>
    rw [hf] at HF
    have L1 := Lib.hid (few_txt hf).1
    have HFL := Lib.hid hf
    clear hf
    go_wp2_with fail
    refine HF.out.mono ?_; rintro e w3 ⟨rfl, hb⟩
    have HS3 := Lib.hid (HS2.out.later hb)
    clear hb e0 e1 HF HS2
    have e0 := HS3.out.bl.cell 0
    have e1 := HS3.out.bm.cell 0
    simp at e0 e1
    have HF := Lib.hid (few_any m B d hm HTM.out _ HS3.out.rm)
    cases hf : fewB m with
    | false =>
      rw [hf] at HF
      clear hf
      go_wp2_with fail
      refine HF.out.mono ?_; rintro e w4 ⟨rfl, hb⟩
      have HS4 := Lib.hid (HS3.out.later hb)
      clear hb e0 e1 HF HS3
      go_wp2_with fail
      refine (awake12_any _).mono ?_; rintro e w5 ⟨rfl, hb⟩
      have HSY := Lib.hid (HS4.out.later hb)
      clear hb
      go_wp2
      go_ret
      exact ⟨rfl, HSY.out.bel⟩
    | true =>
      rw [hf] at HF
      have L2 := Lib.hid (few_txt hf).1
      have HFM := Lib.hid hf
      clear hf
      go_wp2_with fail
      refine HF.out.mono ?_; rintro e w4 ⟨rfl, hb⟩
      have HS4 := Lib.hid (HS3.out.later hb)
      clear hb e0 e1 HF HS3
      have e0 := HS4.out.bl.cell 0
      have e1 := HS4.out.bm.cell 0
      simp at e0 e1
      have HF := Lib.hid (rfits_any A Aw l.length c W.length cw w4 hl hwl)
      cases hf : fitsB l.length W.length with
      | false =>
        rw [hf] at HF
        clear hf
        go_wp2_with fail
        refine HF.out.mono ?_; rintro e w5 ⟨rfl, hb⟩
        have HS5 := Lib.hid (HS4.out.later hb)
        clear hb e0 e1 HF HS4
        go_wp2_with fail
        refine (awake12_any _).mono ?_; rintro e w6 ⟨rfl, hb⟩
        have HSY := Lib.hid (HS5.out.later hb)
        clear hb
        go_wp2
        go_ret
        exact ⟨rfl, HSY.out.bel⟩
      | true =>
        rw [hf] at HF
        have HW8 : Hid (W.length ≤ 8) := by
          unfold fitsB at hf
          simp at hf
          exact hf.2
        clear hf
        go_wp2_with fail
        refine HF.out.mono ?_; rintro e w5 ⟨rfl, hb⟩
        have HS5 := Lib.hid (HS4.out.later hb)
        clear hb e0 e1 HF HS4
        have e0 := HS5.out.bl.cell 0
        have e1 := HS5.out.bm.cell 0
        simp at e0 e1
        have HF := Lib.hid (rfits_any B Aw m.length d W.length cw w5 hm hwl)
        cases hf : fitsB m.length W.length with
        | false =>
          rw [hf] at HF
          clear hf
          go_wp2_with fail
          refine HF.out.mono ?_; rintro e w6 ⟨rfl, hb⟩
          have HS6 := Lib.hid (HS5.out.later hb)
          clear hb e0 e1 HF HS5
          go_wp2_with fail
          refine (awake12_any _).mono ?_; rintro e w7 ⟨rfl, hb⟩
          have HSY := Lib.hid (HS6.out.later hb)
          clear hb
          go_wp2
          go_ret
          exact ⟨rfl, HSY.out.bel⟩
        | true =>
          rw [hf] at HF
          clear hf
          go_wp2_with fail
          refine HF.out.mono ?_; rintro e w6 ⟨rfl, hb⟩
          have HS6 := Lib.hid (HS5.out.later hb)
          clear hb e0 e1 HF HS5
          have e0 := HS6.out.bl.cell 0
          have e1 := HS6.out.bm.cell 0
          simp at e0 e1
          have HF := Lib.hid (rright_any l A c hc1 (by have := L1.out; omega) HTL.out _ HS6.out.rl)
          cases hf : rgB l with
          | false =>
            rw [hf] at HF
            clear hf
            go_wp2_with fail
            refine HF.out.mono ?_; rintro e w7 ⟨rfl, hb⟩
            have HS7 := Lib.hid (HS6.out.later hb)
            clear hb e0 e1 HF HS6
            go_wp2_with fail
            refine (awake12_any _).mono ?_; rintro e w8 ⟨rfl, hb⟩
            have HSY := Lib.hid (HS7.out.later hb)
            clear hb
            go_wp2
            go_ret
            exact ⟨rfl, HSY.out.bel⟩
          | true =>
            rw [hf] at HF
            have hrg := (rgB_iff l).1 hf
            have HPL := Lib.hid (few_sp HFL.out hrg.1)
            have HRL := Lib.hid hrg
            clear hf hrg
            go_wp2_with fail
            refine HF.out.mono ?_; rintro e w7 ⟨rfl, hb⟩
            have HS7 := Lib.hid (HS6.out.later hb)
            clear hb e0 e1 HF HS6
            have e0 := HS7.out.bl.cell 0
            have e1 := HS7.out.bm.cell 0
            simp at e0 e1
            have HF := Lib.hid (rright_any m B d hc2 (by have := L2.out; omega) HTM.out _ HS7.out.rm)
            cases hf : rgB m with
            | false =>
              rw [hf] at HF
              clear hf
              go_wp2_with fail
              refine HF.out.mono ?_; rintro e w8 ⟨rfl, hb⟩
              have HS8 := Lib.hid (HS7.out.later hb)
              clear hb e0 e1 HF HS7
              go_wp2_with fail
              refine (awake12_any _).mono ?_; rintro e w9 ⟨rfl, hb⟩
              have HSY := Lib.hid (HS8.out.later hb)
              clear hb
              go_wp2
              go_ret
              exact ⟨rfl, HSY.out.bel⟩
            | true =>
              rw [hf] at HF
              have hrg := (rgB_iff m).1 hf
              have HPM := Lib.hid (few_sp HFM.out hrg.1)
              have HRM := Lib.hid hrg
              clear hf hrg
              go_wp2_with fail
              refine HF.out.mono ?_; rintro e w8 ⟨rfl, hb⟩
              have HS8 := Lib.hid (HS7.out.later hb)
              clear hb e0 e1 HF HS7
              have e0 := HS8.out.bl.cell 0
              have e1 := HS8.out.bm.cell 0
              simp at e0 e1
              have htl1 : ∀ n ∈ l, n.text.length ≤ 1073741824 := fun n hn => by have := (few_txt HFL.out).2 n hn; omega
              have htm1 : ∀ n ∈ m, n.text.length ≤ 1073741824 := fun n hn => by have := (few_txt HFM.out).2 n hn; omega
              have HSL := Lib.hid (Sp.sc HPL.out htl1)
              have HSM := Lib.hid (Sp.sc HPM.out htm1)
              clear htl1 htm1
              have HWL : Hid (∀ k w', k ≤ W.length → CdS w A l c B m d Aw cw W w' → Calls Try.prog 13 #[.agg #[.slice A l.length c], .slice Aw k cw] w' (Ans w' (.int .i64 ((wyD l (W.take k) : Nat) : Int)))) := fun k w' hk h => (h.isL hc1).cways HSL.out ((h.wd HW8.out).taken hk) (by rw [List.length_take]; have := HW8.out; omega)
              have HWM : Hid (∀ k u w', CdS w A l c B m d Aw cw W w' → IsW (W.drop k) u w' → Calls Try.prog 13 #[.agg #[.slice B m.length d], u] w' (Ans w' (.int .i64 ((wyD m (W.drop k) : Nat) : Int)))) := fun k u w' h hu => (h.isM hc2).cways HSM.out hu (by rw [List.length_drop]; have := HW8.out; omega)
              have HT0 : Hid (CroL w A l c B m d Aw cw W (.int .i64 0) (.int .i64 0) w8) := ⟨0, Nat.zero_le _, rfl, rfl, HS8.out⟩
              have hw8 : (W.length : Int) ≤ 8 := by have := HW8.out; omega
              clear HS8 e0 e1
              go_wp2
              go_loopw [7, 8] (CroL w A l c B m d Aw cw W) (fun _ x _ => W.length + 1 - (intOf x).toNat)
              case atStart => exact HT0.out
              case round =>
                obtain ⟨k, hk, rfl, rfl, hs⟩ := hrel
                have HS := Lib.hid hs
                clear hs HT0
                have hx2 : crN l m W k ≤ 2 := by unfold crN; omega
                have HNX : Hid (crN l m W (k + 1) = min 2 (crN l m W k + wyD l (W.take k) * wyD m (W.drop k))) := crN_succ
                by_cases hlt : k < W.length + 1
                · have hltz : (k : Int) ≤ (W.length : Int) := by omega
                  have hkw : k ≤ W.length := by omega
                  have hkc : (k : Int) ≤ (cw : Int) := by omega
                  have hcwz : (W.length : Int) ≤ (cw : Int) := by omega
                  have HK := Lib.hid hkw
                  have HL1 := Lib.hid (fun w' h => HWL.out k w' hkw h)
                  have HM1 := Lib.hid (fun u w' h h2 => HWM.out k u w' h h2)
                  have ha2 : wyD l (W.take k) ≤ 2 := wyD_le
                  have hb2 : wyD m (W.drop k) ≤ 2 := wyD_le
                  obtain ⟨z, hz⟩ : ∃ z, crN l m W (k + 1) = z := ⟨_, rfl⟩
                  have HZK := Lib.hid hz
                  rw [hz] at HNX
                  clear hz
                  generalize crN l m W k = x at *
                  generalize wyD l (W.take k) = ya at *
                  generalize wyD m (W.drop k) = yb at *
                  have hab : ya * yb ≤ 4 := Nat.mul_le_mul ha2 hb2
                  obtain ⟨p, hp⟩ : ∃ p, ya * yb = p := ⟨_, rfl⟩
                  have hpz : (ya : Int) * (yb : Int) = (p : Int) := by rw [← hp]; exact (Int.natCast_mul ya yb).symm
                  rw [hp] at HNX hab
                  have hmn : min (2 : Int) ((x : Int) + (p : Int)) = (z : Int) := by have := HNX.out; omega
                  clear hp HNX
                  go_upto_region 7 with (fail)
                  refine wp_region_stable (S := (CdS w A l c B m d Aw cw W)) (hSt := fun _ _ h hb => h.later hb) (plan := [[(7, none)], [(3, none)], [(2, none)], [(8, none)], [(53, some 2), (54, some 3)], [(52, some 1), (55, some 4)], [(4, none)], [(2, none)], [(8, none)], [(58, some 7), (59, some 8)], [(57, some 6), (60, some 9)], [(56, some 5), (61, some 10)], [(51, some 0), (62, some 11)], [(63, some 12)], [(64, some 13)]]) (by kernel_rfl) (by kernel_rfl) (by kernel_rfl) ?hS ?_
                  rotate_left
                  iterate 9 first
                    | (refine chain_skip (by rfl) (by rfl) ?_)
                    | (apply chain_want (by rfl)
                       · intro act wx hS hr
                         simp at hr
                         have e0 := hS.bl.cell 0
                         have e1 := hS.bm.cell 0
                         simp at e0 e1
                         go_simp
                         (try go_ints)
                         first
                           | ((with_reducible refine (HL1.out _ hS).mono ?_); rintro e w5 ⟨rfl, hb5⟩; exact Done.mk hb5)
                           | (obtain ⟨hr1, v, hr2, hv⟩ := hr; have hv : IsW (W.drop k) v wx := hv; simp only [hr1, hr2, Option.getD_some]; (with_reducible refine (HM1.out _ _ hS hv).mono ?_); rintro e w5 ⟨rfl, hb5⟩; exact Done.mk hb5)
                           | exact Done.same
                      )
                  (refine chain_rel (DrW W k) (DrW.later W k) (by rfl) ?_ ?_
                   · intro act wx hS hr
                     simp at hr
                     have e0 := hS.bl.cell 0
                     have e1 := hS.bm.cell 0
                     simp at e0 e1
                     all_goals go_simp
                     exact Done.rel (Below.refl _ _) (IsW.cut (hS.wd HW8.out) HK.out)
                  )
                  iterate 5 first
                    | (refine chain_skip (by rfl) (by rfl) ?_)
                    | (apply chain_want (by rfl)
                       · intro act wx hS hr
                         simp at hr
                         have e0 := hS.bl.cell 0
                         have e1 := hS.bm.cell 0
                         simp at e0 e1
                         go_simp
                         (try go_ints)
                         first
                           | ((with_reducible refine (HL1.out _ hS).mono ?_); rintro e w5 ⟨rfl, hb5⟩; exact Done.mk hb5)
                           | (obtain ⟨hr1, v, hr2, hv⟩ := hr; have hv : IsW (W.drop k) v wx := hv; simp only [hr1, hr2, Option.getD_some]; (with_reducible refine (HM1.out _ _ hS hv).mono ?_); rintro e w5 ⟨rfl, hb5⟩; exact Done.mk hb5)
                           | exact Done.same
                      )
                  show ∀ w', _ → _
                  intro w9 hw9
                  simp [Act.put]
                  case hS => exact HS.out
                  intro v9 _
                  have HN9 := Lib.hid hw9
                  clear hw9 HS HL1 HM1
                  go_wp2
                  go_roundw
                  case rel => exact ⟨k + 1, by omega, by rw [HZK.out], by go_num, HN9.out⟩
                  case measure => simp [intOf]; omega
                · obtain rfl : k = W.length + 1 := by omega
                  have hlast : ¬ ((W.length + 1 : Nat) : Int) ≤ (W.length : Int) := by omega
                  have HCE := Lib.hid (crN_end HSL.out.form HSM.out.form (W := W))
                  have HPP := Lib.hid (HPL.out.pair HPM.out (by have := L1.out; have := L2.out; omega) (kind := 4) (.inl rfl))
                  have HSP := Lib.hid (Sp.sc HPP.out (pair_tx HSL.out.tx HSM.out.tx))
                  have e0 := HS.out.bl.cell 0
                  have e1 := HS.out.bm.cell 0
                  simp at e0 e1
                  have CALL := Lib.hid ((HS.out.isL hc1).rpair (HS.out.isM hc2) HPL.out.sm HPM.out.sm 4)
                  rw [HCE.out] at hx2 ⊢
                  clear HNX HCE HWL HWM
                  go_wp2_with fail
                  refine CALL.out.mono ?_; intro e v hp; obtain ⟨s, rfl, ho, hb⟩ := hp
                  obtain ⟨Ap, cp, hc, hv, hr⟩ := ho.isD
                  obtain ⟨np, hnp⟩ : ∃ np, (pairL 4 l m).length = np := ⟨_, rfl⟩
                  rw [hnp] at hc hv
                  obtain rfl : s = .slice Ap np cp := by simpa using hv
                  have hbb := hb.trans ((Below.refl _ _).alloc hb.size (.cells #[.slice Ap np cp] 24))
                  have HX : Hid (CeS w A l c B m d Aw cw W v.heap.size Ap (pairL 4 l m) np cp (v.alloc (.cells #[.slice Ap np cp] 24))) := ⟨HS.out.later hbb, dx_of hr hnp hc⟩
                  clear HS CALL hb ho hr hv hc e0 e1 hbb hnp
                  go_upto_region 9 with (fail)
                  generalize v.alloc (.cells #[.slice Ap np cp] 24) = w9 at *
                  generalize v.heap.size = bp at *
                  have CY : Hid (∀ w', CeS w A l c B m d Aw cw W bp Ap (pairL 4 l m) np cp w' → Calls Try.prog 13 #[.agg #[.slice Ap np cp], .slice Aw W.length cw] w' (Ans w' (.int .i64 ((wyD (pairL 4 l m) W : Nat) : Int)))) := fun w' h => h.x.isD.cways HSP.out (h.s.wd HW8.out) (by have := HW8.out; omega)
                  have CH : Hid (∀ w', CeS w A l c B m d Aw cw W bp Ap (pairL 4 l m) np cp w' → Calls Try.prog 14 #[.agg #[.slice Ap np cp], .slice Aw W.length cw] w' (Ans w' (.bool (decide (0 < wyD (pairL 4 l m) W))))) := fun w' h => h.x.isD.chas HSP.out (h.s.wd HW8.out) (by have := HW8.out; omega)
                  have CV : Hid (∀ w', CeS w A l c B m d Aw cw W bp Ap (pairL 4 l m) np cp w' → Calls Try.prog 16 #[.agg #[.slice Ap np cp], .slice Aw W.length cw] w' (fun e w'' => ∃ v, e = .returned v ∧ LnV (wyD (pairL 4 l m) W) v w'' ∧ Below w'.heap.size w' w'')) := fun w' h => (h.x.isD.cvals HSP.out (h.s.wd HW8.out) (by have := HW8.out; omega)).mono fun e w'' ⟨v, h1, ⟨A9, c9, h2, _⟩, h3⟩ => ⟨v, h1, ⟨A9, c9, by rw [h2, vals_len HSP.out.form]⟩, h3⟩
                  have hdd : decide (((wyD (pairL 4 l m) W : Nat) : Int) > 0) = decide (0 < wyD (pairL 4 l m) W) := by rw [decide_eq_decide]; omega
                  generalize wyD (pairL 4 l m) W = n at *
                  refine wp_region_stable (S := (CeS w A l c B m d Aw cw W bp Ap (pairL 4 l m) np cp)) (hSt := fun _ _ h hb => h.later hb) (plan := [[(9, none)], [(2, none)], [(68, some 0), (69, some 1)], [(7, none)], [(70, some 2), (71, some 3)], [(72, some 4)], [(9, none)], [(2, none)], [(74, some 6), (75, some 7)], [(7, none)], [(77, some 9)], [(76, some 8), (78, some 10)], [(73, some 5), (79, some 11)], [(80, some 12)], [(9, none)], [(2, none)], [(82, some 14), (83, some 15)], [(84, some 16)], [(7, none)], [(85, some 17), (86, some 18)], [(81, some 13), (87, some 19)], [(88, some 20)]]) (by kernel_rfl) (by kernel_rfl) (by kernel_rfl) ?hS ?_
                  rotate_left
                  iterate 16 first
                    | (refine chain_skip (by rfl) (by rfl) ?_)
                    | (apply chain_want (by rfl)
                       · intro act wx hS hr
                         simp at hr
                         have e0 := hS.x.load
                         go_simp
                         (try go_ints)
                         first
                           | ((with_reducible refine (CY.out _ hS).mono ?_); rintro e w5 ⟨rfl, hb5⟩; exact Done.mk hb5)
                           | ((with_reducible refine (CH.out _ hS).mono ?_); rintro e w5 ⟨rfl, hb5⟩; exact Done.mk hb5)
                           | exact Done.same
                      )
                  (refine chain_rel (LnV n) (LnV.later n) (by rfl) ?_ ?_
                   · intro act wx hS hr
                     simp at hr
                     have e0 := hS.x.load
                     all_goals go_simp
                     ((with_reducible refine (CV.out _ hS).mono ?_); rintro e w5 ⟨v5, rfl, h5, hb5⟩; exact Done.rel hb5 h5)
                  )
                  (refine chain_rel (EqV n) (EqV.later n) (by rfl) ?_ ?_
                   · intro act wx hS hr
                     simp at hr
                     have e0 := hS.x.load
                     obtain ⟨u, hr1, A5, c5, rfl⟩ := hr
                     all_goals go_simp
                     exact Done.rel (Below.refl _ _) rfl
                  )
                  iterate 1 first
                    | (refine chain_skip (by rfl) (by rfl) ?_)
                    | (apply chain_want (by rfl)
                       · intro act wx hS hr
                         simp at hr
                         have e0 := hS.x.load
                         go_simp
                         (try go_ints)
                         first
                           | ((with_reducible refine (CY.out _ hS).mono ?_); rintro e w5 ⟨rfl, hb5⟩; exact Done.mk hb5)
                           | ((with_reducible refine (CH.out _ hS).mono ?_); rintro e w5 ⟨rfl, hb5⟩; exact Done.mk hb5)
                           | exact Done.same
                      )
                  (refine chain_rel (TrV) (TrV.later) (by rfl) ?_ ?_
                   · intro act wx hS hr
                     simp at hr
                     have e0 := hS.x.load
                     obtain ⟨⟨u, hr1, hu⟩, hr2⟩ := hr
                     unfold EqV at hu
                     subst hu
                     all_goals go_simp
                     exact Done.rel (Below.refl _ _) (by simp [TrV])
                  )
                  (refine chain_rel (TrV) (TrV.later) (by rfl) ?_ ?_
                   · intro act wx hS hr
                     simp at hr
                     have e0 := hS.x.load
                     obtain ⟨hr0, u, hr1, hu⟩ := hr
                     unfold TrV at hu
                     subst hu
                     all_goals go_simp
                     exact Done.rel (Below.refl _ _) rfl
                  )
                  (refine chain_rel (TrV) (TrV.later) (by rfl) ?_ ?_
                   · intro act wx hS hr
                     simp at hr
                     have e0 := hS.x.load
                     obtain ⟨u, hr1, hu⟩ := hr
                     all_goals go_simp
                     exact Done.rel (Below.refl _ _) hu
                  )
                  show ∀ w', _ → _
                  intro w10 hw10
                  simp [Act.put]
                  case hS => exact HX.out
                  intro q16 _ q17 _ q19 _ q20 _ q21 h21
                  unfold TrV at h21
                  subst h21
                  have HEND := Lib.hid hw10
                  clear hw10 HX CY CH CV
                  go_wp2
                  go_ret
                  exact ⟨rfl, HEND.out.s.bel⟩
def sfB (l : List Nd) (W : Wd) : Nat → Bool
  | 0 => decide (W = [])
  | k + 1 => sfB l W k || (decide (0 < wyD l (W.take (k + 1))) && decide (0 < wyD (wrapL 6 0 0 l) (W.drop (k + 1))))
theorem wy_pos {l : List Nd} {W : Wd} : 0 < wyD l W ↔ 0 < cntD l W := by rw [wyD_cnt]; omega
theorem sfB_iff {l : List Nd} {W : Wd} : ∀ k, sfB l W k = true ↔ W = [] ∨ ∃ j, 1 ≤ j ∧ j ≤ k ∧ 0 < cntD l (W.take j) ∧ 0 < cntD (wrapL 6 0 0 l) (W.drop j)
  | 0 => by
    unfold sfB
    rw [decide_eq_true_iff]
    exact ⟨fun h => .inl h, fun h => by rcases h with h | ⟨j, h1, h2, -⟩; exact h; omega⟩
  | k + 1 => by
    unfold sfB
    rw [Bool.or_eq_true, Bool.and_eq_true, decide_eq_true_iff, decide_eq_true_iff, sfB_iff k, wy_pos, wy_pos]
    constructor
    · rintro ((h | ⟨j, h1, h2, h3⟩) | h)
      · exact .inl h
      · exact .inr ⟨j, h1, by omega, h3⟩
      · exact .inr ⟨k + 1, by omega, Nat.le_refl _, h⟩
    · rintro (h | ⟨j, h1, h2, h3⟩)
      · exact .inl (.inl h)
      · by_cases e : j = k + 1
        · subst e; exact .inr h3
        · exact .inl (.inr ⟨j, h1, by omega, h3⟩)
theorem sfB_end {l : List Nd} {W : Wd} (hl : Form l) : sfB l W W.length = decide (0 < wyD (wrapL 6 0 0 l) W) := by
  rw [Bool.eq_iff_iff, decide_eq_true_iff, sfB_iff, wy_pos, star_has hl]
structure CgS (w0 : World) (A : Option Addr) (l : List Nd) (c : Nat) (Aw : Option Addr) (cw : Nat) (W : Wd) (bs_ : Nat) (As : Option Addr) (n1 cs : Nat) (w : World) : Prop where
  s : CwS w0 A l c Aw cw W w
  x : Dx bs_ As (wrapL 6 0 0 l) n1 cs w
theorem CgS.later {w0 w w' : World} {A : Option Addr} {l : List Nd} {c : Nat} {Aw : Option Addr} {cw : Nat} {W : Wd} {bs_ : Nat} {As : Option Addr} {n1 cs : Nat} (h : CgS w0 A l c Aw cw W bs_ As n1 cs w) (hb : Below w.heap.size w w') : CgS w0 A l c Aw cw W bs_ As n1 cs w' := ⟨h.s.later hb, h.x.later hb⟩
def CsrL (w0 : World) (A : Option Addr) (l : List Nd) (c : Nat) (Aw : Option Addr) (cw : Nat) (W : Wd) (bs_ : Nat) (As : Option Addr) (n1 cs : Nat) (x6 x7 : Value) (w : World) : Prop :=
  ∃ k : Nat, k ≤ W.length ∧ x7 = .int .i64 ((k + 1 : Nat) : Int) ∧ x6 = .bool (sfB l W k) ∧ CgS w0 A l c Aw cw W bs_ As n1 cs w
structure CqrS (w0 : World) (A : Option Addr) (l : List Nd) (c : Nat) (Aw : Option Addr) (cw : Nat) (W : Wd) (bs_ : Nat) (As : Option Addr) (n1 cs : Nat) (b1 : Nat) (A1 : Option Addr) (c1 : Nat) (b2 : Nat) (A2 : Option Addr) (c2 : Nat) (b3 : Nat) (A3 : Option Addr) (c3 : Nat) (w : World) : Prop where
  s : CgS w0 A l c Aw cw W bs_ As n1 cs w
  x1 : Dx b1 A1 (wrapL 7 1 1 l) n1 c1 w
  x2 : Dx b2 A2 (wrapL 7 0 0 l) n1 c2 w
  x3 : Dx b3 A3 (wrapL 7 0 255 l) n1 c3 w
theorem CqrS.later {w0 w w' : World} {A : Option Addr} {l : List Nd} {c : Nat} {Aw : Option Addr} {cw : Nat} {W : Wd} {bs_ : Nat} {As : Option Addr} {n1 cs : Nat} {b1 : Nat} {A1 : Option Addr} {c1 : Nat} {b2 : Nat} {A2 : Option Addr} {c2 : Nat} {b3 : Nat} {A3 : Option Addr} {c3 : Nat} (h : CqrS w0 A l c Aw cw W bs_ As n1 cs b1 A1 c1 b2 A2 c2 b3 A3 c3 w) (hb : Below w.heap.size w w') : CqrS w0 A l c Aw cw W bs_ As n1 cs b1 A1 c1 b2 A2 c2 b3 A3 c3 w' := ⟨h.s.later hb, h.x1.later hb, h.x2.later hb, h.x3.later hb⟩
set_option maxHeartbeats 64000000 in
set_option maxRecDepth 1000000 in
theorem countstar_walk (l : List Nd) (A : Option Addr) (c : Nat) (W : Wd) (Aw : Option Addr) (cw : Nat) (hc1 : l.length ≤ c) (hl : l.length ≤ 9223372036854775807) (htx : Txt l) (hwl : W.length ≤ 9223372036854775807) (w : World) (hrow : NRow w A l) (hwd : WdA w Aw cw W) :
    Calls Try.prog 6 #[.agg #[.slice A l.length c], .slice Aw W.length cw] w (Ans w (.bool true)) := by
  have HB := (Below.refl w.heap.size w).alloc (Nat.le_refl _) (.cells #[.slice A l.length c] 24)
  have HS0 : Hid (CwS w A l c Aw cw W (w.alloc (.cells #[.slice A l.length c] 24))) := ⟨HB, hrow.later HB, Blk.new _ _ _, fun k => (hwd.2 (by omega)).later HB⟩
  have HTX := Lib.hid htx
  have hn9 : (W.length : Int) ≤ 9223372036854775807 := by omega
  have hcw : W.length ≤ cw := hwd.1
  clear hrow HB htx hwd
  go_enter Try.func6, Try.ntmps6
  go_upto_region 1 with (fail)
  generalize w.alloc (.cells #[.slice A l.length c] 24) = w1 at *
  go_wp2_with fail
  refine (awake12_any _).mono ?_; rintro e w2 ⟨rfl, hb⟩
  have HS2 := Lib.hid (HS0.out.later hb)
  clear hb HS0
  have e0 := HS2.out.box.cell 0
  simp at e0
  have HF := Lib.hid (few_any l A c hl HTX.out _ HS2.out.row)
  cases hf : fewB l with
  | false =>
    rw [hf] at HF
    clear hf
    go_wp2_with fail
    refine HF.out.mono ?_; rintro e w3 ⟨rfl, hb⟩
    have HS3 := Lib.hid (HS2.out.later hb)
    clear hb e0 HF HS2
    go_wp2_with fail
    refine (awake12_any _).mono ?_; rintro e w4 ⟨rfl, hb⟩
    have HSY := Lib.hid (HS3.out.later hb)
    clear hb
    go_wp2
    go_ret
    exact ⟨rfl, HSY.out.bel⟩
  | true =>
    rw [hf] at HF
    have L1 := Lib.hid (few_txt hf).1
    have HFW := Lib.hid hf
    clear hf
    go_wp2_with fail
    refine HF.out.mono ?_; rintro e w3 ⟨rfl, hb⟩
    have HS3 := Lib.hid (HS2.out.later hb)
    clear hb e0 HF HS2
    have e0 := HS3.out.box.cell 0
    simp at e0
    have HF := Lib.hid (rfits_any A Aw l.length c W.length cw w3 hl hwl)
    cases hf : fitsB l.length W.length with
    | false =>
      rw [hf] at HF
      clear hf
      go_wp2_with fail
      refine HF.out.mono ?_; rintro e w4 ⟨rfl, hb⟩
      have HS4 := Lib.hid (HS3.out.later hb)
      clear hb e0 HF HS3
      go_wp2_with fail
      refine (awake12_any _).mono ?_; rintro e w5 ⟨rfl, hb⟩
      have HSY := Lib.hid (HS4.out.later hb)
      clear hb
      go_wp2
      go_ret
      exact ⟨rfl, HSY.out.bel⟩
    | true =>
      rw [hf] at HF
      have HW8 : Hid (W.length ≤ 8) := by
        unfold fitsB at hf
        simp at hf
        exact hf.2
      clear hf
      go_wp2_with fail
      refine HF.out.mono ?_; rintro e w4 ⟨rfl, hb⟩
      have HS4 := Lib.hid (HS3.out.later hb)
      clear hb e0 HF HS3
      have e0 := HS4.out.box.cell 0
      simp at e0
      have HF := Lib.hid (rright_any l A c hc1 (by have := L1.out; omega) HTX.out _ HS4.out.row)
      cases hf : rgB l with
      | false =>
        rw [hf] at HF
        clear hf
        go_wp2_with fail
        refine HF.out.mono ?_; rintro e w5 ⟨rfl, hb⟩
        have HS5 := Lib.hid (HS4.out.later hb)
        clear hb e0 HF HS4
        go_wp2_with fail
        refine (awake12_any _).mono ?_; rintro e w6 ⟨rfl, hb⟩
        have HSY := Lib.hid (HS5.out.later hb)
        clear hb
        go_wp2
        go_ret
        exact ⟨rfl, HSY.out.bel⟩
      | true =>
        rw [hf] at HF
        have hrg := (rgB_iff l).1 hf
        have HPL := Lib.hid (few_sp HFW.out hrg.1)
        have HSC := Lib.hid (few_sc HFW.out hrg.1)
        have HRG := Lib.hid hrg
        have hpos := hrg.1.1
        clear hf hrg
        go_wp2_with fail
        refine HF.out.mono ?_; rintro e w5 ⟨rfl, hb⟩
        have HS5 := Lib.hid (HS4.out.later hb)
        clear hb e0 HF HS4
        have e0 := HS5.out.box.cell 0
        simp at e0
        have hlz1 : (1 : Int) ≤ (l.length : Int) := by omega
        have hlz2 : (l.length : Int) ≤ 100 := by have := L1.out; omega
        have HF := Lib.hid ((HS5.out.isD hc1).rways HPL.out.sm (i := l.length - 1) (by omega) rfl)
        rw [show ((l.length - 1 : Nat) : Int) = (l.length : Int) - 1 by omega] at HF
        by_cases hw0 : wyN l (l.length - 1) = 0
        · rw [hw0] at HF
          have HNV := Lib.hid (cnt_never HRG.out hw0)
          clear hw0
          go_wp2_with fail
          refine HF.out.mono ?_; rintro e w6 ⟨rfl, hb⟩
          have HS6 := Lib.hid (HS5.out.later hb)
          clear hb e0 HF HS5
          have e0 := HS6.out.box.cell 0
          simp at e0
          obtain ⟨n1, hn1⟩ : ∃ n1, l.length + 1 = n1 := ⟨_, rfl⟩
          have HN1 := Lib.hid hn1
          clear hn1
          have CALL := Lib.hid ((HS6.out.isD hc1).rwrap HPL.out.sm 6 0 0)
          go_wp2_with fail
          refine CALL.out.mono ?_; intro e v hp; obtain ⟨s, rfl, ho, hb⟩ := hp
          obtain ⟨As, cs, hc, hv, hr⟩ := ho.isD
          have el : (wrapL 6 0 0 l).length = n1 := (wrapL_ln 6 0 0 l).trans HN1.out
          rw [el] at hc hv
          obtain rfl : s = .slice As n1 cs := by simpa using hv
          have hbb := hb.trans ((Below.refl _ _).alloc hb.size (.cells #[.slice As n1 cs] 24))
          have HXS : Hid (Dx v.heap.size As (wrapL 6 0 0 l) n1 cs _) := dx_of hr el hc
          clear CALL hb ho hr hv hc el
          have HG7 : Hid (CgS w A l c Aw cw W v.heap.size As n1 cs (v.alloc (.cells #[.slice As n1 cs] 24))) := ⟨HS6.out.later hbb, HXS.out⟩
          clear hbb HXS e0 HS6
          go_upto_region 4 with (fail)
          generalize v.alloc (.cells #[.slice As n1 cs] 24) = w7 at *
          generalize v.heap.size = bs_ at *
          have hnn : W.length = 0 ↔ W = [] := List.length_eq_zero_iff
          have hq : ((W.length : Int) == 0) = sfB l W 0 := by
            unfold sfB
            rw [Bool.eq_iff_iff, beq_iff_eq, decide_eq_true_iff, ← hnn]; omega
          have HQ := Lib.hid hq
          have hw8 : (W.length : Int) ≤ 8 := by have := HW8.out; omega
          have HG0 : Hid (CsrL w A l c Aw cw W bs_ As n1 cs (.bool (sfB l W 0)) (.int .i64 1) w7) := ⟨0, Nat.zero_le _, rfl, rfl, HG7.out⟩
          have HWS : Hid (wrapL 6 0 0 l = wrapL 6 0 0 l) := rfl
          have HSP6 := Lib.hid (HPL.out.wrap (by have := L1.out; omega) (kind := 6) (.inl rfl))
          have HSC6 := Lib.hid (Sp.sc HSP6.out (wrapc_tx HSC.out.tx))
          clear hnn HG7
          go_wp2
          go_loopw [6, 7] (CsrL w A l c Aw cw W bs_ As n1 cs) (fun _ x _ => W.length + 2 - (intOf x).toNat)
          case atStart => exact HG0.out
          case round =>
            obtain ⟨k, hk, rfl, rfl, hs⟩ := hrel
            have HS := Lib.hid hs
            clear hs HG0
            by_cases hlt : k < W.length
            · have hltz : ((k + 1 : Nat) : Int) ≤ (W.length : Int) := by omega
              have hkw : k + 1 ≤ W.length := by omega
              have HNX : Hid (sfB l W (k + 1) = (sfB l W k || (decide (0 < wyD l (W.take (k + 1))) && decide (0 < wyD (wrapL 6 0 0 l) (W.drop (k + 1)))))) := rfl
              have H1 : Hid (∀ w', CgS w A l c Aw cw W bs_ As n1 cs w' → Calls Try.prog 14 #[.agg #[.slice A l.length c], .slice Aw (k + 1) cw] w' (Ans w' (.bool (decide (0 < wyD l (W.take (k + 1))))))) := fun w' h => (h.s.isD hc1).chas HSC.out ((h.s.wd HW8.out).taken hkw) (by rw [List.length_take]; have := HW8.out; omega)
              have H2 : Hid (∀ u w', CgS w A l c Aw cw W bs_ As n1 cs w' → IsW (W.drop (k + 1)) u w' → Calls Try.prog 14 #[.agg #[.slice As n1 cs], u] w' (Ans w' (.bool (decide (0 < wyD (wrapL 6 0 0 l) (W.drop (k + 1))))))) := fun u w' h hu => h.x.isD.chas HSC6.out hu (by rw [List.length_drop]; have := HW8.out; omega)
              have HKW := Lib.hid hkw
              obtain ⟨z, hz⟩ : ∃ z, sfB l W (k + 1) = z := ⟨_, rfl⟩
              have HZK := Lib.hid hz
              rw [hz] at HNX
              have hkc : ((k + 1 : Nat) : Int) ≤ (cw : Int) := by omega
              have hkk : ((k + 1 : Nat) : Int) = (k : Int) + 1 := by omega
              generalize sfB l W k = x at *
              generalize decide (0 < wyD l (W.take (k + 1))) = y1 at *
              generalize decide (0 < wyD (wrapL 6 0 0 l) (W.drop (k + 1))) = y2 at *
              obtain ⟨k1, hk1⟩ : ∃ k1, k + 1 = k1 := ⟨_, rfl⟩
              have HK1 := Lib.hid hk1
              rw [hk1] at hkc hltz hkw HKW H1 H2 ⊢
              clear hz hkk hk1
              cases x with
              | true =>
                have HNZ : Hid (z = true) := by unfold Hid; rw [HNX.out]; rfl
                go_upto_region 8 with (fail)
                refine wp_region_stable (S := (CgS w A l c Aw cw W bs_ As n1 cs)) (hSt := fun _ _ h hb => h.later hb) (plan := [[(6, none)], [(50, some 0)], [(2, none)], [(1, none)], [(7, none)], [(53, some 3), (54, some 4)], [(52, some 2), (55, some 5)], [(56, some 6)], [(5, none)], [(1, none)], [(7, none)], [(59, some 9), (60, some 10)], [(58, some 8), (61, some 11)], [(57, some 7), (62, some 12)], [(51, some 1), (63, some 13)], [(64, some 14)]]) (by kernel_rfl) (by kernel_rfl) (by kernel_rfl) ?hS ?_
                rotate_left
                iterate 16 first
                  | (refine chain_skip (by rfl) (by rfl) ?_)
                  | (apply chain_want (by rfl)
                     · intro act wx hS hr
                       simp at hr
                       have e0 := hS.s.box.cell 0
                       simp at e0
                       have e1 := hS.x.load
                       go_simp
                       (try go_ints)
                       first
                         | ((with_reducible refine (H1.out _ hS).mono ?_); rintro e w5 ⟨rfl, hb5⟩; exact Done.mk hb5)
                         | (obtain ⟨hr1, v, hr2, hv⟩ := hr; have hv : IsW (W.drop k1) v wx := hv; simp only [hr1, hr2, Option.getD_some]; (with_reducible refine (H2.out _ _ hS hv).mono ?_); rintro e w5 ⟨rfl, hb5⟩; exact Done.mk hb5)
                         | exact Done.same
                    )
                show ∀ w', _ → _
                intro w9 hw9
                simp [Act.put]
                case hS => exact HS.out
                (try intro v11 _)
                have HN9 := Lib.hid hw9
                clear hw9 HS H1 H2
                go_wp2
                go_roundw
                case rel => exact ⟨k + 1, by have := HK1.out; omega, by have := HK1.out; go_num, by rw [HZK.out, HNZ.out], HN9.out⟩
                case measure => have := HK1.out; simp [intOf]; omega
              | false =>
                cases y1 with
                | false =>
                  have HNZ : Hid (z = false) := by unfold Hid; rw [HNX.out]; rfl
                  go_upto_region 8 with (fail)
                  refine wp_region_stable (S := (CgS w A l c Aw cw W bs_ As n1 cs)) (hSt := fun _ _ h hb => h.later hb) (plan := [[(6, none)], [(50, some 0)], [(2, none)], [(1, none)], [(7, none)], [(53, some 3), (54, some 4)], [(52, some 2), (55, some 5)], [(56, some 6)], [(5, none)], [(1, none)], [(7, none)], [(59, some 9), (60, some 10)], [(58, some 8), (61, some 11)], [(57, some 7), (62, some 12)], [(51, some 1), (63, some 13)], [(64, some 14)]]) (by kernel_rfl) (by kernel_rfl) (by kernel_rfl) ?hS ?_
                  rotate_left
                  iterate 16 first
                    | (refine chain_skip (by rfl) (by rfl) ?_)
                    | (apply chain_want (by rfl)
                       · intro act wx hS hr
                         simp at hr
                         have e0 := hS.s.box.cell 0
                         simp at e0
                         have e1 := hS.x.load
                         go_simp
                         (try go_ints)
                         first
                           | ((with_reducible refine (H1.out _ hS).mono ?_); rintro e w5 ⟨rfl, hb5⟩; exact Done.mk hb5)
                           | (obtain ⟨hr1, v, hr2, hv⟩ := hr; have hv : IsW (W.drop k1) v wx := hv; simp only [hr1, hr2, Option.getD_some]; (with_reducible refine (H2.out _ _ hS hv).mono ?_); rintro e w5 ⟨rfl, hb5⟩; exact Done.mk hb5)
                           | exact Done.same
                      )
                  show ∀ w', _ → _
                  intro w9 hw9
                  simp [Act.put]
                  case hS => exact HS.out
                  (try intro v11 _)
                  have HN9 := Lib.hid hw9
                  clear hw9 HS H1 H2
                  go_wp2
                  go_roundw
                  case rel => exact ⟨k + 1, by have := HK1.out; omega, by have := HK1.out; go_num, by rw [HZK.out, HNZ.out], HN9.out⟩
                  case measure => have := HK1.out; simp [intOf]; omega
                | true =>
                  have HNZ : Hid (z = y2) := by unfold Hid; rw [HNX.out]; rfl
                  go_upto_region 8 with (fail)
                  refine wp_region_stable (S := (CgS w A l c Aw cw W bs_ As n1 cs)) (hSt := fun _ _ h hb => h.later hb) (plan := [[(6, none)], [(50, some 0)], [(2, none)], [(1, none)], [(7, none)], [(53, some 3), (54, some 4)], [(52, some 2), (55, some 5)], [(56, some 6)], [(5, none)], [(1, none)], [(7, none)], [(59, some 9), (60, some 10)], [(58, some 8), (61, some 11)], [(57, some 7), (62, some 12)], [(51, some 1), (63, some 13)], [(64, some 14)]]) (by kernel_rfl) (by kernel_rfl) (by kernel_rfl) ?hS ?_
                  rotate_left
                  iterate 11 first
                    | (refine chain_skip (by rfl) (by rfl) ?_)
                    | (apply chain_want (by rfl)
                       · intro act wx hS hr
                         simp at hr
                         have e0 := hS.s.box.cell 0
                         simp at e0
                         have e1 := hS.x.load
                         go_simp
                         (try go_ints)
                         first
                           | ((with_reducible refine (H1.out _ hS).mono ?_); rintro e w5 ⟨rfl, hb5⟩; exact Done.mk hb5)
                           | (obtain ⟨hr1, v, hr2, hv⟩ := hr; have hv : IsW (W.drop k1) v wx := hv; simp only [hr1, hr2, Option.getD_some]; (with_reducible refine (H2.out _ _ hS hv).mono ?_); rintro e w5 ⟨rfl, hb5⟩; exact Done.mk hb5)
                           | exact Done.same
                      )
                  (refine chain_rel (DrW W k1) (DrW.later W k1) (by rfl) ?_ ?_
                   · intro act wx hS hr
                     simp at hr
                     have e0 := hS.s.box.cell 0
                     simp at e0
                     have e1 := hS.x.load
                     all_goals go_simp
                     exact Done.rel (Below.refl _ _) (IsW.cut (hS.s.wd HW8.out) HKW.out)
                  )
                  iterate 4 first
                    | (refine chain_skip (by rfl) (by rfl) ?_)
                    | (apply chain_want (by rfl)
                       · intro act wx hS hr
                         simp at hr
                         have e0 := hS.s.box.cell 0
                         simp at e0
                         have e1 := hS.x.load
                         go_simp
                         (try go_ints)
                         first
                           | ((with_reducible refine (H1.out _ hS).mono ?_); rintro e w5 ⟨rfl, hb5⟩; exact Done.mk hb5)
                           | (obtain ⟨hr1, v, hr2, hv⟩ := hr; have hv : IsW (W.drop k1) v wx := hv; simp only [hr1, hr2, Option.getD_some]; (with_reducible refine (H2.out _ _ hS hv).mono ?_); rintro e w5 ⟨rfl, hb5⟩; exact Done.mk hb5)
                           | exact Done.same
                      )
                  show ∀ w', _ → _
                  intro w9 hw9
                  simp [Act.put]
                  case hS => exact HS.out
                  (try intro v11 _)
                  have HN9 := Lib.hid hw9
                  clear hw9 HS H1 H2
                  go_wp2
                  go_roundw
                  case rel => exact ⟨k + 1, by have := HK1.out; omega, by have := HK1.out; go_num, by rw [HZK.out, HNZ.out], HN9.out⟩
                  case measure => have := HK1.out; simp [intOf]; omega
            · obtain rfl : k = W.length := by omega
              have hlast : ¬ ((W.length + 1 : Nat) : Int) ≤ (W.length : Int) := by omega
              have HFE := Lib.hid (sfB_end (W := W) HSC.out.form)
              rw [HFE.out]
              have h1 : wyD (wrapL 7 1 1 l) W = wyD l W := by rw [wyD_cnt, wyD_cnt, repC_one HSC.out.form HNV.out]
              have h2 : decide (0 < wyD (wrapL 7 0 0 l) W) = decide (W = []) := by
                rw [decide_eq_decide, wy_pos, repC_none HSC.out.form]
                constructor
                · intro h
                  split at h
                  · assumption
                  · omega
                · intro h; rw [if_pos h]; omega
              have h3 : wyD (wrapL 7 0 255 l) W = wyD (wrapL 6 0 0 l) W := by rw [wyD_cnt, wyD_cnt, rep_most HSC.out.form (by have := HW8.out; omega)]
              have HH1 := Lib.hid h1
              have HH2 := Lib.hid h2
              have HH3 := Lib.hid h3
              have HSC1 := Lib.hid (Sp.sc (HPL.out.rep (by have := L1.out; omega) (lo := 1) (hi := 1) (by omega) (by omega) (by omega)) (wrapc_tx HSC.out.tx))
              have HSC2 := Lib.hid (Sp.sc (HPL.out.rep (by have := L1.out; omega) (lo := 0) (hi := 0) (by omega) (by omega) (by omega)) (wrapc_tx HSC.out.tx))
              have HSC3 := Lib.hid (Sp.sc (HPL.out.rep (by have := L1.out; omega) (lo := 0) (hi := 255) (by omega) (by omega) (by omega)) (wrapc_tx HSC.out.tx))
              clear h1 h2 h3
              have e0 := HS.out.s.box.cell 0
              simp at e0
              have HT := Lib.hid HS.out.s
              have CALL := Lib.hid ((HT.out.isD hc1).rwrap HPL.out.sm 7 1 1)
              go_wp2_with fail
              refine CALL.out.mono ?_; intro e v hp; obtain ⟨s, rfl, ho, hb⟩ := hp
              obtain ⟨A1, c1, hc, hv, hr⟩ := ho.isD
              have el : (wrapL 7 1 1 l).length = n1 := (wrapL_ln 7 1 1 l).trans HN1.out
              rw [el] at hc hv
              obtain rfl : s = .slice A1 n1 c1 := by simpa using hv
              have hbb := hb.trans ((Below.refl _ _).alloc hb.size (.cells #[.slice A1 n1 c1] 24))
              have HO1 : Hid (Dx v.heap.size A1 (wrapL 7 1 1 l) n1 c1 _) := dx_of hr el hc
              clear CALL hb ho hr hv hc el
              have HS9 := Lib.hid (HS.out.later hbb)
              clear hbb HS HT e0
              go_upto_region 10 with (fail)
              generalize v.alloc (.cells #[.slice A1 n1 c1] 24) = w9 at *
              generalize v.heap.size = b1 at *
              have e0 := HS9.out.s.box.cell 0
              simp at e0
              have HT := Lib.hid HS9.out.s
              have CALL := Lib.hid ((HT.out.isD hc1).rwrap HPL.out.sm 7 0 0)
              go_wp2_with fail
              refine CALL.out.mono ?_; intro e v hp; obtain ⟨s, rfl, ho, hb⟩ := hp
              obtain ⟨A2, c2, hc, hv, hr⟩ := ho.isD
              have el : (wrapL 7 0 0 l).length = n1 := (wrapL_ln 7 0 0 l).trans HN1.out
              rw [el] at hc hv
              obtain rfl : s = .slice A2 n1 c2 := by simpa using hv
              have hbb := hb.trans ((Below.refl _ _).alloc hb.size (.cells #[.slice A2 n1 c2] 24))
              have HO2 : Hid (Dx v.heap.size A2 (wrapL 7 0 0 l) n1 c2 _) := dx_of hr el hc
              clear CALL hb ho hr hv hc el
              have HS10 := Lib.hid (HS9.out.later hbb)
              have HO1b := Lib.hid (HO1.out.later hbb)
              clear hbb HS9 HT e0 HO1
              go_upto_region 11 with (fail)
              generalize v.alloc (.cells #[.slice A2 n1 c2] 24) = w10 at *
              generalize v.heap.size = b2 at *
              have e0 := HS10.out.s.box.cell 0
              simp at e0
              have HT := Lib.hid HS10.out.s
              have CALL := Lib.hid ((HT.out.isD hc1).rwrap HPL.out.sm 7 0 255)
              go_wp2_with fail
              refine CALL.out.mono ?_; intro e v hp; obtain ⟨s, rfl, ho, hb⟩ := hp
              obtain ⟨A3, c3, hc, hv, hr⟩ := ho.isD
              have el : (wrapL 7 0 255 l).length = n1 := (wrapL_ln 7 0 255 l).trans HN1.out
              rw [el] at hc hv
              obtain rfl : s = .slice A3 n1 c3 := by simpa using hv
              have hbb := hb.trans ((Below.refl _ _).alloc hb.size (.cells #[.slice A3 n1 c3] 24))
              have HO3 : Hid (Dx v.heap.size A3 (wrapL 7 0 255 l) n1 c3 _) := dx_of hr el hc
              clear CALL hb ho hr hv hc el
              have HQ11 : Hid (CqrS w A l c Aw cw W bs_ As n1 cs b1 A1 c1 b2 A2 c2 v.heap.size A3 c3 _) := ⟨HS10.out.later hbb, HO1b.out.later hbb, HO2.out.later hbb, HO3.out⟩
              clear hbb HS10 HT e0 HO1b HO2 HO3
              go_upto_region 12 with (fail)
              generalize v.alloc (.cells #[.slice A3 n1 c3] 24) = w11 at *
              generalize v.heap.size = b3 at *
              have hw9 : W.length ≤ 900 := by have := HW8.out; omega
              have CS : Hid (∀ w', CqrS w A l c Aw cw W bs_ As n1 cs b1 A1 c1 b2 A2 c2 b3 A3 c3 w' → Calls Try.prog 14 #[.agg #[.slice As n1 cs], .slice Aw W.length cw] w' (Ans w' (.bool (decide (0 < wyD (wrapL 6 0 0 l) W))))) := fun w' h => h.s.x.isD.chas HSC6.out (h.s.s.wd HW8.out) hw9
              have CT : Hid (∀ w', CqrS w A l c Aw cw W bs_ As n1 cs b1 A1 c1 b2 A2 c2 b3 A3 c3 w' → Calls Try.prog 13 #[.agg #[.slice As n1 cs], .slice Aw W.length cw] w' (Ans w' (.int .i64 ((wyD (wrapL 6 0 0 l) W : Nat) : Int)))) := fun w' h => h.s.x.isD.cways HSC6.out (h.s.s.wd HW8.out) hw9
              have CD : Hid (∀ w', CqrS w A l c Aw cw W bs_ As n1 cs b1 A1 c1 b2 A2 c2 b3 A3 c3 w' → Calls Try.prog 13 #[.agg #[.slice A l.length c], .slice Aw W.length cw] w' (Ans w' (.int .i64 ((wyD l W : Nat) : Int)))) := fun w' h => (h.s.s.isD hc1).cways HSC.out (h.s.s.wd HW8.out) hw9
              have C1 : Hid (∀ w', CqrS w A l c Aw cw W bs_ As n1 cs b1 A1 c1 b2 A2 c2 b3 A3 c3 w' → Calls Try.prog 13 #[.agg #[.slice A1 n1 c1], .slice Aw W.length cw] w' (Ans w' (.int .i64 ((wyD l W : Nat) : Int)))) := fun w' h => by
                have := h.x1.isD.cways HSC1.out (h.s.s.wd HW8.out) hw9
                rwa [HH1.out] at this
              have C2 : Hid (∀ w', CqrS w A l c Aw cw W bs_ As n1 cs b1 A1 c1 b2 A2 c2 b3 A3 c3 w' → Calls Try.prog 14 #[.agg #[.slice A2 n1 c2], .slice Aw W.length cw] w' (Ans w' (.bool (decide (W = []))))) := fun w' h => by
                have := h.x2.isD.chas HSC2.out (h.s.s.wd HW8.out) hw9
                rwa [HH2.out] at this
              have C3 : Hid (∀ w', CqrS w A l c Aw cw W bs_ As n1 cs b1 A1 c1 b2 A2 c2 b3 A3 c3 w' → Calls Try.prog 13 #[.agg #[.slice A3 n1 c3], .slice Aw W.length cw] w' (Ans w' (.int .i64 ((wyD (wrapL 6 0 0 l) W : Nat) : Int)))) := fun w' h => by
                have := h.x3.isD.cways HSC3.out (h.s.s.wd HW8.out) hw9
                rwa [HH3.out] at this
              have hq0 : ((W.length : Int) == 0) = decide (W = []) := HQ.out
              clear HH1 HH2 HH3 HFE hq
              generalize decide (W = []) = q0 at *
              generalize decide (0 < wyD (wrapL 6 0 0 l) W) = qs at *
              generalize wyD (wrapL 6 0 0 l) W = ns at *
              generalize wyD l W = n at *
              refine wp_region_stable (S := (CqrS w A l c Aw cw W bs_ As n1 cs b1 A1 c1 b2 A2 c2 b3 A3 c3)) (hSt := fun _ _ h hb => h.later hb) (plan := [[(5, none)], [(1, none)], [(71, some 0), (72, some 1)], [(6, none)], [(73, some 2), (74, some 3)], [(75, some 4)], [(8, none)], [(1, none)], [(77, some 6), (78, some 7)], [(2, none)], [(1, none)], [(80, some 9), (81, some 10)], [(79, some 8), (82, some 11)], [(76, some 5), (83, some 12)], [(84, some 13)], [(9, none)], [(1, none)], [(86, some 15), (87, some 16)], [(1, none)], [(89, some 18)], [(90, some 19)], [(88, some 17), (91, some 20)], [(85, some 14), (92, some 21)], [(93, some 22)], [(10, none)], [(1, none)], [(95, some 24), (96, some 25)], [(5, none)], [(1, none)], [(98, some 27), (99, some 28)], [(97, some 26), (100, some 29)], [(94, some 23), (101, some 30)], [(102, some 31)]]) (by kernel_rfl) (by kernel_rfl) (by kernel_rfl) ?hS ?_
              rotate_left
              iterate 33 first
                | (refine chain_skip (by rfl) (by rfl) ?_)
                | (apply chain_want (by rfl)
                   · intro act wx hS hr
                     simp at hr
                     have e0 := hS.s.s.box.cell 0
                     simp at e0
                     have e1 := hS.s.x.load
                     have e2 := hS.x1.load
                     have e3 := hS.x2.load
                     have e4 := hS.x3.load
                     go_simp
                     (try go_ints)
                     first
                       | ((with_reducible refine (CS.out _ hS).mono ?_); rintro e w5 ⟨rfl, hb5⟩; exact Done.mk hb5)
                       | ((with_reducible refine (CT.out _ hS).mono ?_); rintro e w5 ⟨rfl, hb5⟩; exact Done.mk hb5)
                       | ((with_reducible refine (CD.out _ hS).mono ?_); rintro e w5 ⟨rfl, hb5⟩; exact Done.mk hb5)
                       | ((with_reducible refine (C1.out _ hS).mono ?_); rintro e w5 ⟨rfl, hb5⟩; exact Done.mk hb5)
                       | ((with_reducible refine (C2.out _ hS).mono ?_); rintro e w5 ⟨rfl, hb5⟩; exact Done.mk hb5)
                       | ((with_reducible refine (C3.out _ hS).mono ?_); rintro e w5 ⟨rfl, hb5⟩; exact Done.mk hb5)
                       | exact Done.same
                  )
              show ∀ w', _ → _
              intro w12 hw12
              simp [Act.put]
              case hS => exact HQ11.out
              have HEND := Lib.hid hw12
              clear hw12 HQ11 CS CT CD C1 C2 C3
              go_wp2
              go_ret
              exact ⟨by simp, HEND.out.s.s.bel⟩
        · have hne : (((wyN l (l.length - 1) : Nat) : Int) != 0) = true := by simp [hw0]
          have hne2 : (((wyN l (l.length - 1) : Nat) : Int) == 0) = false := by simp [hw0]
          generalize wyN l (l.length - 1) = wy at *
          clear hw0
          go_wp2_with fail
          refine HF.out.mono ?_; rintro e w6 ⟨rfl, hb⟩
          have HS6 := Lib.hid (HS5.out.later hb)
          clear hb e0 HF HS5
          go_wp2_with fail
          refine (awake12_any _).mono ?_; rintro e w7 ⟨rfl, hb⟩
          have HSY := Lib.hid (HS6.out.later hb)
          clear hb
          go_wp2
          go_ret
          exact ⟨rfl, HSY.out.bel⟩
end Go.Proofs.Ytpbbokdmoaadfaa
