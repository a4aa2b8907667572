/- What a value of a part writes behind others: the program's walk; what a value writes. -/
import Derived.Test.YtgdlbahfmddkaaaM36
import Derived.Test.YtgdlbahfmddkaaaM30
import Derived.Test.YtgdlbahfmddkaaaM32
import Derived.Test.YtgdlbahfmddkaaaM20
import Derived.Test.YtgdlbahfmddkaaaM21
namespace Go.Proofs.Ytgdlbahfmddkaaa
open Go Go.RowKit
set_option linter.unusedVariables false
set_option linter.unusedSimpArgs false
set_option maxRecDepth 100000

theorem gth_len {l : List Nd} (htx : ∀ n ∈ l, n.text.length ≤ 2000) (m : Nat) : ∀ (s : Vs) (f : Nat → Nat) (V : Wd), gthW m (wrS l f s) = some V → V.length ≤ 2002 * cntVs s
  | .nil, f, V, h => by
    have : V = [] := by simpa [wrS, gthW] using h.symm
    rw [this]; simp
  | .cons k b t p ks r, f, V, h => by
    rw [wrS, gthW] at h
    cases hf : fitW m (valW (atN l (f 0)) k b t p (wrS l (fun j => (kidN (atN l (f 0)) p j).toNat) ks)) with
    | none => rw [hf] at h; cases h
    | some w =>
      rw [hf] at h
      cases hg : gthW m (wrS l (fun j => f (j + 1)) r) with
      | none => rw [hg] at h; cases h
      | some U =>
        rw [hg] at h
        have hV : V = w ++ U := by simpa using h.symm
        have h1 := gth_len htx m r _ U hg
        have h2 := wrV_len (l := l) htx ⟨k, b, t, p, ks⟩ (f 0) w (fit_some hf)
        rw [hV, List.length_append, cntVs]
        unfold cntV at h2
        simp only at h2
        omega
theorem wr_gth {l : List Nd} {q : Nat} {v : Vl} {n : Nd} (hn : atN l q = n) (hh : headV n v.kind v.byte v.text v.pick v.kids.len) : wrV l q v = (gthW (leastK n) (wrS l (fun j => (kidN n v.pick j).toNat) v.kids)).bind (capW n v.byte) := by
  unfold wrV
  rw [hn, gth_val, wrS_length, if_pos hh]
structure PaS (w0 : World) (A : Option Addr) (l : List Nd) (c : Nat) (v : Vl) (B : Option Addr) (cv : Nat) (ba oa : Nat) (n : Nd) (w : World) : Prop where
  bel : Below w0.heap.size w0 w
  box : Blk w w0.heap.size #[.slice A l.length c] 55
  bv : Blk w (w0.heap.size + 1) (vlC v B cv) 27
  lt : ba < w0.heap.size
  ten : At10 w0 ba oa n
theorem PaS.later {w0 w w' : World} {A : Option Addr} {l : List Nd} {c : Nat} {v : Vl} {B : Option Addr} {cv ba oa : Nat} {n : Nd} (h : PaS w0 A l c v B cv ba oa n w) (hb : Below w.heap.size w w') : PaS w0 A l c v B cv ba oa n w' :=
  ⟨h.bel.trans (hb.mono h.bel.size), h.box.later hb, h.bv.later hb, h.lt, h.ten⟩
theorem PaS.at10 {w0 w : World} {A : Option Addr} {l : List Nd} {c : Nat} {v : Vl} {B : Option Addr} {cv ba oa : Nat} {n : Nd} (h : PaS w0 A l c v B cv ba oa n w) : At10 w ba oa n := by
  have hc : ∀ o, w.cell? ⟨ba, o, none⟩ = w0.cell? ⟨ba, o, none⟩ := fun o => h.bel.cell (p := ⟨ba, o, none⟩) h.lt
  have := h.ten
  unfold At10 at *
  simp only [hc]
  exact this
set_option maxHeartbeats 32000000 in
theorem part_step {w0 : World} {A : Option Addr} {l : List Nd} {c q : Nat} (hF : Form l) (hc : l.length ≤ c) (hlen : l.length ≤ 536870912) (htx : ∀ n ∈ l, n.text.length ≤ 2000) (hrow : NRow w0 A l) (hq : q < l.length) (hP : ∀ p, p < q → PartC w0 A l c p) : PartC w0 A l c q := by
  intro i v B cv W ow w hqi hil hcv hkr hbd hw ho
  have hk9 : 1 ≤ (atN l q).kind ∧ (atN l q).kind ≤ 9 := by
    refine ⟨?_, (hF.2.1 q hq).kind9⟩
    obtain ⟨n, hn⟩ : ∃ n, atN l q = n := ⟨_, rfl⟩
    have ho9 := hF.2.1 q hq
    rw [hn] at ho9 ⊢
    cases ho9.cs hn with
    | leaf hk hf => unfold leafK at hk; omega
    | one hk hi0 ha hb h7 hr hcl hf => omega
    | two hk hi0 hb ha hf0 hl hcl hf => omega
  have hvl : v.kids.len < 4611686018427387904 := by have := cntVs_len v.kids; unfold cntV at hbd; omega
  have hIO : ∀ w', Calls Try.prog 34 #[.agg (ndC (atN l q)), .agg (vlC v B cv)] w' (Ans w' (.bool (decide (headV (atN l q) v.kind v.byte v.text v.pick v.kids.len)))) := fun w' => visof_any _ hk9.1 hk9.2 v B cv w' hvl
  have HIO := Lib.hid hIO
  -- the node's own kids stand ahead of it
  have hkid : headV (atN l q) v.kind v.byte v.text v.pick v.kids.len → ∀ k, k < v.kids.len → ∃ p : Nat, kidN (atN l q) v.pick k = (p : Int) ∧ p < q := fun hh k hk => by
    obtain ⟨n, hn⟩ : ∃ n, atN l q = n := ⟨_, rfl⟩
    have ho9 := hF.2.1 q hq
    rw [hn] at ho9 hh ⊢
    have hc1 := hh.2.2.2.2.2.1
    clear hh
    cases ho9.cs hn with
    | leaf hk9 hf => unfold leafK at hk9; have := hc1 (by omega); omega
    | one hk9 hi0 ha hb h7 hr hcl hf => exact ⟨n.a.toNat, by unfold kidN; rw [if_neg (by omega)]; omega, by omega⟩
    | two hk9 hi0 hb ha hf0 hl hcl hf =>
      have hle := firstP_le l (q - 1)
      unfold kidN
      split
      · exact ⟨n.b.toNat, by omega, by omega⟩
      · exact ⟨n.a.toNat, by omega, by omega⟩
  have htn : (atN l q).text.length ≤ 2000 := htx _ (by unfold atN; rw [List.getD_eq_getElem?_getD, List.getElem?_eq_getElem hq]; exact List.getElem_mem _)
  have hK : headV (atN l q) v.kind v.byte v.text v.pick v.kids.len → KidsC w0 A l c q v := fun hh => kids_any hc hq hlen htx hP hrow v (hkid hh)
  have hGL : ∀ V, gthW (leastK (atN l q)) (wrS l (fun j => (kidN (atN l q) v.pick j).toNat) v.kids) = some V → V.length ≤ 2002 * cntVs v.kids := fun V hV => gth_len htx _ _ _ V hV
  have hbd2 : W.length + 2002 * cntVs v.kids + 2002 ≤ 536870912 := by unfold cntV at hbd; omega
  have HCK : Hid (headV (atN l q) v.kind v.byte v.text v.pick v.kids.len → ∀ w', Below w.heap.size w w' → Calls Try.prog 36 #[.agg #[.slice A l.length c], ow, .agg (vlC v B cv), .int .i64 (q : Int)] w' (GotP w0.heap.size W w' (gthW (leastK (atN l q)) (wrS l (fun j => (kidN (atN l q) v.pick j).toNat) v.kids)))) :=
    fun hh w' h => hK hh B cv W ow w' hcv hkr (by omega) (hw.trans (h.mono hw.size)) (ho.later h)
  have HC1 : Hid (headV (atN l q) v.kind v.byte v.text v.pick v.kids.len → ∀ w', Below w.heap.size w w' → Calls Try.prog 35 #[.agg #[.slice A l.length c], ow, .int .i64 1, .agg (vlC v B cv), .int .i64 (q : Int)] w' (GotP w0.heap.size W w' (frmH 1 (gthW (leastK (atN l q)) (wrS l (fun j => (kidN (atN l q) v.pick j).toNat) v.kids))))) :=
    fun hh w' h => framed_one (hK hh) hGL B cv W ow w' hcv hkr (by omega) (hw.trans (h.mono hw.size)) (ho.later h)
  have HC2 : Hid (headV (atN l q) v.kind v.byte v.text v.pick v.kids.len → ∀ w', Below w.heap.size w w' → Calls Try.prog 35 #[.agg #[.slice A l.length c], ow, .int .i64 2, .agg (vlC v B cv), .int .i64 (q : Int)] w' (GotP w0.heap.size W w' (frmH 2 (gthW (leastK (atN l q)) (wrS l (fun j => (kidN (atN l q) v.pick j).toNat) v.kids))))) :=
    fun hh w' h => framed_two (hK hh) hGL B cv W ow w' hcv hkr (by omega) (hw.trans (h.mono hw.size)) (ho.later h)
  have HNO : Hid (¬ headV (atN l q) v.kind v.byte v.text v.pick v.kids.len → wrV l q v = none) := fun h => wr_none h
  have HYES : Hid (headV (atN l q) v.kind v.byte v.text v.pick v.kids.len → wrV l q v = (gthW (leastK (atN l q)) (wrS l (fun j => (kidN (atN l q) v.pick j).toNat) v.kids)).bind (capW (atN l q) v.byte)) := fun h => wr_gth rfl h
  have HRN : Hid (v.kids.len = 0 → wrS l (fun j => (kidN (atN l q) v.pick j).toNat) v.kids = []) := fun h => List.length_eq_zero_iff.1 (by rw [wrS_length]; exact h)
  have HW0 := Lib.hid hw
  have HO := Lib.hid ho
  obtain ⟨ba, oa, rfl, hbl, -⟩ := hrow q hq
  have hten : At10 w ba (oa + q * 10) (atN l q) := (hrow.later hw).at hq rfl
  have hbel := ((Below.refl w.heap.size w).alloc (Nat.le_refl _) (.cells #[.slice (some ⟨ba, oa, none⟩) l.length c] 55)).alloc (by simp) (.cells (vlC v B cv) 27)
  have HS0 : Hid (PaS w (some ⟨ba, oa, none⟩) l c v B cv ba (oa + q * 10) (atN l q) ((w.alloc (.cells #[.slice (some ⟨ba, oa, none⟩) l.length c] 55)).alloc (.cells (vlC v B cv) 27))) :=
    ⟨hbel, (Blk.new _ _ _).alloc _, Blk.new' (by simp) _ _, Nat.lt_of_lt_of_le hbl hw.size, hten⟩
  obtain ⟨oA, oc, hov, hoc⟩ := own8_form ho
  have hqz : decide ((q : Int) < 0) = false := decide_eq_false (by omega)
  have hqz2 : ¬ (q : Int) < 0 := by omega
  have hqi2 : ¬ (i : Int) ≤ (q : Int) := by omega
  have hqi3 : decide ((i : Int) ≤ (q : Int)) = false := decide_eq_false hqi2
  have hql : (q : Int) < (l.length : Int) := by omega
  clear hF hrow hP hIO hkid hK hGL hkr ho hw hten hbel hoc htx hbd hbl
  subst hov
  generalize wrS l (fun j => (kidN (atN l q) v.pick j).toNat) v.kids = rs at *
  generalize wrV l q v = res at *
  generalize atN l q = n at *
  obtain ⟨vk, vb, vt, vp, ks⟩ := v
  obtain ⟨nk, na, nb, nlo, nhi, ncls, ntext⟩ := n
  rw [vlC_five] at *
  simp only at *
  unfold ndC at HIO
  simp only at HIO
  by_cases hh : headV ⟨nk, na, nb, nlo, nhi, ncls, ntext⟩ vk vb vt vp ks.len
  · rw [decide_eq_true hh] at HIO
    have HCK := Lib.hid (HCK.out hh)
    have HC1 := Lib.hid (HC1.out hh)
    have HC2 := Lib.hid (HC2.out hh)
    have HYES := Lib.hid (HYES.out hh)
    clear HNO
    have hkv : vk = nk := hh.1
    subst hkv
    by_cases k2 : vk = 2
    · have hc0 : ks.len = 0 := hh.2.2.2.2.2.1 (.inr (.inl k2))
      have HRES : Hid (res = some [vb]) := by unfold Hid; rw [HYES.out, HRN.out hc0]; unfold gthW capW; simp [k2]
      have z2 : (vk == 2) = true := by simp [k2]
      clear HYES HCK HC1 HC2 HRN hh hc0 k2
      go_enter Try.func25, Try.ntmps25
      go_upto_region 1 with (fail)
      generalize (w.alloc (.cells #[.slice (some ⟨ba, oa, none⟩) l.length c] 55)).alloc (.cells #[.int .i64 vk, .int .u8 ((vb.toNat : Nat) : Int), .string (bs vt), .int .i64 vp, .slice B ks.len cv] 27) = w1 at *
      refine wp_region_stable (S := (PaS w (some ⟨ba, oa, none⟩) l c ⟨vk, vb, vt, vp, ks⟩ B cv ba (oa + q * 10) ⟨vk, na, nb, nlo, nhi, ncls, ntext⟩)) (hSt := fun _ _ h hb => h.later hb) (plan := [[(4, none)], [(12, some 0)], [(13, some 1)], [(4, none)], [(3, none)], [(15, some 3), (16, some 4)], [(14, some 2), (17, some 5)], [(18, some 6)], [(5, none)], [(20, some 8)], [(4, none)], [(21, some 9), (22, some 10)], [(23, some 11)], [(7, none)], [(24, some 12), (25, some 13)], [(26, some 14)], [(19, some 7), (27, some 15)]]) (by kernel_rfl) (by kernel_rfl) (by kernel_rfl) ?hS ?_
      rotate_left
      iterate 17 first
        | (refine chain_skip (by rfl) (by rfl) ?_)
        | (apply chain_want (by rfl)
           · intro act wx hS hr
             simp at hr
             obtain ⟨b0, b1, b2, b3, b4⟩ := vl_cells hS.bv
             obtain ⟨f0, f1, f2, f3, f4, f5, f6, f7, f8, f9⟩ := hS.at10
             simp only at f0 f1 f2 f3 f4 f5 f6 f7 f8 f9
             have d0 := hS.box.cell 0
             simp at d0
             go_simp
             (try go_ints)
             first
               | ((with_reducible refine (HIO.out _).mono ?_); rintro e w' ⟨rfl, hb⟩; exact Done.mk hb)
               | exact Done.same
          )
      show ∀ w', _ → _
      intro wz hz
      simp [Act.put]
      case hS => exact HS0.out
      have HS2 := Lib.hid hz
      clear hz HS0
      obtain ⟨b0, b1, b2, b3, b4⟩ := vl_cells HS2.out.bv
      have d0 := HS2.out.box.cell 0
      simp at d0
      have HX : Hid (IsW [vb] (.slice (some ⟨wz.heap.size, 0, none⟩) 1 1) (wz.alloc (.cells #[.int .u8 ((vb.toNat : Nat) : Int)] 5))) := own_isW (own_new (w := wz) (W := [vb]) (cs := #[.int .u8 ((vb.toNat : Nat) : Int)]) rfl (by simp)) (by simp)
      have HAL : Hid (Below wz.heap.size wz (wz.alloc (.cells #[.int .u8 ((vb.toNat : Nat) : Int)] 5))) := (Below.refl _ _).alloc (Nat.le_refl _) _
      have HLO : Hid (w0.heap.size ≤ (wz.alloc (.cells #[.int .u8 ((vb.toNat : Nat) : Int)] 5)).heap.size) := Nat.le_trans HW0.out.size (Nat.le_trans HS2.out.bel.size HAL.out.size)
      go_wp2_with (at_builtin; refine wpList_append_w rfl _ _ rfl w0.heap.size (.slice oA W.length oc) W rfl ((HO.out.later HS2.out.bel).later HAL.out) [vb] _ rfl HX.out (by simp only [List.length_cons, List.length_nil]; omega) HLO.out ?_; intro v6 w6 h1 h2; have HO6 := Lib.hid h1; have HK6 := Lib.hid ((Kp.of (HS2.out.bel.trans (HAL.out.mono HS2.out.bel.size)) HW0.out.size).trans (Kp.grown ((HO.out.later HS2.out.bel).later HAL.out) h2 HLO.out)); clear h1 h2)
      go_wp2
      go_ret2
      exact ⟨_, rfl, by rw [HRES.out]; exact ⟨_, rfl, HO6.out⟩, HK6.out⟩
    · have z2 : (vk == 2) = false := by rw [beq_eq_false_iff_ne]; exact k2
      by_cases k3 : vk = 3
      · have hc0 : ks.len = 0 := hh.2.2.2.2.2.1 (.inr (.inr k3))
        have hvt : vt = ntext := by have := hh.2.2.2.1; rw [if_pos k3] at this; exact this
        have HRES : Hid (res = some vt) := by unfold Hid; rw [HYES.out, HRN.out hc0, hvt]; unfold gthW capW; simp [k3]
        have htl : vt.length ≤ 2000 := by rw [hvt]; exact htn
        have z3 : (vk == 3) = true := by simp [k3]
        clear HYES HCK HC1 HC2 HRN hh hc0 k2 k3 hvt
        go_enter Try.func25, Try.ntmps25
        go_upto_region 1 with (fail)
        generalize (w.alloc (.cells #[.slice (some ⟨ba, oa, none⟩) l.length c] 55)).alloc (.cells #[.int .i64 vk, .int .u8 ((vb.toNat : Nat) : Int), .string (bs vt), .int .i64 vp, .slice B ks.len cv] 27) = w1 at *
        refine wp_region_stable (S := (PaS w (some ⟨ba, oa, none⟩) l c ⟨vk, vb, vt, vp, ks⟩ B cv ba (oa + q * 10) ⟨vk, na, nb, nlo, nhi, ncls, ntext⟩)) (hSt := fun _ _ h hb => h.later hb) (plan := [[(4, none)], [(12, some 0)], [(13, some 1)], [(4, none)], [(3, none)], [(15, some 3), (16, some 4)], [(14, some 2), (17, some 5)], [(18, some 6)], [(5, none)], [(20, some 8)], [(4, none)], [(21, some 9), (22, some 10)], [(23, some 11)], [(7, none)], [(24, some 12), (25, some 13)], [(26, some 14)], [(19, some 7), (27, some 15)]]) (by kernel_rfl) (by kernel_rfl) (by kernel_rfl) ?hS ?_
        rotate_left
        iterate 17 first
          | (refine chain_skip (by rfl) (by rfl) ?_)
          | (apply chain_want (by rfl)
             · intro act wx hS hr
               simp at hr
               obtain ⟨b0, b1, b2, b3, b4⟩ := vl_cells hS.bv
               obtain ⟨f0, f1, f2, f3, f4, f5, f6, f7, f8, f9⟩ := hS.at10
               simp only at f0 f1 f2 f3 f4 f5 f6 f7 f8 f9
               have d0 := hS.box.cell 0
               simp at d0
               go_simp
               (try go_ints)
               first
                 | ((with_reducible refine (HIO.out _).mono ?_); rintro e w' ⟨rfl, hb⟩; exact Done.mk hb)
                 | exact Done.same
            )
        show ∀ w', _ → _
        intro wz hz
        simp [Act.put]
        case hS => exact HS0.out
        have HS2 := Lib.hid hz
        clear hz HS0
        obtain ⟨b0, b1, b2, b3, b4⟩ := vl_cells HS2.out.bv
        have d0 := HS2.out.box.cell 0
        simp at d0
        have HLO : Hid (w0.heap.size ≤ wz.heap.size) := Nat.le_trans HW0.out.size HS2.out.bel.size
        go_wp2_with (at_builtin; refine wpList_append_txt rfl _ _ rfl w0.heap.size (.slice oA W.length oc) W rfl (HO.out.later HS2.out.bel) vt rfl (by omega) HLO.out ?_; intro v6 w6 h1 h2; have HO6 := Lib.hid h1; have HK6 := Lib.hid ((Kp.of HS2.out.bel HW0.out.size).trans (Kp.grown (HO.out.later HS2.out.bel) h2 HLO.out)); clear h1 h2)
        go_wp2
        go_ret2
        exact ⟨_, rfl, by rw [HRES.out]; exact ⟨_, rfl, HO6.out⟩, HK6.out⟩
      · have z3 : (vk == 3) = false := by rw [beq_eq_false_iff_ne]; exact k3
        by_cases k8 : vk = 8
        · have z8 : (vk == 8) = true := by simp [k8]
          have HRES : Hid (res = frmH 1 (gthW (leastK ⟨vk, na, nb, nlo, nhi, ncls, ntext⟩) rs)) := by
            unfold Hid; rw [HYES.out]
            cases gthW (leastK ⟨vk, na, nb, nlo, nhi, ncls, ntext⟩) rs with
            | none => rfl
            | some V => simp [capW, frmH, k8]
          clear HYES HCK HC2 HRN hh k2 k3 k8
          go_enter Try.func25, Try.ntmps25
          go_upto_region 1 with (fail)
          generalize (w.alloc (.cells #[.slice (some ⟨ba, oa, none⟩) l.length c] 55)).alloc (.cells #[.int .i64 vk, .int .u8 ((vb.toNat : Nat) : Int), .string (bs vt), .int .i64 vp, .slice B ks.len cv] 27) = w1 at *
          refine wp_region_stable (S := (PaS w (some ⟨ba, oa, none⟩) l c ⟨vk, vb, vt, vp, ks⟩ B cv ba (oa + q * 10) ⟨vk, na, nb, nlo, nhi, ncls, ntext⟩)) (hSt := fun _ _ h hb => h.later hb) (plan := [[(4, none)], [(12, some 0)], [(13, some 1)], [(4, none)], [(3, none)], [(15, some 3), (16, some 4)], [(14, some 2), (17, some 5)], [(18, some 6)], [(5, none)], [(20, some 8)], [(4, none)], [(21, some 9), (22, some 10)], [(23, some 11)], [(7, none)], [(24, some 12), (25, some 13)], [(26, some 14)], [(19, some 7), (27, some 15)]]) (by kernel_rfl) (by kernel_rfl) (by kernel_rfl) ?hS ?_
          rotate_left
          iterate 17 first
            | (refine chain_skip (by rfl) (by rfl) ?_)
            | (apply chain_want (by rfl)
               · intro act wx hS hr
                 simp at hr
                 obtain ⟨b0, b1, b2, b3, b4⟩ := vl_cells hS.bv
                 obtain ⟨f0, f1, f2, f3, f4, f5, f6, f7, f8, f9⟩ := hS.at10
                 simp only at f0 f1 f2 f3 f4 f5 f6 f7 f8 f9
                 have d0 := hS.box.cell 0
                 simp at d0
                 go_simp
                 (try go_ints)
                 first
                   | ((with_reducible refine (HIO.out _).mono ?_); rintro e w' ⟨rfl, hb⟩; exact Done.mk hb)
                   | exact Done.same
              )
          show ∀ w', _ → _
          intro wz hz
          simp [Act.put]
          case hS => exact HS0.out
          have HS2 := Lib.hid hz
          clear hz HS0
          obtain ⟨b0, b1, b2, b3, b4⟩ := vl_cells HS2.out.bv
          have d0 := HS2.out.box.cell 0
          simp at d0
          go_wp2_with fail
          refine (HC1.out _ HS2.out.bel).mono ?_; rintro e w5 ⟨x5, rfl, hx5, hk5⟩
          have HK5 := Lib.hid ((Kp.of HS2.out.bel HW0.out.size).trans hk5)
          clear hk5 HC1 HS2 d0 b0 b1 b2 b3 b4
          generalize (frmH 1 (gthW (leastK ⟨vk, na, nb, nlo, nhi, ncls, ntext⟩) rs)) = r at *
          cases r with
          | none =>
            have hx5 : x5 = .tuple #[.slice none 0 0, .bool false] := hx5
            subst hx5
            go_wp2
            go_ret2
            exact ⟨_, rfl, by rw [HRES.out]; rfl, HK5.out⟩
          | some V =>
            obtain ⟨v5, rfl, ho5⟩ := hx5
            have HO5 := Lib.hid ho5
            clear ho5
            go_wp2
            go_ret2
            exact ⟨_, rfl, by rw [HRES.out]; exact ⟨_, rfl, HO5.out⟩, HK5.out⟩
        · have z8 : (vk == 8) = false := by rw [beq_eq_false_iff_ne]; exact k8
          by_cases k9 : vk = 9
          · have z9 : (vk == 9) = true := by simp [k9]
            have HRES : Hid (res = frmH 2 (gthW (leastK ⟨vk, na, nb, nlo, nhi, ncls, ntext⟩) rs)) := by
              unfold Hid; rw [HYES.out]
              cases gthW (leastK ⟨vk, na, nb, nlo, nhi, ncls, ntext⟩) rs with
              | none => rfl
              | some V => simp [capW, frmH, k9]
            clear HYES HCK HC1 HRN hh k2 k3 k8 k9
            go_enter Try.func25, Try.ntmps25
            go_upto_region 1 with (fail)
            generalize (w.alloc (.cells #[.slice (some ⟨ba, oa, none⟩) l.length c] 55)).alloc (.cells #[.int .i64 vk, .int .u8 ((vb.toNat : Nat) : Int), .string (bs vt), .int .i64 vp, .slice B ks.len cv] 27) = w1 at *
            refine wp_region_stable (S := (PaS w (some ⟨ba, oa, none⟩) l c ⟨vk, vb, vt, vp, ks⟩ B cv ba (oa + q * 10) ⟨vk, na, nb, nlo, nhi, ncls, ntext⟩)) (hSt := fun _ _ h hb => h.later hb) (plan := [[(4, none)], [(12, some 0)], [(13, some 1)], [(4, none)], [(3, none)], [(15, some 3), (16, some 4)], [(14, some 2), (17, some 5)], [(18, some 6)], [(5, none)], [(20, some 8)], [(4, none)], [(21, some 9), (22, some 10)], [(23, some 11)], [(7, none)], [(24, some 12), (25, some 13)], [(26, some 14)], [(19, some 7), (27, some 15)]]) (by kernel_rfl) (by kernel_rfl) (by kernel_rfl) ?hS ?_
            rotate_left
            iterate 17 first
              | (refine chain_skip (by rfl) (by rfl) ?_)
              | (apply chain_want (by rfl)
                 · intro act wx hS hr
                   simp at hr
                   obtain ⟨b0, b1, b2, b3, b4⟩ := vl_cells hS.bv
                   obtain ⟨f0, f1, f2, f3, f4, f5, f6, f7, f8, f9⟩ := hS.at10
                   simp only at f0 f1 f2 f3 f4 f5 f6 f7 f8 f9
                   have d0 := hS.box.cell 0
                   simp at d0
                   go_simp
                   (try go_ints)
                   first
                     | ((with_reducible refine (HIO.out _).mono ?_); rintro e w' ⟨rfl, hb⟩; exact Done.mk hb)
                     | exact Done.same
                )
            show ∀ w', _ → _
            intro wz hz
            simp [Act.put]
            case hS => exact HS0.out
            have HS2 := Lib.hid hz
            clear hz HS0
            obtain ⟨b0, b1, b2, b3, b4⟩ := vl_cells HS2.out.bv
            have d0 := HS2.out.box.cell 0
            simp at d0
            go_wp2_with fail
            refine (HC2.out _ HS2.out.bel).mono ?_; rintro e w5 ⟨x5, rfl, hx5, hk5⟩
            have HK5 := Lib.hid ((Kp.of HS2.out.bel HW0.out.size).trans hk5)
            clear hk5 HC2 HS2 d0 b0 b1 b2 b3 b4
            generalize (frmH 2 (gthW (leastK ⟨vk, na, nb, nlo, nhi, ncls, ntext⟩) rs)) = r at *
            cases r with
            | none =>
              have hx5 : x5 = .tuple #[.slice none 0 0, .bool false] := hx5
              subst hx5
              go_wp2
              go_ret2
              exact ⟨_, rfl, by rw [HRES.out]; rfl, HK5.out⟩
            | some V =>
              obtain ⟨v5, rfl, ho5⟩ := hx5
              have HO5 := Lib.hid ho5
              clear ho5
              go_wp2
              go_ret2
              exact ⟨_, rfl, by rw [HRES.out]; exact ⟨_, rfl, HO5.out⟩, HK5.out⟩
          · have z9 : (vk == 9) = false := by rw [beq_eq_false_iff_ne]; exact k9
            have HRES : Hid (res = gthW (leastK ⟨vk, na, nb, nlo, nhi, ncls, ntext⟩) rs) := by
              unfold Hid; rw [HYES.out]
              cases gthW (leastK ⟨vk, na, nb, nlo, nhi, ncls, ntext⟩) rs with
              | none => rfl
              | some V => simp [capW, k2, k3, k8, k9]
            clear HYES HC1 HC2 HRN hh k2 k3 k8 k9
            go_enter Try.func25, Try.ntmps25
            go_upto_region 1 with (fail)
            generalize (w.alloc (.cells #[.slice (some ⟨ba, oa, none⟩) l.length c] 55)).alloc (.cells #[.int .i64 vk, .int .u8 ((vb.toNat : Nat) : Int), .string (bs vt), .int .i64 vp, .slice B ks.len cv] 27) = w1 at *
            refine wp_region_stable (S := (PaS w (some ⟨ba, oa, none⟩) l c ⟨vk, vb, vt, vp, ks⟩ B cv ba (oa + q * 10) ⟨vk, na, nb, nlo, nhi, ncls, ntext⟩)) (hSt := fun _ _ h hb => h.later hb) (plan := [[(4, none)], [(12, some 0)], [(13, some 1)], [(4, none)], [(3, none)], [(15, some 3), (16, some 4)], [(14, some 2), (17, some 5)], [(18, some 6)], [(5, none)], [(20, some 8)], [(4, none)], [(21, some 9), (22, some 10)], [(23, some 11)], [(7, none)], [(24, some 12), (25, some 13)], [(26, some 14)], [(19, some 7), (27, some 15)]]) (by kernel_rfl) (by kernel_rfl) (by kernel_rfl) ?hS ?_
            rotate_left
            iterate 17 first
              | (refine chain_skip (by rfl) (by rfl) ?_)
              | (apply chain_want (by rfl)
                 · intro act wx hS hr
                   simp at hr
                   obtain ⟨b0, b1, b2, b3, b4⟩ := vl_cells hS.bv
                   obtain ⟨f0, f1, f2, f3, f4, f5, f6, f7, f8, f9⟩ := hS.at10
                   simp only at f0 f1 f2 f3 f4 f5 f6 f7 f8 f9
                   have d0 := hS.box.cell 0
                   simp at d0
                   go_simp
                   (try go_ints)
                   first
                     | ((with_reducible refine (HIO.out _).mono ?_); rintro e w' ⟨rfl, hb⟩; exact Done.mk hb)
                     | exact Done.same
                )
            show ∀ w', _ → _
            intro wz hz
            simp [Act.put]
            case hS => exact HS0.out
            have HS2 := Lib.hid hz
            clear hz HS0
            obtain ⟨b0, b1, b2, b3, b4⟩ := vl_cells HS2.out.bv
            have d0 := HS2.out.box.cell 0
            simp at d0
            go_wp2_with fail
            refine (HCK.out _ HS2.out.bel).mono ?_; rintro e w5 ⟨x5, rfl, hx5, hk5⟩
            have HK5 := Lib.hid ((Kp.of HS2.out.bel HW0.out.size).trans hk5)
            clear hk5 HCK HS2 d0 b0 b1 b2 b3 b4
            generalize (gthW (leastK ⟨vk, na, nb, nlo, nhi, ncls, ntext⟩) rs) = r at *
            cases r with
            | none =>
              have hx5 : x5 = .tuple #[.slice none 0 0, .bool false] := hx5
              subst hx5
              go_wp2
              go_ret2
              exact ⟨_, rfl, by rw [HRES.out]; rfl, HK5.out⟩
            | some V =>
              obtain ⟨v5, rfl, ho5⟩ := hx5
              have HO5 := Lib.hid ho5
              clear ho5
              go_wp2
              go_ret2
              exact ⟨_, rfl, by rw [HRES.out]; exact ⟨_, rfl, HO5.out⟩, HK5.out⟩
  · rw [decide_eq_false hh] at HIO
    have HRES := Lib.hid (HNO.out hh)
    clear HNO HYES HCK HC1 HC2 HRN hh
    go_enter Try.func25, Try.ntmps25
    go_upto_region 1 with (fail)
    generalize (w.alloc (.cells #[.slice (some ⟨ba, oa, none⟩) l.length c] 55)).alloc (.cells #[.int .i64 vk, .int .u8 ((vb.toNat : Nat) : Int), .string (bs vt), .int .i64 vp, .slice B ks.len cv] 27) = w1 at *
    refine wp_region_stable (S := (PaS w (some ⟨ba, oa, none⟩) l c ⟨vk, vb, vt, vp, ks⟩ B cv ba (oa + q * 10) ⟨nk, na, nb, nlo, nhi, ncls, ntext⟩)) (hSt := fun _ _ h hb => h.later hb) (plan := [[(4, none)], [(12, some 0)], [(13, some 1)], [(4, none)], [(3, none)], [(15, some 3), (16, some 4)], [(14, some 2), (17, some 5)], [(18, some 6)], [(5, none)], [(20, some 8)], [(4, none)], [(21, some 9), (22, some 10)], [(23, some 11)], [(7, none)], [(24, some 12), (25, some 13)], [(26, some 14)], [(19, some 7), (27, some 15)]]) (by kernel_rfl) (by kernel_rfl) (by kernel_rfl) ?hS ?_
    rotate_left
    iterate 17 first
      | (refine chain_skip (by rfl) (by rfl) ?_)
      | (apply chain_want (by rfl)
         · intro act wx hS hr
           simp at hr
           obtain ⟨b0, b1, b2, b3, b4⟩ := vl_cells hS.bv
           obtain ⟨f0, f1, f2, f3, f4, f5, f6, f7, f8, f9⟩ := hS.at10
           simp only at f0 f1 f2 f3 f4 f5 f6 f7 f8 f9
           have d0 := hS.box.cell 0
           simp at d0
           go_simp
           (try go_ints)
           first
             | ((with_reducible refine (HIO.out _).mono ?_); rintro e w' ⟨rfl, hb⟩; exact Done.mk hb)
             | exact Done.same
        )
    show ∀ w', _ → _
    intro wz hz
    simp [Act.put]
    case hS => exact HS0.out
    have HS2 := Lib.hid hz
    clear hz HS0
    obtain ⟨b0, b1, b2, b3, b4⟩ := vl_cells HS2.out.bv
    have d0 := HS2.out.box.cell 0
    simp at d0
    go_wp2
    go_ret2
    exact ⟨_, rfl, by rw [HRES.out]; rfl, Kp.of HS2.out.bel HW0.out.size⟩
end Go.Proofs.Ytgdlbahfmddkaaa
/- What Write answers. -/
namespace Go.Proofs.Ytgdlbahfmddkaaa
open Go Go.RowKit
set_option linter.unusedVariables false
set_option linter.unusedSimpArgs false
set_option maxRecDepth 100000

theorem vpartw_any {w0 : World} {A : Option Addr} {l : List Nd} {c : Nat} (hF : Form l) (hc : l.length ≤ c) (hlen : l.length ≤ 536870912) (htx : ∀ n ∈ l, n.text.length ≤ 2000) (hrow : NRow w0 A l) : ∀ q, q < l.length → PartC w0 A l c q := fun q => by
  induction q using Nat.strongRecOn with
  | ind q ih => exact fun hq => part_step hF hc hlen htx hrow hq (fun p hp => ih p hp (by omega))
set_option maxHeartbeats 16000000 in
theorem write_c : WriteC := by
  intro l A c v u w hF hc hlen htx hcnt hrow hu
  obtain ⟨B, cv, hcv, rfl, hkr⟩ := hu
  have hpos := hF.1
  have HS0 := Lib.hid (WvS.new w A l c v B cv hrow hkr)
  have hlenw : ∀ V, wrD l v = some V → V.length ≤ 1073741824 := fun V hV => by
    have h1 := wrV_len htx _ _ _ hV
    have : (2000 + 2) * cntV v ≤ (2000 + 2) * 100000 := Nat.mul_le_mul_left _ hcnt
    omega
  have HLW := Lib.hid hlenw
  have CP : Hid (∀ w', WvS w A l c v B cv w' → Calls Try.prog 25 #[.agg #[.slice A l.length c], .slice none 0 0, .agg (vlC v B cv), .int .i64 (l.length : Int), .int .i64 ((l.length : Int) - 1)] w' (GotP w.heap.size [] w' (wrD l v))) := fun w' h => by
    have := vpartw_any (c := c) hF hc hlen htx hrow (l.length - 1) (by omega) l.length v B cv [] (.slice none 0 0) w' (by omega) (Nat.le_refl _) hcv hkr (by simp only [List.length_nil]; omega) h.bel (Own8.nil _ _)
    rwa [show ((l.length - 1 : Nat) : Int) = (l.length : Int) - 1 by omega] at this
  generalize wrD l v = r at *
  have hmin : -9223372036854775808 ≤ (l.length : Int) - 1 := by omega
  clear hrow hkr hF htx hlenw hcnt
  obtain ⟨vk, vb, vt, vp, ks⟩ := v
  rw [vlC_five] at *
  simp only at *
  go_enter Try.func11, Try.ntmps11
  go_upto_region 1 with (fail)
  generalize (w.alloc (.cells #[.slice A l.length c] 24)).alloc (.cells #[.int .i64 vk, .int .u8 ((vb.toNat : Nat) : Int), .string (bs vt), .int .i64 vp, .slice B ks.len cv] 27) = w1 at *
  obtain ⟨b0, b1, b2, b3, b4⟩ := vl_cells HS0.out.bv
  have d0 := HS0.out.box.cell 0
  simp at d0
  go_wp2_with fail
  refine (CP.out _ HS0.out).mono ?_; rintro e w2 ⟨x2, rfl, hx2, hk2⟩
  have HB2 := Lib.hid (HS0.out.bel.trans hk2.bel)
  clear hk2 CP HS0 b0 b1 b2 b3 b4 d0
  cases r with
  | none =>
    have hx2 : x2 = .tuple #[.slice none 0 0, .bool false] := hx2
    subst hx2
    go_wp2
    go_ret2
    exact ⟨_, rfl, ⟨_, rfl, IsW.nil _⟩, HB2.out⟩
  | some V =>
    obtain ⟨v2, rfl, ho2⟩ := hx2
    have HX : Hid (IsW V v2 w2) := own_isW ho2 (HLW.out V rfl)
    clear ho2
    go_wp2
    go_ret2
    exact ⟨_, rfl, ⟨_, rfl, HX.out⟩, HB2.out⟩
end Go.Proofs.Ytgdlbahfmddkaaa
/- What is still to be looked at: rows of lists of values, and of pairs of them, that a call owns. -/
namespace Go.Proofs.Ytgdlbahfmddkaaa
open Go Go.RowKit
set_option linter.unusedVariables false
set_option linter.unusedSimpArgs false

/-- A list of values, and where it stands. -/
structure KR where
  s : Vs
  A : Option Addr
  c : Nat
def kr0 : KR := ⟨.nil, none, 0⟩
def KR.cell (k : KR) : Value := .slice k.A k.s.len k.c
def KR.ok (w : World) (k : KR) : Prop := k.s.len ≤ k.c ∧ VRow w k.A 0 k.s
theorem KR.ok.later {w w' : World} {k : KR} (h : k.ok w) (hb : Below w.heap.size w w') : k.ok w' := ⟨h.1, h.2.later hb⟩
section
variable {P : Program}
/-- Where a row stands that was appended to. -/
theorem run_append_place (w : World) (base : Nat) (t ty e : TypeId) (i : TypeInfo) (z : Value) (size bytes : Nat) (ht : P.underlying t = some (.slice e)) (hi : P.info? e = some i) (hz : i.zero = some z)
    (hsize : i.size = size) (hby : i.bytes = bytes) (hzs : z.cells.size = size) (hsz : 0 < size)
    (v : Value) (n : Nat) (xs : List Value) (hown : w.ownsRow base e size v n xs)
    (a : Addr) (m c : Nat) (news : List Value) (hl : news.length = m * size) (hnews : ∀ j u, news[j]? = some u → w.cell? (a.add j) = some u) (h1 : ∀ u ∈ news, u.oneCell' = true) (hm : 0 < m)
    (h63 : n + m ≤ maxLen) (hbytes : (n + m) * bytes ≤ 140737488355328) (hbase : base ≤ w.heap.size) :
    ∃ v' w', (Builtin.append_ #[t, t] ty #[v, .slice (some a) m c]).run P w = .ok v' w' ∧ w'.ownsRow base e size v' (n + m) (xs ++ news) ∧ w.grownBy w' v.ownBlock ∧
      (v'.ownBlock = v.ownBlock ∨ ∃ g', v'.ownBlock = some g' ∧ w.heap.size ≤ g') := by
  obtain ⟨v', w', hr, h2, h3, _⟩ := run_append_own (P := P) w base t ty e i z size bytes ht hi hz hsize hby hzs hsz v n xs hown a m c news hl hnews h1 h63 hbytes hbase
  refine ⟨v', w', hr, h2, h3, ?_⟩
  rcases hown.2 with ⟨rfl, hn⟩ | ⟨g', cap, cur, rfl, hbg, hgg, hnc, hcm, hcs, htake⟩
  · subst hn
    have hx0 : xs = [] := List.length_eq_zero_iff.1 (by rw [hown.1]; simp)
    subst hx0
    obtain ⟨v2, w2, hr2, h4, _, _⟩ := run_append_own (P := P) w w.heap.size t ty e i z size bytes ht hi hz hsize hby hzs hsz (.slice none 0 0) 0 [] ⟨by simp, .inl ⟨rfl, rfl⟩⟩ a m c news hl hnews h1 h63 hbytes (Nat.le_refl _)
    rw [hr] at hr2
    simp only [Result.ok.injEq] at hr2
    obtain ⟨rfl, rfl⟩ := hr2
    rcases h4.2 with ⟨_, h5⟩ | ⟨g2, cap2, cur2, hv, hb2, _⟩
    · omega
    · exact .inr ⟨g2, by rw [hv]; rfl, hb2⟩
  · by_cases hroom : n + m ≤ cap
    · have hr2 := run_append_room (P := P) w t ty e i ht hi g' n cap cur hgg a m c news (by rw [hsize]; exact hl) hnews h1 hroom (by rw [hsize, hl, hcs, ← Nat.add_mul]; exact Nat.mul_le_mul_right _ hroom)
      rw [hr] at hr2
      simp only [Result.ok.injEq] at hr2
      exact .inl (by rw [hr2.1]; rfl)
    · have holds := World.ownsRow.cells (w := w) (base := base) (e := e) (size := size) (v := .slice (some ⟨g', 0, none⟩) n cap) (n := n) (xs := xs) hown (g := g') rfl
      have hr2 := run_append_grow (P := P) w t ty e i z ht hi hz ⟨g', 0, none⟩ n cap xs (by rw [hsize]; exact hown.1) holds a m c news (by rw [hsize]; exact hl) hnews (by omega) (by unfold maxLen at h63; omega) (by rw [hby]; exact growslice_fits (by omega) hbytes)
      rw [hr] at hr2
      simp only [Result.ok.injEq] at hr2
      exact .inr ⟨w.heap.size, by rw [hr2.1]; rfl, Nat.le_refl _⟩
end
theorem list_two {α} (a b : α) (j : Nat) (u : α) (h : [a, b][j]? = some u) : (j = 0 ∧ u = a) ∨ (j = 1 ∧ u = b) := by
  cases j with
  | zero => left; simp at h; exact ⟨rfl, h.symm⟩
  | succ j => cases j with
    | zero => right; simp at h; exact ⟨rfl, h.symm⟩
    | succ j => simp at h
/-! Rows of lists. -/
def krsV (l : List KR) : List Value := l.map KR.cell
theorem krsV_snoc (l : List KR) (k : KR) : krsV (l ++ [k]) = krsV l ++ [k.cell] := by simp [krsV]
def OwnTd (w : World) (base : Nat) (v : Value) (l : List KR) : Prop := w.ownsRow base 25 1 v l.length (krsV l)
theorem OwnTd.later {w w' : World} {base : Nat} {v : Value} {l : List KR} (h : OwnTd w base v l) (hb : Below w.heap.size w w') : OwnTd w' base v l := ownsRow_later h hb
theorem OwnTd.one {w : World} (k : KR) : OwnTd (w.alloc (.cells #[k.cell] 25)) w.heap.size (.slice (some ⟨w.heap.size, 0, none⟩) 1 1) [k] :=
  ⟨rfl, .inr ⟨w.heap.size, 1, #[k.cell], rfl, Nat.le_refl _, Blk.new w _ _, Nat.le_refl _, by unfold maxLen; omega, rfl, rfl⟩⟩
/-- Its last one, and what is left without it. -/
theorem OwnTd.last {w : World} {base : Nat} {v : Value} {l : List KR} (h : OwnTd w base v l) (hl : 0 < l.length) : ∃ g cap, v = .slice (some ⟨g, 0, none⟩) l.length cap ∧ l.length ≤ cap ∧ cap ≤ maxLen ∧ g < w.heap.size ∧ w.cell? ⟨g, l.length - 1, none⟩ = some (l.getD (l.length - 1) kr0).cell ∧
    OwnTd w base (.slice (some ⟨g, 0, none⟩) (l.length - 1) cap) l.dropLast := by
  obtain ⟨_, ⟨hv, hn⟩ | ⟨g, cap, cur, hv, hb, hg, hc, hm, hs, ht⟩⟩ := h
  · omega
  · refine ⟨g, cap, hv, hc, hm, Blk.lt (w := w) (b := g) (vs := cur) (t := 25) hg, ?_, by simp [krsV], .inr ⟨g, cap, cur, by simp, hb, hg, by simp; omega, hm, hs, ?_⟩⟩
    · rw [Blk.cell (w := w) (b := g) (vs := cur) (t := 25) hg]
      have : (krsV l)[l.length - 1]? = some (l.getD (l.length - 1) kr0).cell := by
        unfold krsV
        rw [List.getElem?_map, List.getElem?_eq_getElem (by omega), List.getD_eq_getElem?_getD, List.getElem?_eq_getElem (by omega)]; rfl
      rw [← this, ← ht, List.getElem?_take, if_pos (by omega)]
      simp
    · rw [List.length_dropLast, Nat.mul_one]
      have e : cur.toList.take (l.length - 1) = (cur.toList.take (l.length * 1)).take (l.length - 1) := by rw [List.take_take]; congr 1; omega
      rw [e, ht]; unfold krsV
      rw [← List.map_take, ← List.dropLast_eq_take]
theorem infoK : (Try.prog.info? 25).map (fun i => (i.zero, i.size, i.bytes)) = some (some (.slice none 0 0), 1, 24) := by kernel_rfl
set_option maxRecDepth 100000 in
theorem wpList_append_k {w : World} {ops : Array Oper} {rest : List Oper} {o : Oper} {a : Act} {Q : Exit → Act → World → Prop} (hgd : o.guard = none) (s x : Operand)
    (ho : o.op = .call { callee := .builtin .append, args := #[s, x], argTypes := #[62, 62] })
    (base : Nat) (v : Value) (l : List KR) (hs : a.eval s = v) (hown : OwnTd w base v l)
    (b : Nat) (k : KR) (hx : a.eval x = .slice (some ⟨b, 0, none⟩) 1 1) (hnew : Blk w b #[k.cell] 25) (hlen : l.length < 1073741824) (hbase : base ≤ w.heap.size)
    (h : ∀ v' w', OwnTd w' base v' (l ++ [k]) → w.grownBy w' v.ownBlock → wpList Try.prog ops Q rest (a.put o.dst v') w') : wpList Try.prog ops Q (o :: rest) a w := by
  refine wpList_plain hgd fun K hK => ?_
  obtain ⟨ib, hib, hz0, hz1, hz2⟩ := info_parts infoK
  have hnews : ∀ (j : Nat) (u : Value), [k.cell][j]? = some u → w.cell? ((⟨b, 0, none⟩ : Addr).add j) = some u := by
    intro j u hu
    cases j with
    | zero => simp at hu; subst hu; exact hnew.cell 0
    | succ j => simp at hu
  have hone : ∀ u ∈ [k.cell], u.oneCell' = true := by simp [KR.cell, Value.oneCell']
  have hown0 : w.ownsRow base 25 1 v l.length (krsV l) := hown
  obtain ⟨v', w', hr, h2, h3, _⟩ := run_append_place (P := Try.prog) w base 62 o.type 25 ib _ 1 24 Try.underlying62 hib hz0 hz1 hz2 rfl (by decide) v l.length (krsV l) hown0 ⟨b, 0, none⟩ 1 1 [k.cell] rfl hnews hone (by decide) (by unfold maxLen; omega) (by omega) hbase
  unfold Oper.wp execOp
  simp only [ho, resolve, invoke, builtin, Sem.run_bind, Sem.run_pure, Result.andThen_ok, List.map_toArray, List.map_cons, List.map_nil, hs, hx, hr]
  exact hK _ _ (h v' w' (by unfold OwnTd; rw [List.length_append, krsV_snoc]; exact h2) h3)
/-! Rows of pairs of lists. -/
def prsV : List (KR × KR) → List Value
  | [] => []
  | p :: l => p.1.cell :: p.2.cell :: prsV l
theorem prsV_length : ∀ l, (prsV l).length = l.length * 2
  | [] => rfl
  | p :: l => by rw [prsV, List.length_cons, List.length_cons, prsV_length l, List.length_cons]; omega
theorem prsV_append : ∀ l m, prsV (l ++ m) = prsV l ++ prsV m
  | [], m => rfl
  | p :: l, m => by show _ :: _ :: prsV (l ++ m) = _; rw [prsV_append l m]; rfl
theorem prsV_take : ∀ (l : List (KR × KR)) (n : Nat), (prsV l).take (n * 2) = prsV (l.take n)
  | [], n => by simp [prsV]
  | p :: l, 0 => by simp [prsV]
  | p :: l, n + 1 => by
    rw [show (n + 1) * 2 = n * 2 + 1 + 1 by omega, prsV, List.take_succ_cons, List.take_succ_cons, prsV_take l n, List.take_succ_cons, prsV]
def pr0 : KR × KR := (kr0, kr0)
theorem prsV_get : ∀ (l : List (KR × KR)) (i : Nat), i < l.length → (prsV l)[i * 2]? = some (l.getD i pr0).1.cell ∧ (prsV l)[i * 2 + 1]? = some (l.getD i pr0).2.cell
  | [], i, h => absurd h (Nat.not_lt_zero i)
  | p :: l, 0, h => ⟨rfl, rfl⟩
  | p :: l, i + 1, h => by
    have := prsV_get l i (by simpa using h)
    rw [prsV, show (i + 1) * 2 = i * 2 + 1 + 1 by omega, show i * 2 + 1 + 1 + 1 = (i * 2 + 1) + 1 + 1 by omega, List.getElem?_cons_succ, List.getElem?_cons_succ, List.getElem?_cons_succ, List.getElem?_cons_succ]
    exact this
def OwnPr (w : World) (base : Nat) (v : Value) (l : List (KR × KR)) : Prop := w.ownsRow base 59 2 v l.length (prsV l)
theorem OwnPr.later {w w' : World} {base : Nat} {v : Value} {l : List (KR × KR)} (h : OwnPr w base v l) (hb : Below w.heap.size w w') : OwnPr w' base v l := ownsRow_later h hb
theorem OwnPr.one {w : World} (p : KR × KR) : OwnPr (w.alloc (.cells #[p.1.cell, p.2.cell] 59)) w.heap.size (.slice (some ⟨w.heap.size, 0, none⟩) 1 1) [p] :=
  ⟨rfl, .inr ⟨w.heap.size, 1, #[p.1.cell, p.2.cell], rfl, Nat.le_refl _, Blk.new w _ _, Nat.le_refl _, by unfold maxLen; omega, rfl, rfl⟩⟩
theorem OwnPr.last {w : World} {base : Nat} {v : Value} {l : List (KR × KR)} (h : OwnPr w base v l) (hl : 0 < l.length) : ∃ g cap, v = .slice (some ⟨g, 0, none⟩) l.length cap ∧ l.length ≤ cap ∧ cap ≤ maxLen ∧ g < w.heap.size ∧ w.cell? ⟨g, (l.length - 1) * 2, none⟩ = some (l.getD (l.length - 1) pr0).1.cell ∧ w.cell? ⟨g, (l.length - 1) * 2 + 1, none⟩ = some (l.getD (l.length - 1) pr0).2.cell ∧
    OwnPr w base (.slice (some ⟨g, 0, none⟩) (l.length - 1) cap) l.dropLast := by
  obtain ⟨_, ⟨hv, hn⟩ | ⟨g, cap, cur, hv, hb, hg, hc, hm, hs, ht⟩⟩ := h
  · omega
  · have hget := prsV_get l (l.length - 1) (by omega)
    refine ⟨g, cap, hv, hc, hm, Blk.lt (w := w) (b := g) (vs := cur) (t := 59) hg, ?_, ?_, by rw [prsV_length], .inr ⟨g, cap, cur, by simp, hb, hg, by simp; omega, hm, hs, ?_⟩⟩
    · rw [Blk.cell (w := w) (b := g) (vs := cur) (t := 59) hg, ← hget.1, ← ht, List.getElem?_take, if_pos (by omega)]
      simp
    · rw [Blk.cell (w := w) (b := g) (vs := cur) (t := 59) hg, ← hget.2, ← ht, List.getElem?_take, if_pos (by omega)]
      simp
    · rw [List.length_dropLast]
      have e : cur.toList.take ((l.length - 1) * 2) = (cur.toList.take (l.length * 2)).take ((l.length - 1) * 2) := by rw [List.take_take]; congr 1; omega
      rw [e, ht, prsV_take, ← List.dropLast_eq_take]
theorem infoPr : (Try.prog.info? 59).map (fun i => (i.zero, i.size, i.bytes)) = some (some (.agg #[.slice none 0 0, .slice none 0 0]), 2, 48) := by kernel_rfl
set_option maxRecDepth 100000 in
theorem wpList_append_pr {w : World} {ops : Array Oper} {rest : List Oper} {o : Oper} {a : Act} {Q : Exit → Act → World → Prop} (hgd : o.guard = none) (s x : Operand)
    (ho : o.op = .call { callee := .builtin .append, args := #[s, x], argTypes := #[60, 60] })
    (base : Nat) (v : Value) (l : List (KR × KR)) (hs : a.eval s = v) (hown : OwnPr w base v l)
    (b : Nat) (p : KR × KR) (hx : a.eval x = .slice (some ⟨b, 0, none⟩) 1 1) (hnew : Blk w b #[p.1.cell, p.2.cell] 59) (hlen : l.length < 1073741824) (hbase : base ≤ w.heap.size)
    (h : ∀ v' w', OwnPr w' base v' (l ++ [p]) → w.grownBy w' v.ownBlock → (v'.ownBlock = v.ownBlock ∨ ∃ g', v'.ownBlock = some g' ∧ w.heap.size ≤ g') → wpList Try.prog ops Q rest (a.put o.dst v') w') : wpList Try.prog ops Q (o :: rest) a w := by
  refine wpList_plain hgd fun K hK => ?_
  obtain ⟨ib, hib, hz0, hz1, hz2⟩ := info_parts infoPr
  have hnews : ∀ (j : Nat) (u : Value), [p.1.cell, p.2.cell][j]? = some u → w.cell? ((⟨b, 0, none⟩ : Addr).add j) = some u := by
    intro j u hu
    have hadd : (⟨b, 0, none⟩ : Addr).add j = ⟨b, j, none⟩ := by unfold Addr.add; split <;> simp_all
    rw [hadd]
    rcases list_two _ _ j u hu with ⟨rfl, rfl⟩ | ⟨rfl, rfl⟩
    · exact hnew.cell 0
    · exact hnew.cell 1
  have hone : ∀ u ∈ [p.1.cell, p.2.cell], u.oneCell' = true := by simp [KR.cell, Value.oneCell']
  have hown0 : w.ownsRow base 59 2 v l.length (prsV l) := hown
  obtain ⟨v', w', hr, h2, h3, h4⟩ := run_append_place (P := Try.prog) w base 60 o.type 59 ib _ 2 48 Try.underlying60 hib hz0 hz1 hz2 rfl (by decide) v l.length (prsV l) hown0 ⟨b, 0, none⟩ 1 1 [p.1.cell, p.2.cell] rfl hnews hone (by decide) (by unfold maxLen; omega) (by omega) hbase
  unfold Oper.wp execOp
  simp only [ho, resolve, invoke, builtin, Sem.run_bind, Sem.run_pure, Result.andThen_ok, List.map_toArray, List.map_cons, List.map_nil, hs, hx, hr]
  exact hK _ _ (h v' w' (by unfold OwnPr; rw [List.length_append, prsV_append]; exact h2) h3 h4)
end Go.Proofs.Ytgdlbahfmddkaaa
/- Are two values alike, but for their Kids' fields; are two lists: the program's walks. -/
namespace Go.Proofs.Ytgdlbahfmddkaaa
open Go Go.RowKit
set_option linter.unusedVariables false
set_option linter.unusedSimpArgs false
set_option maxRecDepth 100000

def alikeP (a b : Vl) : Prop := a.kind = b.kind ∧ a.byte = b.byte ∧ a.text = b.text ∧ a.pick = b.pick ∧ a.kids.len = b.kids.len
instance (a b : Vl) : Decidable (alikeP a b) := by unfold alikeP; infer_instance
set_option maxHeartbeats 16000000 in
theorem valike_any (a b : Vl) (A B : Option Addr) (c d : Nat) (w : World) : Calls Try.prog 28 #[.agg (vlC a A c), .agg (vlC b B d)] w (Ans w (.bool (decide (alikeP a b)))) := by
  have hal : Hid (Below w.heap.size w ((w.alloc (.cells (vlC a A c) 27)).alloc (.cells (vlC b B d) 27))) := ((Below.refl _ _).alloc (Nat.le_refl _) _).alloc (by simp) _
  have HA : Hid (Blk ((w.alloc (.cells (vlC a A c) 27)).alloc (.cells (vlC b B d) 27)) w.heap.size (vlC a A c) 27) := (Blk.new _ _ _).alloc _
  have HB : Hid (Blk ((w.alloc (.cells (vlC a A c) 27)).alloc (.cells (vlC b B d) 27)) (w.heap.size + 1) (vlC b B d) 27) := Blk.new' (by simp) _ _
  have HD : Hid (¬ alikeP a b → decide (alikeP a b) = false) := fun h => decide_eq_false h
  have HE : Hid (alikeP a b → decide (alikeP a b) = true) := fun h => decide_eq_true h
  generalize decide (alikeP a b) = r at *
  unfold alikeP at HD HE
  obtain ⟨ak, ab, at_, ap, as1⟩ := a
  obtain ⟨bk, bb, bt, bp, bs2⟩ := b
  rw [vlC_five] at *
  simp only at HA HB hal HD HE ⊢
  by_cases h1 : ak = bk
  · have z1 : (ak == bk) = true := by simp [h1]
    by_cases h2 : ab = bb
    · have z2 : (((ab.toNat : Nat) : Int) == ((bb.toNat : Nat) : Int)) = true := by simp [h2]
      by_cases h3 : at_ = bt
      · have z3 : (bs at_ == bs bt) = true := by rw [bs_beq, decide_eq_true h3]
        have z3l : (bs at_).toList = (bs bt).toList := by rw [h3]
        have z3e : ((bs at_).toList == (bs bt).toList) = true := by rw [z3l]; simp
        by_cases h4 : ap = bp
        · have z4 : (ap == bp) = true := by simp [h4]
          by_cases h5 : as1.len = bs2.len
          · have z5 : (((as1.len : Nat) : Int) == ((bs2.len : Nat) : Int)) = true := by simp [h5]
            rw [HE.out ⟨h1, h2, h3, h4, h5⟩]
            clear h1 h2 h3 h4 h5
            clear HD HE
            go_enter Try.func28, Try.ntmps28
            go_upto_region 1 with (fail)
            generalize (w.alloc (.cells #[.int .i64 ak, .int .u8 ((ab.toNat : Nat) : Int), .string (bs at_), .int .i64 ap, .slice A as1.len c] 27)).alloc (.cells #[.int .i64 bk, .int .u8 ((bb.toNat : Nat) : Int), .string (bs bt), .int .i64 bp, .slice B bs2.len d] 27) = w1 at *
            obtain ⟨f0, f1, f2, f3, f4⟩ := vl_cells HA.out
            obtain ⟨b0, b1, b2, b3, b4⟩ := vl_cells HB.out
            go_wp2
            go_ret
            exact ⟨rfl, hal.out⟩
          · have z5 : (((as1.len : Nat) : Int) == ((bs2.len : Nat) : Int)) = false := by rw [beq_eq_false_iff_ne]; omega
            rw [HD.out (fun h => h5 h.2.2.2.2)]
            clear h1 h2 h3 h4 h5
            clear HD HE
            go_enter Try.func28, Try.ntmps28
            go_upto_region 1 with (fail)
            generalize (w.alloc (.cells #[.int .i64 ak, .int .u8 ((ab.toNat : Nat) : Int), .string (bs at_), .int .i64 ap, .slice A as1.len c] 27)).alloc (.cells #[.int .i64 bk, .int .u8 ((bb.toNat : Nat) : Int), .string (bs bt), .int .i64 bp, .slice B bs2.len d] 27) = w1 at *
            obtain ⟨f0, f1, f2, f3, f4⟩ := vl_cells HA.out
            obtain ⟨b0, b1, b2, b3, b4⟩ := vl_cells HB.out
            go_wp2
            go_ret
            exact ⟨rfl, hal.out⟩
        · have z4 : (ap == bp) = false := by rw [beq_eq_false_iff_ne]; exact h4
          rw [HD.out (fun h => h4 h.2.2.2.1)]
          clear h1 h2 h3 h4
          clear HD HE
          go_enter Try.func28, Try.ntmps28
          go_upto_region 1 with (fail)
          generalize (w.alloc (.cells #[.int .i64 ak, .int .u8 ((ab.toNat : Nat) : Int), .string (bs at_), .int .i64 ap, .slice A as1.len c] 27)).alloc (.cells #[.int .i64 bk, .int .u8 ((bb.toNat : Nat) : Int), .string (bs bt), .int .i64 bp, .slice B bs2.len d] 27) = w1 at *
          obtain ⟨f0, f1, f2, f3, f4⟩ := vl_cells HA.out
          obtain ⟨b0, b1, b2, b3, b4⟩ := vl_cells HB.out
          go_wp2
          go_ret
          exact ⟨rfl, hal.out⟩
      · have z3 : (bs at_ == bs bt) = false := by rw [bs_beq, decide_eq_false h3]
        have z3l : ¬ (bs at_).toList = (bs bt).toList := fun e => h3 (by rw [Lib.toList_data, Lib.toList_data, bs_data, bs_data] at e; exact e)
        have z3e : ((bs at_).toList == (bs bt).toList) = false := by rw [beq_eq_false_iff_ne]; exact z3l
        rw [HD.out (fun h => h3 h.2.2.1)]
        clear h1 h2 h3
        clear HD HE
        go_enter Try.func28, Try.ntmps28
        go_upto_region 1 with (fail)
        generalize (w.alloc (.cells #[.int .i64 ak, .int .u8 ((ab.toNat : Nat) : Int), .string (bs at_), .int .i64 ap, .slice A as1.len c] 27)).alloc (.cells #[.int .i64 bk, .int .u8 ((bb.toNat : Nat) : Int), .string (bs bt), .int .i64 bp, .slice B bs2.len d] 27) = w1 at *
        obtain ⟨f0, f1, f2, f3, f4⟩ := vl_cells HA.out
        obtain ⟨b0, b1, b2, b3, b4⟩ := vl_cells HB.out
        go_wp2
        go_ret
        exact ⟨rfl, hal.out⟩
    · have z2 : (((ab.toNat : Nat) : Int) == ((bb.toNat : Nat) : Int)) = false := by rw [beq_eq_false_iff_ne]; exact fun e => h2 (UInt8.toNat_inj.1 (by omega))
      rw [HD.out (fun h => h2 h.2.1)]
      clear h1 h2
      clear HD HE
      go_enter Try.func28, Try.ntmps28
      go_upto_region 1 with (fail)
      generalize (w.alloc (.cells #[.int .i64 ak, .int .u8 ((ab.toNat : Nat) : Int), .string (bs at_), .int .i64 ap, .slice A as1.len c] 27)).alloc (.cells #[.int .i64 bk, .int .u8 ((bb.toNat : Nat) : Int), .string (bs bt), .int .i64 bp, .slice B bs2.len d] 27) = w1 at *
      obtain ⟨f0, f1, f2, f3, f4⟩ := vl_cells HA.out
      obtain ⟨b0, b1, b2, b3, b4⟩ := vl_cells HB.out
      go_wp2
      go_ret
      exact ⟨rfl, hal.out⟩
  · have z1 : (ak == bk) = false := by rw [beq_eq_false_iff_ne]; exact h1
    rw [HD.out (fun h => h1 h.1)]
    clear h1
    clear HD HE
    go_enter Try.func28, Try.ntmps28
    go_upto_region 1 with (fail)
    generalize (w.alloc (.cells #[.int .i64 ak, .int .u8 ((ab.toNat : Nat) : Int), .string (bs at_), .int .i64 ap, .slice A as1.len c] 27)).alloc (.cells #[.int .i64 bk, .int .u8 ((bb.toNat : Nat) : Int), .string (bs bt), .int .i64 bp, .slice B bs2.len d] 27) = w1 at *
    obtain ⟨f0, f1, f2, f3, f4⟩ := vl_cells HA.out
    obtain ⟨b0, b1, b2, b3, b4⟩ := vl_cells HB.out
    go_wp2
    go_ret
    exact ⟨rfl, hal.out⟩
/-- Are two lists alike? -/
def alikeL (x y : Vs) : Prop := x.len = y.len ∧ ∀ j, j < x.len → alikeP (x.at j) (y.at j)
noncomputable def alikeB (x y : Vs) : Bool := @decide (alikeL x y) (Classical.propDecidable _)
theorem alikeB_t {x y : Vs} (h : alikeL x y) : alikeB x y = true := by unfold alikeB; simp [h]
theorem alikeB_f {x y : Vs} (h : ¬ alikeL x y) : alikeB x y = false := by unfold alikeB; simp [h]
structure EqS (w0 : World) (x y : Vs) (A B : Option Addr) (w : World) : Prop where
  bel : Below w0.heap.size w0 w
  ra : VRow w A 0 x
  rb : VRow w B 0 y
theorem EqS.later {w0 w w' : World} {x y : Vs} {A B : Option Addr} (h : EqS w0 x y A B w) (hb : Below w.heap.size w w') : EqS w0 x y A B w' := ⟨h.bel.trans (hb.mono h.bel.size), h.ra.later hb, h.rb.later hb⟩
def EqL (w0 : World) (x y : Vs) (A B : Option Addr) (u : Value) (w : World) : Prop := ∃ k : Nat, k ≤ x.len ∧ u = .int .i64 (k : Int) ∧ (∀ j, j < k → alikeP (x.at j) (y.at j)) ∧ EqS w0 x y A B w
set_option maxHeartbeats 16000000 in
theorem equalfunc_any (x y : Vs) (A B : Option Addr) (c d : Nat) (hx : x.len ≤ 1073741824) (w : World) (ha : VRow w A 0 x) (hb : VRow w B 0 y) :
    Calls Try.prog 27 #[.slice A x.len c, .slice B y.len d, .func (.func 28) #[] #[]] w (Ans w (.bool (alikeB x y))) := by
  have HS0 : Hid (EqS w x y A B w) := ⟨Below.refl _ _, ha, hb⟩
  have HT : Hid (alikeL x y → alikeB x y = true) := fun h => alikeB_t h
  have HF : Hid (¬ alikeL x y → alikeB x y = false) := fun h => alikeB_f h
  have HC : Hid (∀ (p q : Vl) (A B : Option Addr) (c d : Nat) (w : World), Calls Try.prog 28 #[.agg (vlC p A c), .agg (vlC q B d)] w (Ans w (.bool (decide (alikeP p q))))) := valike_any
  generalize alikeB x y = r at *
  have hent := enters_of Try.func28 (by kernel_rfl) rfl
  clear ha hb
  by_cases hl : x.len = y.len
  · have z : (((x.len : Nat) : Int) != ((y.len : Nat) : Int)) = false := by simp [hl]
    have HL := Lib.hid hl
    clear hl
    go_enter Try.func27, Try.ntmps27
    go_wp2
    go_loopw [17] (EqL w x y A B) (fun u _ => x.len - (intOf u).toNat)
    case atStart => exact ⟨0, Nat.zero_le _, rfl, fun j hj => absurd hj (Nat.not_lt_zero j), HS0.out⟩
    case round =>
      obtain ⟨k, hk, rfl, hpre, hs⟩ := hrel
      have HS := Lib.hid hs
      have HP := Lib.hid hpre
      clear hs HS0 hpre
      by_cases hlt : k < x.len
      · have hltz : (k : Int) < (x.len : Int) := by omega
        have hltn : k < y.len := by have := HL.out; omega
        have hlty : (k : Int) < (y.len : Int) := by omega
        obtain ⟨gx, ox, X, cx, rfl, hx1⟩ := VRow.el HS.out.ra hlt
        obtain ⟨gy, oy, Y, cy, rfl, hy1⟩ := VRow.el HS.out.rb hltn
        have HCC := Lib.hid (fun w' => HC.out (x.at k) (y.at k) X Y cx cy w')
        have HN : Hid (¬ alikeP (x.at k) (y.at k) → ¬ alikeL x y) := fun h h2 => h (h2.2 k hlt)
        have HQ : Hid (alikeP (x.at k) (y.at k) → ∀ j, j < k + 1 → alikeP (x.at j) (y.at j)) := fun h j hj => by
          rcases (by omega : j < k ∨ j = k) with e | e
          · exact HP.out j e
          · rw [e]; exact h
        clear HP HC
        have HX1 := Lib.hid hx1
        have HY1 := Lib.hid hy1
        clear hx1 hy1
        by_cases hpp : alikeP (x.at k) (y.at k)
        · rw [decide_eq_true hpp] at HCC
          have HQ2 := Lib.hid (HQ.out hpp)
          clear HN hpp HQ
          generalize x.at k = p at *
          generalize y.at k = q at *
          obtain ⟨pk, pb, pt, pp, ps⟩ := p
          obtain ⟨qk, qb, qt, qp, qs⟩ := q
          obtain ⟨p0, p1, p2, p3, p4⟩ := HX1.out.five
          have hyb : Below wr.heap.size wr (wr.alloc (.cells #[.int .i64 pk, .int .u8 ((pb.toNat : Nat) : Int), .string (bs pt), .int .i64 pp, .slice X ps.len cx] 27)) := (Below.refl _ _).alloc (Nat.le_refl _) _
          obtain ⟨q0, q1, q2, q3, q4⟩ := (HY1.out.later hyb).five
          have HBB : Hid (Below wr.heap.size wr ((wr.alloc (.cells #[.int .i64 pk, .int .u8 ((pb.toNat : Nat) : Int), .string (bs pt), .int .i64 pp, .slice X ps.len cx] 27)).alloc (.cells #[.int .i64 qk, .int .u8 ((qb.toNat : Nat) : Int), .string (bs qt), .int .i64 qp, .slice Y qs.len cy] 27))) := hyb.alloc (by simp) _
          rw [vlC_five] at HCC
          rw [vlC_five] at HCC
          simp only at HCC
          clear hyb HX1 HY1
          go_wp2_with fail
          refine (HCC.out _).mono ?_; rintro e w2 ⟨rfl, hb⟩
          have HS2 := Lib.hid (HS.out.later (HBB.out.trans (hb.mono HBB.out.size)))
          clear hb HCC HS HBB p0 p1 p2 p3 p4 q0 q1 q2 q3 q4
          go_wp2
          go_roundw
          case rel => exact ⟨k + 1, by omega, by go_num, HQ2.out, HS2.out⟩
          case measure => simp [intOf]; omega
        · rw [decide_eq_false hpp] at HCC
          have HR : r = false := HF.out (HN.out hpp)
          subst HR
          clear HN HQ hpp
          generalize x.at k = p at *
          generalize y.at k = q at *
          obtain ⟨pk, pb, pt, pp, ps⟩ := p
          obtain ⟨qk, qb, qt, qp, qs⟩ := q
          obtain ⟨p0, p1, p2, p3, p4⟩ := HX1.out.five
          have hyb : Below wr.heap.size wr (wr.alloc (.cells #[.int .i64 pk, .int .u8 ((pb.toNat : Nat) : Int), .string (bs pt), .int .i64 pp, .slice X ps.len cx] 27)) := (Below.refl _ _).alloc (Nat.le_refl _) _
          obtain ⟨q0, q1, q2, q3, q4⟩ := (HY1.out.later hyb).five
          have HBB : Hid (Below wr.heap.size wr ((wr.alloc (.cells #[.int .i64 pk, .int .u8 ((pb.toNat : Nat) : Int), .string (bs pt), .int .i64 pp, .slice X ps.len cx] 27)).alloc (.cells #[.int .i64 qk, .int .u8 ((qb.toNat : Nat) : Int), .string (bs qt), .int .i64 qp, .slice Y qs.len cy] 27))) := hyb.alloc (by simp) _
          rw [vlC_five] at HCC
          rw [vlC_five] at HCC
          simp only at HCC
          clear hyb HX1 HY1
          go_wp2_with fail
          refine (HCC.out _).mono ?_; rintro e w2 ⟨rfl, hb⟩
          have HS2 := Lib.hid (HS.out.later (HBB.out.trans (hb.mono HBB.out.size)))
          clear hb HCC HS HBB p0 p1 p2 p3 p4 q0 q1 q2 q3 q4
          go_wp2
          go_ret
          exact ⟨rfl, HS2.out.bel⟩
      · obtain rfl : k = x.len := by omega
        have hlast : ¬ ((x.len : Nat) : Int) < (x.len : Int) := by omega
        have HR : r = true := HT.out ⟨HL.out, HP.out⟩
        subst HR
        go_wp2
        go_ret
        exact ⟨rfl, HS.out.bel⟩
  · have z : (((x.len : Nat) : Int) != ((y.len : Nat) : Int)) = true := by rw [bne_iff_ne]; omega
    have HR : r = false := HF.out (fun h => hl h.1)
    subst HR
    clear hl
    go_enter Try.func27, Try.ntmps27
    go_wp2
    go_ret
    exact ⟨rfl, HS0.out.bel⟩
end Go.Proofs.Ytgdlbahfmddkaaa
