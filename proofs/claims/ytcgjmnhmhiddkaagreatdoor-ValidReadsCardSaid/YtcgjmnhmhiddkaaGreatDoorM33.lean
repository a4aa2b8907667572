/- The document's one token, a repeat: walked. -/
import Derived.Test.YtcgjmnhmhiddkaaGreatDoorM31
namespace Go.Proofs.YtcgjmnhmhiddkaaGreatDoor
open Go Go.RowKit
set_option linter.unusedVariables false
set_option linter.unusedSimpArgs false
set_option maxHeartbeats 64000000 in
set_option maxRecDepth 1000000 in
theorem rone_rep (l : List UInt8) (i : Nat) (hl : l.length ≤ 1073741800) (hi : i < l.length) (hcc : l[i]'hi = 123) (w : World) : Calls Tryz.prog 37 #[.string (bs l), .int .i64 (i : Int)] w (Ans w (roneV l i)) := by
  have HCC := Lib.hid hcc
  clear hcc
  have hiq : i < (bs l).size := by rw [bs_size]; exact hi
  have hiz : (i : Int) < ((bs l).size : Int) := by omega
  have hget : (bs l)[i]'hiq = l[i]'hi := bs_get _ _ _
  have hil : (i : Int) ≤ 1073741800 := by omega
  have HRV : Hid (roneV l i = roneO (oneV (l[i]'hi) (l.drop (i + 1))) i) := by unfold Hid roneV; rw [List.getD_eq_getElem?_getD, List.getElem?_eq_getElem hi]; rfl
  generalize roneV l i = v at *
  have HX := Lib.hid (RoS.new w #[.int .i64 0, .int .i64 (i : Int), .int .u64 0, .int .u64 0, .int .u64 0, .int .u64 0, .string ⟨#[]⟩, .int .i64 0, .int .i64 0])
  have FS : Hid (∀ w', Calls Tryz.prog 54 #[.int .u8 ((l[i]'hi).toNat : Int)] w' (Ans w' (.int .i64 (shortI (l[i]'hi) : Int)))) := fun w' => rshort_any _ w'
  have hc255 : ((l[i]'hi).toNat : Int) ≤ 255 := by have := UInt8.toNat_lt (l[i]'hi); omega
  generalize l[i]'hi = c at *
  go_enter Tryz.func37, Tryz.ntmps37
  go_upto_region 2 with (fail)
  generalize (w.alloc (.cells #[.int .i64 0, .int .i64 0, .int .u64 0, .int .u64 0, .int .u64 0, .int .u64 0, .string ⟨#[]⟩, .int .i64 0, .int .i64 0] 76)).alloc (.cells #[.int .i64 0, .int .i64 (i : Int), .int .u64 0, .int .u64 0, .int .u64 0, .int .u64 0, .string ⟨#[]⟩, .int .i64 0, .int .i64 0] 76) = w1 at *
  by_cases hsh : 0 < shortI c
  · exfalso; rw [HCC.out] at hsh; revert hsh; decide
  · have hs0 : shortI c = 0 := by omega
    have HS0 := Lib.hid hs0
    rw [hs0] at FS
    clear hsh hs0
    go_wp2_with fail
    refine (FS.out _).mono ?_; rintro e w2 ⟨rfl, hb2⟩
    have HX2 := Lib.hid (HX.out.later hb2)
    clear hb2 HX FS
    have HX := HX2
    clear HX2
    by_cases c46 : c = 46
    · exfalso; rw [HCC.out] at c46; revert c46; decide
    · have h46 : ((c.toNat : Int) == 46) = false := by
        rw [beq_eq_false_iff_ne]; intro e; exact c46 (UInt8.toNat_inj.1 (by show _ = 46; omega))
      by_cases c60 : c = 60
      · exfalso; rw [HCC.out] at c60; revert c60; decide
      · have h60 : ((c.toNat : Int) == 60) = false := by
          rw [beq_eq_false_iff_ne]; intro e; exact c60 (UInt8.toNat_inj.1 (by show _ = 60; omega))
        by_cases c34 : c = 34
        · exfalso; rw [HCC.out] at c34; revert c34; decide
        · have h34 : ((c.toNat : Int) == 34) = false := by
            rw [beq_eq_false_iff_ne]; intro e; exact c34 (UInt8.toNat_inj.1 (by show _ = 34; omega))
          by_cases c123 : c = 123
          · have h123 : ((c.toNat : Int) == 123) = true := by rw [c123]; rfl
            have HRC := Lib.hid (one123 c123 (l.drop (i + 1)))
            clear c123 c34 c60 c46
            cases hc : cutAt 125 (l.drop (i + 1)) with
            | none =>
              have hE := end_none hc
              have FE : Hid (∀ w', Calls Tryz.prog 56 #[.string (bs l), .int .i64 (i : Int), .int .u8 125] w' (Pure w' (.int .i64 (-1)))) := fun w' => by have := rend_any l i 125 (by omega) (by omega) w'; rw [hE] at this; exact this
              have HC := Lib.hid hc
              clear hc hE
              go_wp2_with fail
              refine (FE.out _).mono ?_; rintro e w' ⟨rfl, rfl⟩
              have HR : Hid (v = badO i 4) := by unfold Hid; rw [HRV.out, HRC.out]; unfold closed; rw [HC.out]; rfl
              unfold badO at HR
              have hk := HX.out.res
              have ef := hk.frozen
              obtain ⟨e0, e1, e2, e3, e4, e5, e6, e7, e8⟩ := nine_cells hk
              obtain ⟨s0, s1, s2, s3, s4, s5, s6, s7, s8⟩ := nine hk
              have HLT := Lib.hid hk.lt
              clear hk
              have S0 := Lib.hid s0
              have S1 := Lib.hid s1
              have S2 := Lib.hid s2
              have S3 := Lib.hid s3
              have S4 := Lib.hid s4
              have S5 := Lib.hid s5
              have S6 := Lib.hid s6
              have S7 := Lib.hid s7
              have S8 := Lib.hid s8
              clear s0 s1 s2 s3 s4 s5 s6 s7 s8
              obtain ⟨d0, d1, d2, d3, d4, d5, d6, d7, d8⟩ := nine_cells HX.out.box
              go_wp2
              exact bodyPost_ret (v := .tuple #[.agg #[.int .i64 0, .int .i64 (i : Int), .int .u64 0, .int .u64 0, .int .u64 0, .int .u64 0, .string ⟨#[]⟩, .int .i64 0, .int .i64 0], .int .i64 0, .int .i64 (4 : Int)]) (by simp [results, Tryz.results37, go_sem, S0.out, S1.out, S2.out, S3.out, S4.out, S5.out, S6.out, S7.out, S8.out]) rfl ⟨by rw [HR.out] <;> rfl, HX.out.bel.trans (below9 (Below.refl _ _) (Nat.le_refl _) _ _ _ _ _ _ _ _ _)⟩
            | some p =>
              obtain ⟨a, b⟩ := p
              obtain ⟨hE, hkl, hta, hda⟩ := end_some hc
              have FE : Hid (∀ w', Calls Tryz.prog 56 #[.string (bs l), .int .i64 (i : Int), .int .u8 125] w' (Pure w' (.int .i64 ((i + 1 + a.length : Nat) : Int)))) := fun w' => by have := rend_any l i 125 (by omega) (by omega) w'; rw [hE] at this; exact this
              have hex : (bs l).extract (i + 1) (i + 1 + a.length) = bs a := by rw [bs_extract, show i + 1 + a.length - (i + 1) = a.length by omega, hta]
              have hex0 : (bs l).extract 0 (i + 1 + a.length) = bs (l.take (i + 1 + a.length)) := by rw [bs_extract]; simp
              have HC := Lib.hid hc
              have HTA := Lib.hid hta
              have HDA := Lib.hid hda
              obtain ⟨k, hk⟩ : ∃ k, k = i + 1 + a.length := ⟨_, rfl⟩
              rw [← hk] at FE hex hex0 HDA hkl
              have HK := Lib.hid hk
              have hik : (i : Int) + 1 ≤ (k : Int) := by omega
              have hkn : ¬ ((k : Int) < 0) := by omega
              have hks : (k : Int) ≤ ((bs l).size : Int) := by rw [bs_size]; omega
              have hkm : (k : Int) ≤ 1073741800 := by omega
              have hal : a.length ≤ 1073741800 := by omega
              clear hc hE hta hda hk
              obtain ⟨D, hD⟩ : ∃ D, (digsOf a).length = D := ⟨_, rfl⟩
              have HDD := Lib.hid hD
              have hn1 : numRG (l.take k) (i + 1) = (match numV (digsOf a) with | some n => Value.tuple #[.int .i64 (n : Int), .int .i64 ((i + 1 + D : Nat) : Int)] | none => Value.tuple #[.int .i64 (-1), .int .i64 ((i + 1 + D : Nat) : Int)]) := by unfold numRG; rw [HDA.out, hD]; cases numV (digsOf a) <;> rfl
              have htk : (l.take k).length = k := by rw [List.length_take]; omega
              have FN1 : Hid (∀ w', Calls Tryz.prog 59 #[.string (bs (l.take k)), .int .i64 ((i : Int) + 1)] w' (Pure w' (numRG (l.take k) (i + 1)))) := fun w' => rnumber_any (l.take k) (i + 1) (by rw [htk]; omega) (by rw [htk]; omega) w'
              obtain ⟨x1, hx1⟩ : ∃ x1, x1 = i + 1 + D := ⟨_, rfl⟩
              have HX1 := Lib.hid hx1
              have hDa : D ≤ a.length := by
                have e := congrArg List.length (digsOf_split a)
                rw [List.length_append, hD] at e; omega
              have FN2 : Hid (x1 < k → ∀ w', Calls Tryz.prog 59 #[.string (bs (l.take k)), .int .i64 ((x1 : Int) + 1)] w' (Pure w' (numRG (l.take k) (x1 + 1)))) := fun h w' => rnumber_any (l.take k) (x1 + 1) (by rw [htk]; omega) (by rw [htk]; omega) w'
              have HN2 : Hid (numRG (l.take k) (x1 + 1) = (match numV (digsOf (a.drop (D + 1))) with | some n => Value.tuple #[.int .i64 (n : Int), .int .i64 ((x1 + 1 + (digsOf (a.drop (D + 1))).length : Nat) : Int)] | none => Value.tuple #[.int .i64 (-1), .int .i64 ((x1 + 1 + (digsOf (a.drop (D + 1))).length : Nat) : Int)])) := by
                have e : (l.take k).drop (x1 + 1) = a.drop (D + 1) := by
                  conv => rhs; rw [← HDA.out]
                  rw [List.drop_drop, show i + 1 + (D + 1) = x1 + 1 by omega]
                unfold Hid numRG; rw [e]; cases numV (digsOf (a.drop (D + 1))) <;> rfl
              rw [hn1, ← hx1] at FN1
              clear hn1 htk hD hx1
              have HRE := Lib.hid (repG_eq a)
              cases hx : numV (digsOf a) with
              | none =>
                rw [hx] at FN1
                have HVX := Lib.hid hx
                clear hx FN2 HN2
                go_wp2_with fail
                refine (FE.out _).mono ?_; rintro e w' ⟨rfl, rfl⟩
                go_wp2_with fail
                refine (FN1.out _).mono ?_; rintro e w' ⟨rfl, rfl⟩
                have HR : Hid (v = badO i 4) := by unfold Hid; rw [HRV.out, HRC.out]; unfold closed; rw [HC.out]; simp only; rw [← HRE.out]; unfold repG; rw [HVX.out]; rfl
                unfold badO at HR
                have hk := HX.out.res
                have ef := hk.frozen
                obtain ⟨e0, e1, e2, e3, e4, e5, e6, e7, e8⟩ := nine_cells hk
                obtain ⟨s0, s1, s2, s3, s4, s5, s6, s7, s8⟩ := nine hk
                have HLT := Lib.hid hk.lt
                clear hk
                have S0 := Lib.hid s0
                have S1 := Lib.hid s1
                have S2 := Lib.hid s2
                have S3 := Lib.hid s3
                have S4 := Lib.hid s4
                have S5 := Lib.hid s5
                have S6 := Lib.hid s6
                have S7 := Lib.hid s7
                have S8 := Lib.hid s8
                clear s0 s1 s2 s3 s4 s5 s6 s7 s8
                obtain ⟨d0, d1, d2, d3, d4, d5, d6, d7, d8⟩ := nine_cells HX.out.box
                go_wp2
                exact bodyPost_ret (v := .tuple #[.agg #[.int .i64 0, .int .i64 (i : Int), .int .u64 0, .int .u64 0, .int .u64 0, .int .u64 0, .string ⟨#[]⟩, .int .i64 0, .int .i64 0], .int .i64 0, .int .i64 (4 : Int)]) (by simp [results, Tryz.results37, go_sem, S0.out, S1.out, S2.out, S3.out, S4.out, S5.out, S6.out, S7.out, S8.out]) rfl ⟨by rw [HR.out] <;> rfl, HX.out.bel.trans (below9 (Below.refl _ _) (Nat.le_refl _) _ _ _ _ _ _ _ _ _)⟩
              | some x =>
                rw [hx] at FN1
                have HVX := Lib.hid hx
                have hxn : ¬ ((x : Int) < 0) := by omega
                clear hx
                go_wp2_with fail
                refine (FE.out _).mono ?_; rintro e w' ⟨rfl, rfl⟩
                go_wp2_with fail
                refine (FN1.out _).mono ?_; rintro e w' ⟨rfl, rfl⟩
                clear FN1 FE
                by_cases hge : a.length ≤ D
                · have hgz : ((x1 : Int) ≥ (k : Int)) := by have := HX1.out; have := HK.out; omega
                  have HGE := Lib.hid hge
                  clear hge hDa FN2 HN2
                  have HR : Hid (v = badO i 4) := by unfold Hid; rw [HRV.out, HRC.out]; unfold closed; rw [HC.out]; simp only; rw [← HRE.out]; unfold repG; rw [HVX.out, HDD.out]; simp only; rw [if_pos (.inl HGE.out)]; rfl
                  unfold badO at HR
                  have hk := HX.out.res
                  have ef := hk.frozen
                  obtain ⟨e0, e1, e2, e3, e4, e5, e6, e7, e8⟩ := nine_cells hk
                  obtain ⟨s0, s1, s2, s3, s4, s5, s6, s7, s8⟩ := nine hk
                  have HLT := Lib.hid hk.lt
                  clear hk
                  have S0 := Lib.hid s0
                  have S1 := Lib.hid s1
                  have S2 := Lib.hid s2
                  have S3 := Lib.hid s3
                  have S4 := Lib.hid s4
                  have S5 := Lib.hid s5
                  have S6 := Lib.hid s6
                  have S7 := Lib.hid s7
                  have S8 := Lib.hid s8
                  clear s0 s1 s2 s3 s4 s5 s6 s7 s8
                  obtain ⟨d0, d1, d2, d3, d4, d5, d6, d7, d8⟩ := nine_cells HX.out.box
                  go_wp2
                  exact bodyPost_ret (v := .tuple #[.agg #[.int .i64 0, .int .i64 (i : Int), .int .u64 0, .int .u64 0, .int .u64 0, .int .u64 0, .string ⟨#[]⟩, .int .i64 0, .int .i64 0], .int .i64 0, .int .i64 (4 : Int)]) (by simp [results, Tryz.results37, go_sem, S0.out, S1.out, S2.out, S3.out, S4.out, S5.out, S6.out, S7.out, S8.out]) rfl ⟨by rw [HR.out] <;> rfl, HX.out.bel.trans (below9 (Below.refl _ _) (Nat.le_refl _) _ _ _ _ _ _ _ _ _)⟩
                · have hgz : ¬ ((x1 : Int) ≥ (k : Int)) := by have := HX1.out; have := HK.out; omega
                  have hxk : x1 < k := by omega
                  have hxl : x1 < l.length := by omega
                  have hxq : x1 < (bs l).size := by rw [bs_size]; exact hxl
                  have hxz : (x1 : Int) < ((bs l).size : Int) := by omega
                  have hxg : (bs l)[x1]'hxq = l[x1]'hxl := bs_get _ _ _
                  have hxm : (x1 : Int) + 1 ≤ 1073741800 := by omega
                  have hgd : a.getD D 0 = l[x1]'hxl := by
                    have e : a[D]? = l[i + 1 + D]? := by
                      conv => lhs; rw [← HTA.out]
                      rw [List.getElem?_take, if_pos (by omega), List.getElem?_drop]
                    rw [List.getD_eq_getElem?_getD, e, ← HX1.out, List.getElem?_eq_getElem hxl]; rfl
                  have HGD := Lib.hid hgd
                  have HGE := Lib.hid hge
                  clear hge hDa hgd
                  by_cases h44 : l[x1]'hxl = 44
                  · have h44z : (((l[x1]'hxl).toNat : Int) != 44) = false := by rw [h44]; rfl
                    have h44y : (((l[x1]'hxl).toNat : Int) == 44) = true := by rw [h44]; rfl
                    have hx0n : ¬ ((x : Int) < 0) := by omega
                    have hx0d : decide ((x : Int) < 0) = false := decide_eq_false hx0n
                    have hgzd : decide ((x1 : Int) ≥ (k : Int)) = false := decide_eq_false hgz
                    have hgze : decide ((k : Int) ≤ (x1 : Int)) = false := decide_eq_false hgz
                    have hgzn : decide (k ≤ x1) = false := decide_eq_false (by omega)
                    have H44 : Hid (¬ (a.length ≤ D ∨ a.getD D 0 ≠ 44)) := by unfold Hid; rintro (h | h); exact HGE.out h; rw [HGD.out] at h; exact h h44
                    clear h44 HGD
                    generalize l[x1]'hxl = c1 at *
                    have FN3 := Lib.hid (FN2.out hxk)
                    clear FN2
                    obtain ⟨D2, hD2⟩ : ∃ D2, (digsOf (a.drop (D + 1))).length = D2 := ⟨_, rfl⟩
                    have HD2 := Lib.hid hD2
                    rw [hD2] at HN2
                    obtain ⟨x2, hx2⟩ : ∃ x2, x2 = x1 + 1 + D2 := ⟨_, rfl⟩
                    have HX2 := Lib.hid hx2
                    rw [HN2.out, ← hx2] at FN3
                    clear HN2 hD2 hx2
                    cases hy : numV (digsOf (a.drop (D + 1))) with
                    | none =>
                      rw [hy] at FN3
                      have HVY := Lib.hid hy
                      clear hy
                      go_wp2_with fail
                      refine (FN3.out _).mono ?_; rintro e w' ⟨rfl, rfl⟩
                      have HR : Hid (v = badO i 4) := by unfold Hid; rw [HRV.out, HRC.out]; unfold closed; rw [HC.out]; simp only; rw [← HRE.out]; unfold repG; rw [HVX.out, HDD.out]; simp only; rw [if_neg H44.out, HVY.out]; rfl
                      unfold badO at HR
                      have hk := HX.out.res
                      have ef := hk.frozen
                      obtain ⟨e0, e1, e2, e3, e4, e5, e6, e7, e8⟩ := nine_cells hk
                      obtain ⟨s0, s1, s2, s3, s4, s5, s6, s7, s8⟩ := nine hk
                      have HLT := Lib.hid hk.lt
                      clear hk
                      have S0 := Lib.hid s0
                      have S1 := Lib.hid s1
                      have S2 := Lib.hid s2
                      have S3 := Lib.hid s3
                      have S4 := Lib.hid s4
                      have S5 := Lib.hid s5
                      have S6 := Lib.hid s6
                      have S7 := Lib.hid s7
                      have S8 := Lib.hid s8
                      clear s0 s1 s2 s3 s4 s5 s6 s7 s8
                      obtain ⟨d0, d1, d2, d3, d4, d5, d6, d7, d8⟩ := nine_cells HX.out.box
                      go_wp2
                      exact bodyPost_ret (v := .tuple #[.agg #[.int .i64 0, .int .i64 (i : Int), .int .u64 0, .int .u64 0, .int .u64 0, .int .u64 0, .string ⟨#[]⟩, .int .i64 0, .int .i64 0], .int .i64 0, .int .i64 (4 : Int)]) (by simp [results, Tryz.results37, go_sem, S0.out, S1.out, S2.out, S3.out, S4.out, S5.out, S6.out, S7.out, S8.out]) rfl ⟨by rw [HR.out] <;> rfl, HX.out.bel.trans (below9 (Below.refl _ _) (Nat.le_refl _) _ _ _ _ _ _ _ _ _)⟩
                    | some y =>
                      rw [hy] at FN3
                      have HVY := Lib.hid hy
                      have hyn : ¬ ((y : Int) < 0) := by omega
                      clear hy
                      by_cases hk2 : D2 + D + 1 = a.length
                      · have hx2k : x2 = k := by
                          have := HX1.out; have := HK.out; have := HX2.out; omega
                        rw [hx2k] at FN3
                        clear hx2k HX2
                        have hkz : ((k : Int) != (k : Int)) = false := by rw [bne_eq_false_iff_eq]
                        have hky : ((k : Int) == (k : Int)) = true := beq_self_eq_true _
                        have HREP : Hid (repV a = some (x, y)) := by
                          unfold Hid; rw [← HRE.out]; unfold repG; rw [HVX.out, HDD.out]; simp only; rw [if_neg H44.out, HVY.out]; simp only; rw [if_neg (by rw [HD2.out]; omega)]
                        have HK2 := Lib.hid hk2
                        clear hk2
                        go_wp2_with fail
                        refine (FN3.out _).mono ?_; rintro e w' ⟨rfl, rfl⟩
                        have hy0d : decide ((y : Int) < 0) = false := decide_eq_false (by omega)
                        clear hkz hky
                        by_cases h255 : 255 < y
                        · have h255z : ((y : Int) > 255) := by omega
                          have H255 := Lib.hid h255
                          have h255d : decide ((255 : Int) < (y : Int)) = true := decide_eq_true h255z
                          have HR : Hid (v = badO i 5) := by unfold Hid; rw [HRV.out, HRC.out]; unfold closed; rw [HC.out]; simp only; rw [HREP.out]; simp only; rw [if_pos (.inl H255.out)]; rfl
                          unfold badO at HR
                          have hk := HX.out.res
                          have ef := hk.frozen
                          obtain ⟨e0, e1, e2, e3, e4, e5, e6, e7, e8⟩ := nine_cells hk
                          obtain ⟨s0, s1, s2, s3, s4, s5, s6, s7, s8⟩ := nine hk
                          have HLT := Lib.hid hk.lt
                          clear hk
                          have S0 := Lib.hid s0
                          have S1 := Lib.hid s1
                          have S2 := Lib.hid s2
                          have S3 := Lib.hid s3
                          have S4 := Lib.hid s4
                          have S5 := Lib.hid s5
                          have S6 := Lib.hid s6
                          have S7 := Lib.hid s7
                          have S8 := Lib.hid s8
                          clear s0 s1 s2 s3 s4 s5 s6 s7 s8
                          obtain ⟨d0, d1, d2, d3, d4, d5, d6, d7, d8⟩ := nine_cells HX.out.box
                          go_wp2
                          exact bodyPost_ret (v := .tuple #[.agg #[.int .i64 0, .int .i64 (i : Int), .int .u64 0, .int .u64 0, .int .u64 0, .int .u64 0, .string ⟨#[]⟩, .int .i64 0, .int .i64 0], .int .i64 0, .int .i64 (5 : Int)]) (by simp [results, Tryz.results37, go_sem, S0.out, S1.out, S2.out, S3.out, S4.out, S5.out, S6.out, S7.out, S8.out]) rfl ⟨by rw [HR.out] <;> rfl, HX.out.bel.trans (below9 (Below.refl _ _) (Nat.le_refl _) _ _ _ _ _ _ _ _ _)⟩
                        · have h255z : ¬ ((y : Int) > 255) := by omega
                          by_cases hyx : y < x
                          · have hyxz : ((x : Int) > (y : Int)) := by omega
                            have HYX := Lib.hid hyx
                            have h255d : decide ((255 : Int) < (y : Int)) = false := decide_eq_false h255z
                            have hyxd : decide (y < x) = true := decide_eq_true hyx
                            have HR : Hid (v = badO i 5) := by unfold Hid; rw [HRV.out, HRC.out]; unfold closed; rw [HC.out]; simp only; rw [HREP.out]; simp only; rw [if_pos (.inr HYX.out)]; rfl
                            unfold badO at HR
                            have hk := HX.out.res
                            have ef := hk.frozen
                            obtain ⟨e0, e1, e2, e3, e4, e5, e6, e7, e8⟩ := nine_cells hk
                            obtain ⟨s0, s1, s2, s3, s4, s5, s6, s7, s8⟩ := nine hk
                            have HLT := Lib.hid hk.lt
                            clear hk
                            have S0 := Lib.hid s0
                            have S1 := Lib.hid s1
                            have S2 := Lib.hid s2
                            have S3 := Lib.hid s3
                            have S4 := Lib.hid s4
                            have S5 := Lib.hid s5
                            have S6 := Lib.hid s6
                            have S7 := Lib.hid s7
                            have S8 := Lib.hid s8
                            clear s0 s1 s2 s3 s4 s5 s6 s7 s8
                            obtain ⟨d0, d1, d2, d3, d4, d5, d6, d7, d8⟩ := nine_cells HX.out.box
                            go_wp2
                            exact bodyPost_ret (v := .tuple #[.agg #[.int .i64 0, .int .i64 (i : Int), .int .u64 0, .int .u64 0, .int .u64 0, .int .u64 0, .string ⟨#[]⟩, .int .i64 0, .int .i64 0], .int .i64 0, .int .i64 (5 : Int)]) (by simp [results, Tryz.results37, go_sem, S0.out, S1.out, S2.out, S3.out, S4.out, S5.out, S6.out, S7.out, S8.out]) rfl ⟨by rw [HR.out] <;> rfl, HX.out.bel.trans (below9 (Below.refl _ _) (Nat.le_refl _) _ _ _ _ _ _ _ _ _)⟩
                          · have hyxz : ¬ ((x : Int) > (y : Int)) := by omega
                            have HR : Hid (v = .tuple #[.agg #[.int .i64 7, .int .i64 (i : Int), .int .u64 0, .int .u64 0, .int .u64 0, .int .u64 0, .string ⟨#[]⟩, .int .i64 (x : Int), .int .i64 (y : Int)], .int .i64 ((k : Int) + 1), .int .i64 0]) := by
                              unfold Hid; rw [HRV.out, HRC.out]; unfold closed; rw [HC.out]; simp only; rw [HREP.out]; simp only
                              rw [if_neg (by omega)]
                              show Value.tuple #[.agg (tokC { kind := 7, at_ := i, lo := x, hi := y }), .int .i64 ((i + (a.length + 1) + 1 : Nat) : Int), _] = _
                              rw [show ((i + (a.length + 1) + 1 : Nat) : Int) = (k : Int) + 1 by have := HK.out; omega, tokC_plain]; rfl
                            have h255d : decide ((255 : Int) < (y : Int)) = false := decide_eq_false h255z
                            have hyxd : decide (y < x) = false := decide_eq_false hyx
                            obtain ⟨d0, d1, d2, d3, d4, d5, d6, d7, d8⟩ := nine_cells HX.out.box
                            have df := HX.out.box.frozen
                            go_upto_region 40 with (fail)
                            have HX3 := Lib.hid (HX.out.set 0 (.int .i64 7))
                            generalize w2.setCell ⟨w.heap.size + 1, 0, none⟩ (.int .i64 7) = w7 at *
                            clear d0 d1 d2 d3 d4 d5 d6 d7 d8 df
                            clear HX
                            have HX : Hid (RoS w #[.int .i64 7, .int .i64 (i : Int), .int .u64 0, .int .u64 0, .int .u64 0, .int .u64 0, .string ⟨#[]⟩, .int .i64 0, .int .i64 0] w7) := HX3.out
                            obtain ⟨d0, d1, d2, d3, d4, d5, d6, d7, d8⟩ := nine_cells HX.out.box
                            have df := HX.out.box.frozen
                            go_upto_region 41 with (fail)
                            have HX4 := Lib.hid (HX.out.set 7 (.int .i64 (x : Int)))
                            generalize w7.setCell ⟨w.heap.size + 1, 7, none⟩ (.int .i64 (x : Int)) = w8 at *
                            clear d0 d1 d2 d3 d4 d5 d6 d7 d8 df
                            clear HX HX3
                            have HX : Hid (RoS w #[.int .i64 7, .int .i64 (i : Int), .int .u64 0, .int .u64 0, .int .u64 0, .int .u64 0, .string ⟨#[]⟩, .int .i64 (x : Int), .int .i64 0] w8) := HX4.out
                            obtain ⟨d0, d1, d2, d3, d4, d5, d6, d7, d8⟩ := nine_cells HX.out.box
                            have df := HX.out.box.frozen
                            go_upto_region 42 with (fail)
                            have HX5 := Lib.hid (HX.out.set 8 (.int .i64 (y : Int)))
                            generalize w8.setCell ⟨w.heap.size + 1, 8, none⟩ (.int .i64 (y : Int)) = w9 at *
                            clear d0 d1 d2 d3 d4 d5 d6 d7 d8 df
                            clear HX HX4
                            have HX : Hid (RoS w #[.int .i64 7, .int .i64 (i : Int), .int .u64 0, .int .u64 0, .int .u64 0, .int .u64 0, .string ⟨#[]⟩, .int .i64 (x : Int), .int .i64 (y : Int)] w9) := HX5.out
                            have hk := HX.out.res
                            have ef := hk.frozen
                            obtain ⟨e0, e1, e2, e3, e4, e5, e6, e7, e8⟩ := nine_cells hk
                            obtain ⟨s0, s1, s2, s3, s4, s5, s6, s7, s8⟩ := nine hk
                            have HLT := Lib.hid hk.lt
                            clear hk
                            have S0 := Lib.hid s0
                            have S1 := Lib.hid s1
                            have S2 := Lib.hid s2
                            have S3 := Lib.hid s3
                            have S4 := Lib.hid s4
                            have S5 := Lib.hid s5
                            have S6 := Lib.hid s6
                            have S7 := Lib.hid s7
                            have S8 := Lib.hid s8
                            clear s0 s1 s2 s3 s4 s5 s6 s7 s8
                            obtain ⟨d0, d1, d2, d3, d4, d5, d6, d7, d8⟩ := nine_cells HX.out.box
                            go_wp2
                            exact bodyPost_ret (v := .tuple #[.agg #[.int .i64 7, .int .i64 (i : Int), .int .u64 0, .int .u64 0, .int .u64 0, .int .u64 0, .string ⟨#[]⟩, .int .i64 (x : Int), .int .i64 (y : Int)], .int .i64 ((k : Int) + 1), .int .i64 0]) (by simp [results, Tryz.results37, go_sem, S0.out, S1.out, S2.out, S3.out, S4.out, S5.out, S6.out, S7.out, S8.out]) rfl ⟨by rw [HR.out] <;> rfl, HX.out.bel.trans (below9 (Below.refl _ _) (Nat.le_refl _) _ _ _ _ _ _ _ _ _)⟩
                      · have hkz : ((x2 : Int) != (k : Int)) = true := by
                          have := HX1.out; have := HK.out; have := HX2.out; rw [bne_iff_ne]; omega
                        have hky : ((x2 : Int) == (k : Int)) = false := by
                          have := HX1.out; have := HK.out; have := HX2.out; rw [beq_eq_false_iff_ne]; omega
                        have HK2 : Hid (repV a = none) := by
                          unfold Hid; rw [← HRE.out]; unfold repG; rw [HVX.out, HDD.out]; simp only; rw [if_neg H44.out, HVY.out]; simp only; rw [if_pos (by rw [HD2.out]; omega)]
                        clear hk2
                        go_wp2_with fail
                        refine (FN3.out _).mono ?_; rintro e w' ⟨rfl, rfl⟩
                        have HR : Hid (v = badO i 4) := by unfold Hid; rw [HRV.out, HRC.out]; unfold closed; rw [HC.out]; simp only; rw [HK2.out]; rfl
                        unfold badO at HR
                        have hk := HX.out.res
                        have ef := hk.frozen
                        obtain ⟨e0, e1, e2, e3, e4, e5, e6, e7, e8⟩ := nine_cells hk
                        obtain ⟨s0, s1, s2, s3, s4, s5, s6, s7, s8⟩ := nine hk
                        have HLT := Lib.hid hk.lt
                        clear hk
                        have S0 := Lib.hid s0
                        have S1 := Lib.hid s1
                        have S2 := Lib.hid s2
                        have S3 := Lib.hid s3
                        have S4 := Lib.hid s4
                        have S5 := Lib.hid s5
                        have S6 := Lib.hid s6
                        have S7 := Lib.hid s7
                        have S8 := Lib.hid s8
                        clear s0 s1 s2 s3 s4 s5 s6 s7 s8
                        obtain ⟨d0, d1, d2, d3, d4, d5, d6, d7, d8⟩ := nine_cells HX.out.box
                        go_wp2
                        exact bodyPost_ret (v := .tuple #[.agg #[.int .i64 0, .int .i64 (i : Int), .int .u64 0, .int .u64 0, .int .u64 0, .int .u64 0, .string ⟨#[]⟩, .int .i64 0, .int .i64 0], .int .i64 0, .int .i64 (4 : Int)]) (by simp [results, Tryz.results37, go_sem, S0.out, S1.out, S2.out, S3.out, S4.out, S5.out, S6.out, S7.out, S8.out]) rfl ⟨by rw [HR.out] <;> rfl, HX.out.bel.trans (below9 (Below.refl _ _) (Nat.le_refl _) _ _ _ _ _ _ _ _ _)⟩
                  · have h44z : (((l[x1]'hxl).toNat : Int) != 44) = true := by
                      rw [bne_iff_ne]; intro e; exact h44 (UInt8.toNat_inj.1 (by show _ = 44; omega))
                    have H44 : Hid (a.length ≤ D ∨ a.getD D 0 ≠ 44) := .inr (by rw [HGD.out]; exact h44)
                    clear h44 HGD FN2 HN2
                    generalize l[x1]'hxl = c1 at *
                    have HR : Hid (v = badO i 4) := by unfold Hid; rw [HRV.out, HRC.out]; unfold closed; rw [HC.out]; simp only; rw [← HRE.out]; unfold repG; rw [HVX.out, HDD.out]; simp only; rw [if_pos H44.out]; rfl
                    unfold badO at HR
                    have hk := HX.out.res
                    have ef := hk.frozen
                    obtain ⟨e0, e1, e2, e3, e4, e5, e6, e7, e8⟩ := nine_cells hk
                    obtain ⟨s0, s1, s2, s3, s4, s5, s6, s7, s8⟩ := nine hk
                    have HLT := Lib.hid hk.lt
                    clear hk
                    have S0 := Lib.hid s0
                    have S1 := Lib.hid s1
                    have S2 := Lib.hid s2
                    have S3 := Lib.hid s3
                    have S4 := Lib.hid s4
                    have S5 := Lib.hid s5
                    have S6 := Lib.hid s6
                    have S7 := Lib.hid s7
                    have S8 := Lib.hid s8
                    clear s0 s1 s2 s3 s4 s5 s6 s7 s8
                    obtain ⟨d0, d1, d2, d3, d4, d5, d6, d7, d8⟩ := nine_cells HX.out.box
                    go_wp2
                    exact bodyPost_ret (v := .tuple #[.agg #[.int .i64 0, .int .i64 (i : Int), .int .u64 0, .int .u64 0, .int .u64 0, .int .u64 0, .string ⟨#[]⟩, .int .i64 0, .int .i64 0], .int .i64 0, .int .i64 (4 : Int)]) (by simp [results, Tryz.results37, go_sem, S0.out, S1.out, S2.out, S3.out, S4.out, S5.out, S6.out, S7.out, S8.out]) rfl ⟨by rw [HR.out] <;> rfl, HX.out.bel.trans (below9 (Below.refl _ _) (Nat.le_refl _) _ _ _ _ _ _ _ _ _)⟩
          · exact absurd HCC.out c123
end Go.Proofs.YtcgjmnhmhiddkaaGreatDoor
