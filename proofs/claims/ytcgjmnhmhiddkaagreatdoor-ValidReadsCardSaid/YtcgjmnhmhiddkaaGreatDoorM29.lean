/- The document's classes of a text, not turned: walked. -/
import Derived.Test.YtcgjmnhmhiddkaaGreatDoorM28
namespace Go.Proofs.YtcgjmnhmhiddkaaGreatDoor
open Go Go.RowKit
set_option linter.unusedVariables false
set_option linter.unusedSimpArgs false
set_option maxHeartbeats 64000000 in
set_option maxRecDepth 1000000 in
theorem rbytes_plain (l : List UInt8) (hl : l.length ≤ 1073741800) (hn : l.head? ≠ some 94) (w : World) : Calls Tryz.prog 57 #[.string (bs l)] w (BtP w (classV l)) := by
  obtain ⟨v, hv⟩ : ∃ v, classV l = v := ⟨_, rfl⟩
  rw [hv]
  have HV := Lib.hid hv
  clear hv
  have Z : cells4 0#256 = #[.int .u64 0, .int .u64 0, .int .u64 0, .int .u64 0] := z4_eq.symm
  have HS0 : Hid (BtS w 0#256 ((w.alloc (.cells (cells4 0#256) 42)).alloc (.cells (cells4 0#256) 42))) :=
    ⟨((Below.refl _ w).alloc (Nat.le_refl _) _).alloc (by simp) _, (Blk.new w _ _).alloc _, Blk.new' (by simp) _ _⟩
  rw [Z] at HS0
  clear Z
  go_enter Tryz.func57, Tryz.ntmps57
  cases hlc : l with
  | nil =>
    have h0z : ¬ (((bs ([] : List UInt8)).size : Int) > 0) := by rw [bs_size]; simp
    have hqz : ¬ ((0 : Int) < ((bs ([] : List UInt8)).size : Int)) := by rw [bs_size]; simp
    have HR : Hid (v = some 0#256) := by unfold Hid; rw [← HV.out, hlc]; rfl
    go_wp2
    go_loopw [4] (fun iv wr => iv = Value.int .i64 0 ∧ BtS w 0#256 wr) (fun _ _ => 0)
    case atStart => exact ⟨rfl, HS0.out⟩
    case round =>
      obtain ⟨rfl, hs⟩ := hrel
      have HX0 := Lib.hid hs
      clear hs HS0
      have hk := HX0.out.res
      obtain ⟨s0, s1, s2, s3⟩ := four' hk
      have ef := hk.frozen
      have er := hk.cells
      have eb := HX0.out.box.cells
      clear hk
      go_wp2
      exact bodyPost_ret (v := .tuple #[.agg #[.int .u64 (wd (0#256) 0), .int .u64 (wd (0#256) 1), .int .u64 (wd (0#256) 2), .int .u64 (wd (0#256) 3)], .bool true]) (by simp [results, Tryz.results57, go_sem, s0, s1, s2, s3]) rfl (by rw [HR.out]; exact ⟨rfl, HX0.out.bel.trans (below4' (Nat.le_refl _) _ _ _ _)⟩)
  | cons c m =>
    have h0 : 0 < (bs l).size := by rw [bs_size, hlc]; simp
    have h0z : ((bs l).size : Int) > 0 := by omega
    have hg0 : (bs l)[0]'h0 = c := by rw [bs_get]; simp [hlc]
    rw [← hlc]
    have h94 : ¬ c = 94 := fun e => hn (by rw [hlc, e]; rfl)
    clear hn
    have HVV : Hid (v = (listV (l.drop 0)).map fun s => s) := by
      unfold Hid; rw [← HV.out]; unfold classV; rw [if_neg (by rw [hlc]; simp; exact h94)]; simp
    have hcz : ((c.toNat : Int) == 94) = false := by
      rw [beq_eq_false_iff_ne]; intro e; exact h94 (UInt8.toNat_inj.1 (by show _ = 94; omega))
    have hl0 : 0 < l.length := by rw [hlc]; simp
    clear hlc h94 HV
    go_wp2
    go_loopw [4] (BtL w l 0) (fun iv _ => l.length - (intOf iv).toNat)
    case atStart => exact ⟨0, 0#256, _, by omega, rfl, Nat.lt_succ_self _, listV_G _, HS0.out⟩
    case round =>
      obtain ⟨q, S, f, hq1, rfl, hf, hv, hs⟩ := hrel
      have HB := Lib.hid hs
      have HVL := Lib.hid hv
      clear hs hv HS0
      have hql : (q : Int) ≤ 1073741824 := by omega
      by_cases hlt : q < l.length
      · obtain ⟨f, rfl⟩ : ∃ g, f = g + 1 := ⟨f - 1, by omega⟩
        have hqz : (q : Int) < ((bs l).size : Int) := by rw [bs_size]; omega
        have hit := items_at (f := f) (S := S) hlt
        rw [← HVL.out] at hit
        have HIT := Lib.hid hit
        have FP : Hid (∀ w', Calls Tryz.prog 88 #[.string (bs l), .int .i64 (q : Int)] w' (Ans w' (.int .i64 (pairI l q)))) := fun w' => rpair_any l q (by omega) w'
        obtain ⟨i2, hi2⟩ : ∃ i2, i2 = q + 2 := ⟨_, rfl⟩
        have FP3 : Hid (∀ w', Calls Tryz.prog 88 #[.string (bs l), .int .i64 ((i2 : Int) + 1)] w' (Ans w' (.int .i64 (pairI l (q + 3))))) := fun w' => by
          have := rpair_any l (q + 3) (by omega) w'
          rwa [show ((q + 3 : Nat) : Int) = (i2 : Int) + 1 by omega] at this
        have hi2z : (q : Int) + 2 = (i2 : Int) := by omega
        have HI2 : Hid (q < i2 ∧ i2 = q + 2) := ⟨by omega, hi2⟩
        have HI2Z := Lib.hid hi2z
        clear hit HVL hi2 hi2z
        rcases pairI_eq l q with ⟨p1, p2, -⟩ | ⟨p1, -, p3, p4⟩
        · have HN : Hid (listV (l.drop 0) = none) := by unfold Hid; rw [HIT.out, if_pos p1]
          rw [p2] at FP
          clear HIT p1 p2
          go_wp2_with fail
          refine (FP.out _).mono ?_; rintro e w3 ⟨rfl, hb3⟩
          have HX0 := Lib.hid (HB.out.later hb3)
          clear hb3 HB
          go_upto_region 11 with (fail)
          rw [HI2Z.out]
          have hi2 := HI2.out.2
          by_cases c2 : i2 < l.length
          · have c2z : (i2 : Int) < ((bs l).size : Int) := by rw [bs_size]; omega
            have hq2 : i2 < (bs l).size := by rw [bs_size]; exact c2
            have hg2 : (bs l)[i2]'hq2 = l[i2]'c2 := bs_get _ _ _
            have hl2 : (i2 : Int) ≤ 1073741824 := by omega
            clear hi2
            by_cases c45 : (l[i2]'c2).toNat = 45
            · have c45z : (((l[i2]'c2).toNat : Int) == 45) = true := by rw [c45]; rfl
              generalize l[i2]'c2 = cc at *
              generalize pairI l (q + 3) = y3 at *
              go_wp2_with fail
              refine (FP3.out _).mono ?_; rintro e w4 ⟨rfl, hb4⟩
              have HX1 := Lib.hid (HX0.out.later hb4)
              clear hb4 HX0
              have HX0 := HX1
              clear HX1
              have HR : Hid (v = none) := by unfold Hid; rw [HVV.out, HN.out]; rfl
              have hk := HX0.out.res
              obtain ⟨s0, s1, s2, s3⟩ := four' hk
              have ef := hk.frozen
              have er := hk.cells
              have eb := HX0.out.box.cells
              clear hk
              go_wp2
              exact bodyPost_ret (v := .tuple #[.agg #[.int .u64 (wd S 0), .int .u64 (wd S 1), .int .u64 (wd S 2), .int .u64 (wd S 3)], .bool false]) (by simp [results, Tryz.results57, go_sem, s0, s1, s2, s3]) rfl (by rw [HR.out]; exact ⟨S, rfl, HX0.out.bel.trans (below4' (Nat.le_refl _) _ _ _ _)⟩)
            · have c45z : (((l[i2]'c2).toNat : Int) == 45) = false := by rw [beq_eq_false_iff_ne]; omega
              generalize l[i2]'c2 = cc at *
              have HR : Hid (v = none) := by unfold Hid; rw [HVV.out, HN.out]; rfl
              have hk := HX0.out.res
              obtain ⟨s0, s1, s2, s3⟩ := four' hk
              have ef := hk.frozen
              have er := hk.cells
              have eb := HX0.out.box.cells
              clear hk
              go_wp2
              exact bodyPost_ret (v := .tuple #[.agg #[.int .u64 (wd S 0), .int .u64 (wd S 1), .int .u64 (wd S 2), .int .u64 (wd S 3)], .bool false]) (by simp [results, Tryz.results57, go_sem, s0, s1, s2, s3]) rfl (by rw [HR.out]; exact ⟨S, rfl, HX0.out.bel.trans (below4' (Nat.le_refl _) _ _ _ _)⟩)
          · have c2z : ¬ (i2 : Int) < ((bs l).size : Int) := by rw [bs_size]; omega
            clear hi2
            have HR : Hid (v = none) := by unfold Hid; rw [HVV.out, HN.out]; rfl
            have hk := HX0.out.res
            obtain ⟨s0, s1, s2, s3⟩ := four' hk
            have ef := hk.frozen
            have er := hk.cells
            have eb := HX0.out.box.cells
            clear hk
            go_wp2
            exact bodyPost_ret (v := .tuple #[.agg #[.int .u64 (wd S 0), .int .u64 (wd S 1), .int .u64 (wd S 2), .int .u64 (wd S 3)], .bool false]) (by simp [results, Tryz.results57, go_sem, s0, s1, s2, s3]) rfl (by rw [HR.out]; exact ⟨S, rfl, HX0.out.bel.trans (below4' (Nat.le_refl _) _ _ _ _)⟩)
        · obtain ⟨x, hx⟩ : ∃ x : Nat, pairI l q = (x : Int) := ⟨(pairI l q).toNat, by omega⟩
          rw [hx] at FP HIT p3
          rw [if_neg (by omega), Int.toNat_natCast] at HIT
          have hx256 : x < 256 := by omega
          clear hx p1 p3
          go_wp2_with fail
          refine (FP.out _).mono ?_; rintro e w3 ⟨rfl, hb3⟩
          have HX0 := Lib.hid (HB.out.later hb3)
          clear hb3 HB FP
          go_upto_region 11 with (fail)
          rw [HI2Z.out]
          have hi2 := HI2.out.2
          have hxn : ¬ ((x : Int) < 0) := by omega
          have hl2 : (i2 : Int) ≤ 1073741824 := by omega
          by_cases c2 : i2 < l.length
          · have c2z : (i2 : Int) < ((bs l).size : Int) := by rw [bs_size]; omega
            have hq2 : i2 < (bs l).size := by rw [bs_size]; exact c2
            have hg2 : (bs l)[i2]'hq2 = l[i2]'c2 := bs_get _ _ _
            have hgd : l.getD (q + 2) 0 = l[i2]'c2 := by rw [← hi2, List.getD_eq_getElem?_getD, List.getElem?_eq_getElem c2]; rfl
            by_cases c45 : l[i2]'c2 = 45
            · have c45z : (((l[i2]'c2).toNat : Int) == 45) = true := by rw [c45]; rfl
              rw [if_pos ⟨by omega, by rw [hgd]; exact c45⟩] at HIT
              clear hgd c45
              generalize l[i2]'c2 = cc at *
              rcases pairI_eq l (q + 3) with ⟨r1, r2, -⟩ | ⟨r1, -, r3, r4⟩
              · have HN : Hid (listV (l.drop 0) = none) := by unfold Hid; rw [HIT.out, if_pos (by omega)]
                rw [r2] at FP3
                have hyn : ((-1 : Int) < (x : Int)) := by omega
                clear HIT r1 r2 hi2
                go_wp2_with fail
                refine (FP3.out _).mono ?_; rintro e w4 ⟨rfl, hb4⟩
                have HX1 := Lib.hid (HX0.out.later hb4)
                clear hb4 HX0
                have HX0 := HX1
                clear HX1
                have HR : Hid (v = none) := by unfold Hid; rw [HVV.out, HN.out]; rfl
                have hk := HX0.out.res
                obtain ⟨s0, s1, s2, s3⟩ := four' hk
                have ef := hk.frozen
                have er := hk.cells
                have eb := HX0.out.box.cells
                clear hk
                go_wp2
                exact bodyPost_ret (v := .tuple #[.agg #[.int .u64 (wd S 0), .int .u64 (wd S 1), .int .u64 (wd S 2), .int .u64 (wd S 3)], .bool false]) (by simp [results, Tryz.results57, go_sem, s0, s1, s2, s3]) rfl (by rw [HR.out]; exact ⟨S, rfl, HX0.out.bel.trans (below4' (Nat.le_refl _) _ _ _ _)⟩)
              · obtain ⟨y, hy⟩ : ∃ y : Nat, pairI l (q + 3) = (y : Int) := ⟨(pairI l (q + 3)).toNat, by omega⟩
                rw [hy] at FP3 HIT r3
                rw [Int.toNat_natCast] at HIT
                have hy256 : y < 256 := by omega
                clear r1 r3 hy hi2
                go_wp2_with fail
                refine (FP3.out _).mono ?_; rintro e w4 ⟨rfl, hb4⟩
                have HX1 := Lib.hid (HX0.out.later hb4)
                clear hb4 HX0 FP3
                have HX0 := HX1
                clear HX1
                go_upto_region 14 with (fail)
                obtain ⟨i3, hi3⟩ : ∃ i3, i3 = q + 5 := ⟨_, rfl⟩
                have hi2 := HI2.out.2
                rw [show (i2 : Int) + 3 = (i3 : Int) by omega]
                rw [← hi3] at HIT
                have HI3 : Hid (q < i3 ∧ i3 ≤ l.length) := ⟨by omega, by omega⟩
                clear hi3 hi2 c2z hq2 hg2 c2 hl2 HI2
                have HI2 := HI3
                clear HI3 r4
                generalize i3 = i2 at *
                by_cases hyx : y < x
                · have HN : Hid (listV (l.drop 0) = none) := by unfold Hid; rw [HIT.out, if_pos (by omega)]
                  have hyn : ((y : Int) < (x : Int)) := by omega
                  clear HIT
                  have HR : Hid (v = none) := by unfold Hid; rw [HVV.out, HN.out]; rfl
                  have hk := HX0.out.res
                  obtain ⟨s0, s1, s2, s3⟩ := four' hk
                  have ef := hk.frozen
                  have er := hk.cells
                  have eb := HX0.out.box.cells
                  clear hk
                  go_wp2
                  exact bodyPost_ret (v := .tuple #[.agg #[.int .u64 (wd S 0), .int .u64 (wd S 1), .int .u64 (wd S 2), .int .u64 (wd S 3)], .bool false]) (by simp [results, Tryz.results57, go_sem, s0, s1, s2, s3]) rfl (by rw [HR.out]; exact ⟨S, rfl, HX0.out.bel.trans (below4' (Nat.le_refl _) _ _ _ _)⟩)
                · rw [if_neg (by omega)] at HIT
                  have FR : Hid (∀ w', Calls Tryz.prog 55 #[.int .u8 (x : Int), .int .u8 (y : Int)] w' (Ans w' (cls (rowB x y)))) := fun w' => refrow_any x y hx256 hy256 w'
                  generalize rowB x y = R at *
                  obtain ⟨S2, hS2⟩ : ∃ S2, S ||| R = S2 := ⟨_, rfl⟩
                  have FJ : Hid (∀ w', Calls Tryz.prog 89 #[cls S, cls R] w' (Ans w' (cls S2))) := fun w' => by rw [← hS2]; exact refjoin_any S R w'
                  rw [hS2] at HIT
                  clear hS2
                  have hx0 : (0 : Int) ≤ (x : Int) := by omega
                  have hx1 : (x : Int) ≤ 255 := by omega
                  have hy0 : (0 : Int) ≤ (y : Int) := by omega
                  have hy1 : (y : Int) ≤ 255 := by omega
                  have hxn : ¬ ((x : Int) < 0) := by omega
                  have hyn : ¬ ((y : Int) < (x : Int)) := by omega
                  go_upto_region 16 with (fail)
                  refine wp_region_stable_last (S := (BtS w S)) (hSt := fun _ _ h hb => h.later hb) (plan := [[(6, none)], [(7, none)], [(52, some 1)], [(8, none)], [(54, some 3)], [(53, some 2), (55, some 4)], [(51, some 0), (56, some 5)]]) rfl (by kernel_rfl) (by kernel_rfl) (by kernel_rfl) (by kernel_rfl) ?hS ?_
                  rotate_left
                  simp only [List.dropLast]
                  iterate 7 first
                    | (refine chain_skip (by rfl) (by rfl) ?_)
                    | (apply chain_want (by rfl)
                       · intro act wx hS hr
                         simp at hr
                         have h2 := hS.box.cells
                         go_simp
                         (try go_ints)
                         first
                           | exact Done.same (v := cls _)
                           | ((with_reducible refine (FR.out _).mono ?_); rintro e w' ⟨rfl, hb⟩; exact Done.mk hb)
                           | ((with_reducible refine (FJ.out _).mono ?_); rintro e w' ⟨rfl, hb⟩; exact Done.mk (v := cls S2) hb)
                           | exact Done.same
                      )
                  show ∀ w', _ → _
                  intro wy hy
                  simp [Act.put]
                  case hS => exact HX0.out
                  have h2 := hy.box.cells
                  have h3 := hy.box.frozen
                  have HX1 := Lib.hid (hy.set S2)
                  clear hy HX0
                  simp only [cls]
                  go_upto_region 17 with (fail)
                  generalize ((((wy.setCell ⟨w.heap.size + 1, 0, none⟩ (.int .u64 (wd S2 0))).setCell ⟨w.heap.size + 1, 1, none⟩ (.int .u64 (wd S2 1))).setCell ⟨w.heap.size + 1, 2, none⟩ (.int .u64 (wd S2 2))).setCell ⟨w.heap.size + 1, 3, none⟩ (.int .u64 (wd S2 3))) = w5 at *
                  clear h2 h3 FR FJ
                  have HX0 := HX1
                  clear HX1
                  by_cases hI : i2 < l.length
                  · have hIz : (i2 : Int) < ((bs l).size : Int) := by rw [bs_size]; omega
                    have hIq : i2 < (bs l).size := by rw [bs_size]; exact hI
                    have hIg : (bs l)[i2]'hIq = l[i2]'hI := bs_get _ _ _
                    have hgd : l.getD i2 0 = l[i2]'hI := by rw [List.getD_eq_getElem?_getD, List.getElem?_eq_getElem hI]; rfl
                    have HC := Lib.hid HIT.out
                    unfold contG at HC
                    rw [if_neg (by omega), hgd] at HC
                    have hl1 : (i2 : Int) + 1 ≤ 1073741824 := by omega
                    clear hgd HIT
                    by_cases h44 : l[i2]'hI = 44
                    · have h44z : (((l[i2]'hI).toNat : Int) != 44) = false := by rw [h44]; rfl
                      by_cases hend : i2 + 1 = l.length
                      · have HN : Hid (listV (l.drop 0) = none) := by unfold Hid; rw [HC.out, if_pos (.inr hend)]
                        have hez : ((i2 : Int) + 1 == ((bs l).size : Int)) = true := by rw [bs_size, beq_iff_eq]; omega
                        clear HC
                        generalize l[i2]'hI = cc at *
                        have HR : Hid (v = none) := by unfold Hid; rw [HVV.out, HN.out]; rfl
                        have hk := HX0.out.res
                        obtain ⟨s0, s1, s2, s3⟩ := four' hk
                        have ef := hk.frozen
                        have er := hk.cells
                        have eb := HX0.out.box.cells
                        clear hk
                        go_wp2
                        exact bodyPost_ret (v := .tuple #[.agg #[.int .u64 (wd S2 0), .int .u64 (wd S2 1), .int .u64 (wd S2 2), .int .u64 (wd S2 3)], .bool false]) (by simp [results, Tryz.results57, go_sem, s0, s1, s2, s3]) rfl (by rw [HR.out]; exact ⟨S2, rfl, HX0.out.bel.trans (below4' (Nat.le_refl _) _ _ _ _)⟩)
                      · have HNX : Hid (listV (l.drop 0) = itemsG f S2 (l.drop (i2 + 1))) := by unfold Hid; rw [HC.out, if_neg (by rintro (h | h); exact h h44; exact hend h)]
                        have hez : ((i2 : Int) + 1 == ((bs l).size : Int)) = false := by rw [bs_size, beq_eq_false_iff_ne]; omega
                        have HLF : Hid (i2 + 1 ≤ l.length ∧ (l.drop (i2 + 1)).length < f) := by
                          unfold Hid; rw [List.length_drop] at hf ⊢; have := HI2.out; omega
                        clear HC
                        generalize l[i2]'hI = cc at *
                        go_wp2
                        go_roundw
                        case rel => exact ⟨i2 + 1, S2, f, HLF.out.1, by go_num, HLF.out.2, HNX.out, HX0.out⟩
                        case measure => have := HI2.out; simp [intOf]; omega
                    · have HN : Hid (listV (l.drop 0) = none) := by unfold Hid; rw [HC.out, if_pos (.inl h44)]
                      have h44z : (((l[i2]'hI).toNat : Int) != 44) = true := by
                        rw [bne_iff_ne]; intro e; exact h44 (UInt8.toNat_inj.1 (by show _ = 44; omega))
                      clear HC
                      generalize l[i2]'hI = cc at *
                      have HR : Hid (v = none) := by unfold Hid; rw [HVV.out, HN.out]; rfl
                      have hk := HX0.out.res
                      obtain ⟨s0, s1, s2, s3⟩ := four' hk
                      have ef := hk.frozen
                      have er := hk.cells
                      have eb := HX0.out.box.cells
                      clear hk
                      go_wp2
                      exact bodyPost_ret (v := .tuple #[.agg #[.int .u64 (wd S2 0), .int .u64 (wd S2 1), .int .u64 (wd S2 2), .int .u64 (wd S2 3)], .bool false]) (by simp [results, Tryz.results57, go_sem, s0, s1, s2, s3]) rfl (by rw [HR.out]; exact ⟨S2, rfl, HX0.out.bel.trans (below4' (Nat.le_refl _) _ _ _ _)⟩)
                  · have hIz : ¬ (i2 : Int) < ((bs l).size : Int) := by rw [bs_size]; omega
                    have hIe : i2 = l.length := by have := HI2.out; omega
                    have HNX : Hid (listV (l.drop 0) = itemsG 1 S2 (l.drop i2)) := by
                      unfold Hid
                      rw [HIT.out]; unfold contG
                      rw [if_pos (by omega), List.drop_of_length_le (by omega)]; rfl
                    have HLF : Hid (i2 ≤ l.length ∧ (l.drop i2).length < 1) := by
                      unfold Hid; rw [List.length_drop]; omega
                    clear HIT hIe
                    go_wp2
                    go_roundw
                    case rel => exact ⟨i2, S2, 1, HLF.out.1, by go_num, HLF.out.2, HNX.out, HX0.out⟩
                    case measure => have := HI2.out; simp [intOf]; omega
            · have c45z : (((l[i2]'c2).toNat : Int) == 45) = false := by
                rw [beq_eq_false_iff_ne]; intro e; exact c45 (UInt8.toNat_inj.1 (by show _ = 45; omega))
              rw [if_neg (by rintro ⟨_, h⟩; exact c45 (by rw [← hgd]; exact h)), ← hi2] at HIT
              clear hgd c45 hi2
              generalize l[i2]'c2 = cc at *
              go_upto_region 14 with (fail)
              obtain ⟨y, hy⟩ : ∃ y, y = x := ⟨_, rfl⟩
              subst hy
              have hy256 := hx256
              clear c2z hq2 hg2 c2 FP3 c45z
              have FR : Hid (∀ w', Calls Tryz.prog 55 #[.int .u8 (y : Int), .int .u8 (y : Int)] w' (Ans w' (cls (rowB y y)))) := fun w' => refrow_any y y hx256 hy256 w'
              generalize rowB y y = R at *
              obtain ⟨S2, hS2⟩ : ∃ S2, S ||| R = S2 := ⟨_, rfl⟩
              have FJ : Hid (∀ w', Calls Tryz.prog 89 #[cls S, cls R] w' (Ans w' (cls S2))) := fun w' => by rw [← hS2]; exact refjoin_any S R w'
              rw [hS2] at HIT
              clear hS2
              have hx0 : (0 : Int) ≤ (y : Int) := by omega
              have hx1 : (y : Int) ≤ 255 := by omega
              have hy0 : (0 : Int) ≤ (y : Int) := by omega
              have hy1 : (y : Int) ≤ 255 := by omega
              have hxn : ¬ ((y : Int) < 0) := by omega
              have hyn : ¬ ((y : Int) < (y : Int)) := by omega
              go_upto_region 16 with (fail)
              refine wp_region_stable_last (S := (BtS w S)) (hSt := fun _ _ h hb => h.later hb) (plan := [[(6, none)], [(7, none)], [(52, some 1)], [(8, none)], [(54, some 3)], [(53, some 2), (55, some 4)], [(51, some 0), (56, some 5)]]) rfl (by kernel_rfl) (by kernel_rfl) (by kernel_rfl) (by kernel_rfl) ?hS ?_
              rotate_left
              simp only [List.dropLast]
              iterate 7 first
                | (refine chain_skip (by rfl) (by rfl) ?_)
                | (apply chain_want (by rfl)
                   · intro act wx hS hr
                     simp at hr
                     have h2 := hS.box.cells
                     go_simp
                     (try go_ints)
                     first
                       | exact Done.same (v := cls _)
                       | ((with_reducible refine (FR.out _).mono ?_); rintro e w' ⟨rfl, hb⟩; exact Done.mk hb)
                       | ((with_reducible refine (FJ.out _).mono ?_); rintro e w' ⟨rfl, hb⟩; exact Done.mk (v := cls S2) hb)
                       | exact Done.same
                  )
              show ∀ w', _ → _
              intro wy hy
              simp [Act.put]
              case hS => exact HX0.out
              have h2 := hy.box.cells
              have h3 := hy.box.frozen
              have HX1 := Lib.hid (hy.set S2)
              clear hy HX0
              simp only [cls]
              go_upto_region 17 with (fail)
              generalize ((((wy.setCell ⟨w.heap.size + 1, 0, none⟩ (.int .u64 (wd S2 0))).setCell ⟨w.heap.size + 1, 1, none⟩ (.int .u64 (wd S2 1))).setCell ⟨w.heap.size + 1, 2, none⟩ (.int .u64 (wd S2 2))).setCell ⟨w.heap.size + 1, 3, none⟩ (.int .u64 (wd S2 3))) = w5 at *
              clear h2 h3 FR FJ
              have HX0 := HX1
              clear HX1
              by_cases hI : i2 < l.length
              · have hIz : (i2 : Int) < ((bs l).size : Int) := by rw [bs_size]; omega
                have hIq : i2 < (bs l).size := by rw [bs_size]; exact hI
                have hIg : (bs l)[i2]'hIq = l[i2]'hI := bs_get _ _ _
                have hgd : l.getD i2 0 = l[i2]'hI := by rw [List.getD_eq_getElem?_getD, List.getElem?_eq_getElem hI]; rfl
                have HC := Lib.hid HIT.out
                unfold contG at HC
                rw [if_neg (by omega), hgd] at HC
                have hl1 : (i2 : Int) + 1 ≤ 1073741824 := by omega
                clear hgd HIT
                by_cases h44 : l[i2]'hI = 44
                · have h44z : (((l[i2]'hI).toNat : Int) != 44) = false := by rw [h44]; rfl
                  by_cases hend : i2 + 1 = l.length
                  · have HN : Hid (listV (l.drop 0) = none) := by unfold Hid; rw [HC.out, if_pos (.inr hend)]
                    have hez : ((i2 : Int) + 1 == ((bs l).size : Int)) = true := by rw [bs_size, beq_iff_eq]; omega
                    clear HC
                    generalize l[i2]'hI = cc at *
                    have HR : Hid (v = none) := by unfold Hid; rw [HVV.out, HN.out]; rfl
                    have hk := HX0.out.res
                    obtain ⟨s0, s1, s2, s3⟩ := four' hk
                    have ef := hk.frozen
                    have er := hk.cells
                    have eb := HX0.out.box.cells
                    clear hk
                    go_wp2
                    exact bodyPost_ret (v := .tuple #[.agg #[.int .u64 (wd S2 0), .int .u64 (wd S2 1), .int .u64 (wd S2 2), .int .u64 (wd S2 3)], .bool false]) (by simp [results, Tryz.results57, go_sem, s0, s1, s2, s3]) rfl (by rw [HR.out]; exact ⟨S2, rfl, HX0.out.bel.trans (below4' (Nat.le_refl _) _ _ _ _)⟩)
                  · have HNX : Hid (listV (l.drop 0) = itemsG f S2 (l.drop (i2 + 1))) := by unfold Hid; rw [HC.out, if_neg (by rintro (h | h); exact h h44; exact hend h)]
                    have hez : ((i2 : Int) + 1 == ((bs l).size : Int)) = false := by rw [bs_size, beq_eq_false_iff_ne]; omega
                    have HLF : Hid (i2 + 1 ≤ l.length ∧ (l.drop (i2 + 1)).length < f) := by
                      unfold Hid; rw [List.length_drop] at hf ⊢; have := HI2.out; omega
                    clear HC
                    generalize l[i2]'hI = cc at *
                    go_wp2
                    go_roundw
                    case rel => exact ⟨i2 + 1, S2, f, HLF.out.1, by go_num, HLF.out.2, HNX.out, HX0.out⟩
                    case measure => have := HI2.out; simp [intOf]; omega
                · have HN : Hid (listV (l.drop 0) = none) := by unfold Hid; rw [HC.out, if_pos (.inl h44)]
                  have h44z : (((l[i2]'hI).toNat : Int) != 44) = true := by
                    rw [bne_iff_ne]; intro e; exact h44 (UInt8.toNat_inj.1 (by show _ = 44; omega))
                  clear HC
                  generalize l[i2]'hI = cc at *
                  have HR : Hid (v = none) := by unfold Hid; rw [HVV.out, HN.out]; rfl
                  have hk := HX0.out.res
                  obtain ⟨s0, s1, s2, s3⟩ := four' hk
                  have ef := hk.frozen
                  have er := hk.cells
                  have eb := HX0.out.box.cells
                  clear hk
                  go_wp2
                  exact bodyPost_ret (v := .tuple #[.agg #[.int .u64 (wd S2 0), .int .u64 (wd S2 1), .int .u64 (wd S2 2), .int .u64 (wd S2 3)], .bool false]) (by simp [results, Tryz.results57, go_sem, s0, s1, s2, s3]) rfl (by rw [HR.out]; exact ⟨S2, rfl, HX0.out.bel.trans (below4' (Nat.le_refl _) _ _ _ _)⟩)
              · have hIz : ¬ (i2 : Int) < ((bs l).size : Int) := by rw [bs_size]; omega
                have hIe : i2 = l.length := by have := HI2.out; omega
                have HNX : Hid (listV (l.drop 0) = itemsG 1 S2 (l.drop i2)) := by
                  unfold Hid
                  rw [HIT.out]; unfold contG
                  rw [if_pos (by omega), List.drop_of_length_le (by omega)]; rfl
                have HLF : Hid (i2 ≤ l.length ∧ (l.drop i2).length < 1) := by
                  unfold Hid; rw [List.length_drop]; omega
                clear HIT hIe
                go_wp2
                go_roundw
                case rel => exact ⟨i2, S2, 1, HLF.out.1, by go_num, HLF.out.2, HNX.out, HX0.out⟩
                case measure => have := HI2.out; simp [intOf]; omega
          · have c2z : ¬ (i2 : Int) < ((bs l).size : Int) := by rw [bs_size]; omega
            rw [if_neg (by rintro ⟨h, _⟩; omega), ← hi2] at HIT
            clear hi2
            go_upto_region 14 with (fail)
            obtain ⟨y, hy⟩ : ∃ y, y = x := ⟨_, rfl⟩
            subst hy
            have hy256 := hx256
            clear c2z c2 FP3
            have FR : Hid (∀ w', Calls Tryz.prog 55 #[.int .u8 (y : Int), .int .u8 (y : Int)] w' (Ans w' (cls (rowB y y)))) := fun w' => refrow_any y y hx256 hy256 w'
            generalize rowB y y = R at *
            obtain ⟨S2, hS2⟩ : ∃ S2, S ||| R = S2 := ⟨_, rfl⟩
            have FJ : Hid (∀ w', Calls Tryz.prog 89 #[cls S, cls R] w' (Ans w' (cls S2))) := fun w' => by rw [← hS2]; exact refjoin_any S R w'
            rw [hS2] at HIT
            clear hS2
            have hx0 : (0 : Int) ≤ (y : Int) := by omega
            have hx1 : (y : Int) ≤ 255 := by omega
            have hy0 : (0 : Int) ≤ (y : Int) := by omega
            have hy1 : (y : Int) ≤ 255 := by omega
            have hxn : ¬ ((y : Int) < 0) := by omega
            have hyn : ¬ ((y : Int) < (y : Int)) := by omega
            go_upto_region 16 with (fail)
            refine wp_region_stable_last (S := (BtS w S)) (hSt := fun _ _ h hb => h.later hb) (plan := [[(6, none)], [(7, none)], [(52, some 1)], [(8, none)], [(54, some 3)], [(53, some 2), (55, some 4)], [(51, some 0), (56, some 5)]]) rfl (by kernel_rfl) (by kernel_rfl) (by kernel_rfl) (by kernel_rfl) ?hS ?_
            rotate_left
            simp only [List.dropLast]
            iterate 7 first
              | (refine chain_skip (by rfl) (by rfl) ?_)
              | (apply chain_want (by rfl)
                 · intro act wx hS hr
                   simp at hr
                   have h2 := hS.box.cells
                   go_simp
                   (try go_ints)
                   first
                     | exact Done.same (v := cls _)
                     | ((with_reducible refine (FR.out _).mono ?_); rintro e w' ⟨rfl, hb⟩; exact Done.mk hb)
                     | ((with_reducible refine (FJ.out _).mono ?_); rintro e w' ⟨rfl, hb⟩; exact Done.mk (v := cls S2) hb)
                     | exact Done.same
                )
            show ∀ w', _ → _
            intro wy hy
            simp [Act.put]
            case hS => exact HX0.out
            have h2 := hy.box.cells
            have h3 := hy.box.frozen
            have HX1 := Lib.hid (hy.set S2)
            clear hy HX0
            simp only [cls]
            go_upto_region 17 with (fail)
            generalize ((((wy.setCell ⟨w.heap.size + 1, 0, none⟩ (.int .u64 (wd S2 0))).setCell ⟨w.heap.size + 1, 1, none⟩ (.int .u64 (wd S2 1))).setCell ⟨w.heap.size + 1, 2, none⟩ (.int .u64 (wd S2 2))).setCell ⟨w.heap.size + 1, 3, none⟩ (.int .u64 (wd S2 3))) = w5 at *
            clear h2 h3 FR FJ
            have HX0 := HX1
            clear HX1
            by_cases hI : i2 < l.length
            · have hIz : (i2 : Int) < ((bs l).size : Int) := by rw [bs_size]; omega
              have hIq : i2 < (bs l).size := by rw [bs_size]; exact hI
              have hIg : (bs l)[i2]'hIq = l[i2]'hI := bs_get _ _ _
              have hgd : l.getD i2 0 = l[i2]'hI := by rw [List.getD_eq_getElem?_getD, List.getElem?_eq_getElem hI]; rfl
              have HC := Lib.hid HIT.out
              unfold contG at HC
              rw [if_neg (by omega), hgd] at HC
              have hl1 : (i2 : Int) + 1 ≤ 1073741824 := by omega
              clear hgd HIT
              by_cases h44 : l[i2]'hI = 44
              · have h44z : (((l[i2]'hI).toNat : Int) != 44) = false := by rw [h44]; rfl
                by_cases hend : i2 + 1 = l.length
                · have HN : Hid (listV (l.drop 0) = none) := by unfold Hid; rw [HC.out, if_pos (.inr hend)]
                  have hez : ((i2 : Int) + 1 == ((bs l).size : Int)) = true := by rw [bs_size, beq_iff_eq]; omega
                  clear HC
                  generalize l[i2]'hI = cc at *
                  have HR : Hid (v = none) := by unfold Hid; rw [HVV.out, HN.out]; rfl
                  have hk := HX0.out.res
                  obtain ⟨s0, s1, s2, s3⟩ := four' hk
                  have ef := hk.frozen
                  have er := hk.cells
                  have eb := HX0.out.box.cells
                  clear hk
                  go_wp2
                  exact bodyPost_ret (v := .tuple #[.agg #[.int .u64 (wd S2 0), .int .u64 (wd S2 1), .int .u64 (wd S2 2), .int .u64 (wd S2 3)], .bool false]) (by simp [results, Tryz.results57, go_sem, s0, s1, s2, s3]) rfl (by rw [HR.out]; exact ⟨S2, rfl, HX0.out.bel.trans (below4' (Nat.le_refl _) _ _ _ _)⟩)
                · have HNX : Hid (listV (l.drop 0) = itemsG f S2 (l.drop (i2 + 1))) := by unfold Hid; rw [HC.out, if_neg (by rintro (h | h); exact h h44; exact hend h)]
                  have hez : ((i2 : Int) + 1 == ((bs l).size : Int)) = false := by rw [bs_size, beq_eq_false_iff_ne]; omega
                  have HLF : Hid (i2 + 1 ≤ l.length ∧ (l.drop (i2 + 1)).length < f) := by
                    unfold Hid; rw [List.length_drop] at hf ⊢; have := HI2.out; omega
                  clear HC
                  generalize l[i2]'hI = cc at *
                  go_wp2
                  go_roundw
                  case rel => exact ⟨i2 + 1, S2, f, HLF.out.1, by go_num, HLF.out.2, HNX.out, HX0.out⟩
                  case measure => have := HI2.out; simp [intOf]; omega
              · have HN : Hid (listV (l.drop 0) = none) := by unfold Hid; rw [HC.out, if_pos (.inl h44)]
                have h44z : (((l[i2]'hI).toNat : Int) != 44) = true := by
                  rw [bne_iff_ne]; intro e; exact h44 (UInt8.toNat_inj.1 (by show _ = 44; omega))
                clear HC
                generalize l[i2]'hI = cc at *
                have HR : Hid (v = none) := by unfold Hid; rw [HVV.out, HN.out]; rfl
                have hk := HX0.out.res
                obtain ⟨s0, s1, s2, s3⟩ := four' hk
                have ef := hk.frozen
                have er := hk.cells
                have eb := HX0.out.box.cells
                clear hk
                go_wp2
                exact bodyPost_ret (v := .tuple #[.agg #[.int .u64 (wd S2 0), .int .u64 (wd S2 1), .int .u64 (wd S2 2), .int .u64 (wd S2 3)], .bool false]) (by simp [results, Tryz.results57, go_sem, s0, s1, s2, s3]) rfl (by rw [HR.out]; exact ⟨S2, rfl, HX0.out.bel.trans (below4' (Nat.le_refl _) _ _ _ _)⟩)
            · have hIz : ¬ (i2 : Int) < ((bs l).size : Int) := by rw [bs_size]; omega
              have hIe : i2 = l.length := by have := HI2.out; omega
              have HNX : Hid (listV (l.drop 0) = itemsG 1 S2 (l.drop i2)) := by
                unfold Hid
                rw [HIT.out]; unfold contG
                rw [if_pos (by omega), List.drop_of_length_le (by omega)]; rfl
              have HLF : Hid (i2 ≤ l.length ∧ (l.drop i2).length < 1) := by
                unfold Hid; rw [List.length_drop]; omega
              clear HIT hIe
              go_wp2
              go_roundw
              case rel => exact ⟨i2, S2, 1, HLF.out.1, by go_num, HLF.out.2, HNX.out, HX0.out⟩
              case measure => have := HI2.out; simp [intOf]; omega
      · have hqe : l.drop q = [] := List.drop_of_length_le (by omega)
        obtain ⟨f, rfl⟩ : ∃ g, f = g + 1 := ⟨f - 1, by omega⟩
        have HSM : Hid (listV (l.drop 0) = some S) := by unfold Hid; rw [HVL.out, hqe]; unfold itemsG; rw [if_pos rfl]
        have hqz : ¬ (q : Int) < ((bs l).size : Int) := by rw [bs_size]; omega
        have HX0 := HB
        clear HVL HB hqe
        have HR : Hid (v = some S) := by unfold Hid; rw [HVV.out, HSM.out]; rfl
        have hk := HX0.out.res
        obtain ⟨s0, s1, s2, s3⟩ := four' hk
        have ef := hk.frozen
        have er := hk.cells
        have eb := HX0.out.box.cells
        clear hk
        go_wp2
        exact bodyPost_ret (v := .tuple #[.agg #[.int .u64 (wd S 0), .int .u64 (wd S 1), .int .u64 (wd S 2), .int .u64 (wd S 3)], .bool true]) (by simp [results, Tryz.results57, go_sem, s0, s1, s2, s3]) rfl (by rw [HR.out]; exact ⟨rfl, HX0.out.bel.trans (below4' (Nat.le_refl _) _ _ _ _)⟩)
end Go.Proofs.YtcgjmnhmhiddkaaGreatDoor
