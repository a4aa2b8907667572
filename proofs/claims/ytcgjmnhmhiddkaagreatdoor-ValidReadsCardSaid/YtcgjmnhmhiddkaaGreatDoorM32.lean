/- The document's one token, not a repeat: walked. -/
import Derived.Test.YtcgjmnhmhiddkaaGreatDoorM31
namespace Go.Proofs.YtcgjmnhmhiddkaaGreatDoor
open Go Go.RowKit
set_option linter.unusedVariables false
set_option linter.unusedSimpArgs false
set_option maxHeartbeats 64000000 in
set_option maxRecDepth 1000000 in
theorem rone_most (l : List UInt8) (i : Nat) (hl : l.length ≤ 1073741800) (hi : i < l.length) (hcc : l[i]'hi ≠ 123) (w : World) : Calls Tryz.prog 37 #[.string (bs l), .int .i64 (i : Int)] w (Ans w (roneV l i)) := by
  have HCC := Lib.hid hcc
  clear hcc
  have hiq : i < (bs l).size := by rw [bs_size]; exact hi
  have hiz : (i : Int) < ((bs l).size : Int) := by omega
  have hget : (bs l)[i]'hiq = l[i]'hi := bs_get _ _ _
  have hil : (i : Int) ≤ 1073741800 := by omega
  have HRV : Hid (roneV l i = roneO (oneV (l[i]'hi) (l.drop (i + 1))) i) := by unfold Hid roneV; rw [List.getD_eq_getElem?_getD, List.getElem?_eq_getElem hi]; rfl
  generalize roneV l i = v at *
  have HX := Lib.hid (RoS.new w #[.int .i64 0, .int .i64 (i : Int), .int .u64 0, .int .u64 0, .int .u64 0, .int .u64 0, .string ⟨#[]⟩, .int .i64 0, .int .i64 0])
  have FS : Hid (∀ w', Calls Tryz.prog 54 #[.int .u8 ((l[i]'hi).toNat : Int)] w' (Ans w' (.int .i64 (shortI (l[i]'hi) : Int)))) := fun w' => rshort_any _ w'
  have hc255 : ((l[i]'hi).toNat : Int) ≤ 255 := by have := UInt8.toNat_lt (l[i]'hi); omega
  generalize l[i]'hi = c at *
  go_enter Tryz.func37, Tryz.ntmps37
  go_upto_region 2 with (fail)
  generalize (w.alloc (.cells #[.int .i64 0, .int .i64 0, .int .u64 0, .int .u64 0, .int .u64 0, .int .u64 0, .string ⟨#[]⟩, .int .i64 0, .int .i64 0] 76)).alloc (.cells #[.int .i64 0, .int .i64 (i : Int), .int .u64 0, .int .u64 0, .int .u64 0, .int .u64 0, .string ⟨#[]⟩, .int .i64 0, .int .i64 0] 76) = w1 at *
  by_cases hsh : 0 < shortI c
  · have HR : Hid (v = .tuple #[.agg #[.int .i64 (shortI c : Int), .int .i64 (i : Int), .int .u64 0, .int .u64 0, .int .u64 0, .int .u64 0, .string ⟨#[]⟩, .int .i64 0, .int .i64 0], .int .i64 ((i : Int) + 1), .int .i64 0]) := by
      unfold Hid; rw [HRV.out, (one_short hsh _).1]
      show Value.tuple #[.agg (tokC { kind := shortI c, at_ := i }), _, _] = _
      rw [tokC_plain]; rfl
    generalize shortI c = K at *
    have hshz : ((K : Int) > 0) := by omega
    go_wp2_with fail
    refine (FS.out _).mono ?_; rintro e w2 ⟨rfl, hb2⟩
    have HX2 := Lib.hid (HX.out.later hb2)
    clear hb2 HX
    go_wp2_with fail
    refine (FS.out _).mono ?_; rintro e w3 ⟨rfl, hb3⟩
    have HX3 := Lib.hid (HX2.out.later hb3)
    clear hb3 HX2
    obtain ⟨d0, d1, d2, d3, d4, d5, d6, d7, d8⟩ := nine_cells HX3.out.box
    have df := HX3.out.box.frozen
    go_upto_region 4 with (fail)
    have HX := Lib.hid (HX3.out.set 0 (.int .i64 (K : Int)))
    generalize w3.setCell ⟨w.heap.size + 1, 0, none⟩ (.int .i64 (K : Int)) = w4 at *
    clear d0 d1 d2 d3 d4 d5 d6 d7 d8 df HX3
    have HX : Hid (RoS w #[.int .i64 (K : Int), .int .i64 (i : Int), .int .u64 0, .int .u64 0, .int .u64 0, .int .u64 0, .string ⟨#[]⟩, .int .i64 0, .int .i64 0] w4) := HX.out
    have hk := HX.out.res
    have ef := hk.frozen
    obtain ⟨e0, e1, e2, e3, e4, e5, e6, e7, e8⟩ := nine_cells hk
    obtain ⟨s0, s1, s2, s3, s4, s5, s6, s7, s8⟩ := nine hk
    have HLT := Lib.hid hk.lt
    clear hk
    have S0 := Lib.hid s0
    have S1 := Lib.hid s1
    have S2 := Lib.hid s2
    have S3 := Lib.hid s3
    have S4 := Lib.hid s4
    have S5 := Lib.hid s5
    have S6 := Lib.hid s6
    have S7 := Lib.hid s7
    have S8 := Lib.hid s8
    clear s0 s1 s2 s3 s4 s5 s6 s7 s8
    obtain ⟨d0, d1, d2, d3, d4, d5, d6, d7, d8⟩ := nine_cells HX.out.box
    go_wp2
    exact bodyPost_ret (v := .tuple #[.agg #[.int .i64 (K : Int), .int .i64 (i : Int), .int .u64 0, .int .u64 0, .int .u64 0, .int .u64 0, .string ⟨#[]⟩, .int .i64 0, .int .i64 0], .int .i64 ((i : Int) + 1), .int .i64 0]) (by simp [results, Tryz.results37, go_sem, S0.out, S1.out, S2.out, S3.out, S4.out, S5.out, S6.out, S7.out, S8.out]) rfl ⟨by rw [HR.out] <;> rfl, HX.out.bel.trans (below9 (Below.refl _ _) (Nat.le_refl _) _ _ _ _ _ _ _ _ _)⟩
  · have hs0 : shortI c = 0 := by omega
    have HS0 := Lib.hid hs0
    rw [hs0] at FS
    clear hsh hs0
    go_wp2_with fail
    refine (FS.out _).mono ?_; rintro e w2 ⟨rfl, hb2⟩
    have HX2 := Lib.hid (HX.out.later hb2)
    clear hb2 HX FS
    have HX := HX2
    clear HX2
    by_cases c46 : c = 46
    · have h46 : ((c.toNat : Int) == 46) = true := by rw [c46]; rfl
      have FR : Hid (∀ w', Calls Tryz.prog 55 #[.int .u8 0, .int .u8 255] w' (Ans w' (cls (rowB 0 255)))) := fun w' => refrow_any 0 255 (by omega) (by omega) w'
      have HR : Hid (v = .tuple #[.agg #[.int .i64 1, .int .i64 (i : Int), .int .u64 (wd (rowB 0 255) 0), .int .u64 (wd (rowB 0 255) 1), .int .u64 (wd (rowB 0 255) 2), .int .u64 (wd (rowB 0 255) 3), .string ⟨#[]⟩, .int .i64 0, .int .i64 0], .int .i64 ((i : Int) + 1), .int .i64 0]) := by
        unfold Hid; rw [HRV.out, one46 c46]; rfl
      generalize rowB 0 255 = R at *
      clear c46
      obtain ⟨d0, d1, d2, d3, d4, d5, d6, d7, d8⟩ := nine_cells HX.out.box
      have df := HX.out.box.frozen
      go_upto_region 8 with (fail)
      have HX3 := Lib.hid (HX.out.set 0 (.int .i64 1))
      generalize w2.setCell ⟨w.heap.size + 1, 0, none⟩ (.int .i64 1) = w3 at *
      clear d0 d1 d2 d3 d4 d5 d6 d7 d8 df
      clear HX
      have HX : Hid (RoS w #[.int .i64 1, .int .i64 (i : Int), .int .u64 0, .int .u64 0, .int .u64 0, .int .u64 0, .string ⟨#[]⟩, .int .i64 0, .int .i64 0] w3) := HX3.out
      unfold cls at FR
      go_wp2_with fail
      refine (FR.out _).mono ?_; rintro e w4 ⟨rfl, hb4⟩
      have HX4 := Lib.hid (HX.out.later hb4)
      clear hb4 HX HX3
      have HX := HX4
      obtain ⟨d0, d1, d2, d3, d4, d5, d6, d7, d8⟩ := nine_cells HX.out.box
      have df := HX.out.box.frozen
      go_upto_region 9 with (fail)
      have HX5 := Lib.hid ((((HX.out.set 2 (.int .u64 (wd R 0))).set 3 (.int .u64 (wd R 1))).set 4 (.int .u64 (wd R 2))).set 5 (.int .u64 (wd R 3)))
      generalize (((w4.setCell ⟨w.heap.size + 1, 2, none⟩ (.int .u64 (wd R 0))).setCell ⟨w.heap.size + 1, 3, none⟩ (.int .u64 (wd R 1))).setCell ⟨w.heap.size + 1, 4, none⟩ (.int .u64 (wd R 2))).setCell ⟨w.heap.size + 1, 5, none⟩ (.int .u64 (wd R 3)) = w5 at *
      clear d0 d1 d2 d3 d4 d5 d6 d7 d8 df
      clear HX HX4
      have HX : Hid (RoS w #[.int .i64 1, .int .i64 (i : Int), .int .u64 (wd R 0), .int .u64 (wd R 1), .int .u64 (wd R 2), .int .u64 (wd R 3), .string ⟨#[]⟩, .int .i64 0, .int .i64 0] w5) := HX5.out
      have hk := HX.out.res
      have ef := hk.frozen
      obtain ⟨e0, e1, e2, e3, e4, e5, e6, e7, e8⟩ := nine_cells hk
      obtain ⟨s0, s1, s2, s3, s4, s5, s6, s7, s8⟩ := nine hk
      have HLT := Lib.hid hk.lt
      clear hk
      have S0 := Lib.hid s0
      have S1 := Lib.hid s1
      have S2 := Lib.hid s2
      have S3 := Lib.hid s3
      have S4 := Lib.hid s4
      have S5 := Lib.hid s5
      have S6 := Lib.hid s6
      have S7 := Lib.hid s7
      have S8 := Lib.hid s8
      clear s0 s1 s2 s3 s4 s5 s6 s7 s8
      obtain ⟨d0, d1, d2, d3, d4, d5, d6, d7, d8⟩ := nine_cells HX.out.box
      go_wp2
      exact bodyPost_ret (v := .tuple #[.agg #[.int .i64 1, .int .i64 (i : Int), .int .u64 (wd R 0), .int .u64 (wd R 1), .int .u64 (wd R 2), .int .u64 (wd R 3), .string ⟨#[]⟩, .int .i64 0, .int .i64 0], .int .i64 ((i : Int) + 1), .int .i64 0]) (by simp [results, Tryz.results37, go_sem, S0.out, S1.out, S2.out, S3.out, S4.out, S5.out, S6.out, S7.out, S8.out]) rfl ⟨by rw [HR.out] <;> rfl, HX.out.bel.trans (below9 (Below.refl _ _) (Nat.le_refl _) _ _ _ _ _ _ _ _ _)⟩
    · have h46 : ((c.toNat : Int) == 46) = false := by
        rw [beq_eq_false_iff_ne]; intro e; exact c46 (UInt8.toNat_inj.1 (by show _ = 46; omega))
      by_cases c60 : c = 60
      · have h60 : ((c.toNat : Int) == 60) = true := by rw [c60]; rfl
        have HRC := Lib.hid (one60 c60 (l.drop (i + 1)))
        clear c60 c46
        cases hc : cutAt 62 (l.drop (i + 1)) with
        | none =>
          have hE := end_none hc
          have FE : Hid (∀ w', Calls Tryz.prog 56 #[.string (bs l), .int .i64 (i : Int), .int .u8 62] w' (Pure w' (.int .i64 (-1)))) := fun w' => by have := rend_any l i 62 (by omega) (by omega) w'; rw [hE] at this; exact this
          have HC := Lib.hid hc
          clear hc hE
          go_wp2_with fail
          refine (FE.out _).mono ?_; rintro e w' ⟨rfl, rfl⟩
          have HR : Hid (v = badO i 2) := by unfold Hid; rw [HRV.out, HRC.out]; unfold closed; rw [HC.out]; rfl
          unfold badO at HR
          have hk := HX.out.res
          have ef := hk.frozen
          obtain ⟨e0, e1, e2, e3, e4, e5, e6, e7, e8⟩ := nine_cells hk
          obtain ⟨s0, s1, s2, s3, s4, s5, s6, s7, s8⟩ := nine hk
          have HLT := Lib.hid hk.lt
          clear hk
          have S0 := Lib.hid s0
          have S1 := Lib.hid s1
          have S2 := Lib.hid s2
          have S3 := Lib.hid s3
          have S4 := Lib.hid s4
          have S5 := Lib.hid s5
          have S6 := Lib.hid s6
          have S7 := Lib.hid s7
          have S8 := Lib.hid s8
          clear s0 s1 s2 s3 s4 s5 s6 s7 s8
          obtain ⟨d0, d1, d2, d3, d4, d5, d6, d7, d8⟩ := nine_cells HX.out.box
          go_wp2
          exact bodyPost_ret (v := .tuple #[.agg #[.int .i64 0, .int .i64 (i : Int), .int .u64 0, .int .u64 0, .int .u64 0, .int .u64 0, .string ⟨#[]⟩, .int .i64 0, .int .i64 0], .int .i64 0, .int .i64 (2 : Int)]) (by simp [results, Tryz.results37, go_sem, S0.out, S1.out, S2.out, S3.out, S4.out, S5.out, S6.out, S7.out, S8.out]) rfl ⟨by rw [HR.out] <;> rfl, HX.out.bel.trans (below9 (Below.refl _ _) (Nat.le_refl _) _ _ _ _ _ _ _ _ _)⟩
        | some p =>
          obtain ⟨a, b⟩ := p
          obtain ⟨hE, hkl, hta, hda⟩ := end_some hc
          have FE : Hid (∀ w', Calls Tryz.prog 56 #[.string (bs l), .int .i64 (i : Int), .int .u8 62] w' (Pure w' (.int .i64 ((i + 1 + a.length : Nat) : Int)))) := fun w' => by have := rend_any l i 62 (by omega) (by omega) w'; rw [hE] at this; exact this
          have hex : (bs l).extract (i + 1) (i + 1 + a.length) = bs a := by rw [bs_extract, show i + 1 + a.length - (i + 1) = a.length by omega, hta]
          have hex0 : (bs l).extract 0 (i + 1 + a.length) = bs (l.take (i + 1 + a.length)) := by rw [bs_extract]; simp
          have HC := Lib.hid hc
          have HTA := Lib.hid hta
          have HDA := Lib.hid hda
          obtain ⟨k, hk⟩ : ∃ k, k = i + 1 + a.length := ⟨_, rfl⟩
          rw [← hk] at FE hex hex0 HDA hkl
          have HK := Lib.hid hk
          have hik : (i : Int) + 1 ≤ (k : Int) := by omega
          have hkn : ¬ ((k : Int) < 0) := by omega
          have hks : (k : Int) ≤ ((bs l).size : Int) := by rw [bs_size]; omega
          have hkm : (k : Int) ≤ 1073741800 := by omega
          have hal : a.length ≤ 1073741800 := by omega
          clear hc hE hta hda hk
          have FB : Hid (∀ w', Calls Tryz.prog 57 #[.string (bs a)] w' (BtP w' (classV a))) := fun w' => rbytes_any a (by omega) w'
          cases hv : classV a with
          | none =>
            rw [hv] at FB
            have HCV := Lib.hid hv
            clear hv
            go_wp2_with fail
            refine (FE.out _).mono ?_; rintro e w' ⟨rfl, rfl⟩
            go_wp2_with fail
            refine (FB.out _).mono ?_; intro e w5 hp; obtain ⟨s, rfl, hb5⟩ := hp
            have HX5 := Lib.hid (HX.out.later hb5)
            have hb6 := (Below.refl w5.heap.size w5).alloc (Nat.le_refl _) (.cells #[.int .u64 (wd s 0), .int .u64 (wd s 1), .int .u64 (wd s 2), .int .u64 (wd s 3)] 42)
            have HX6 := Lib.hid (HX5.out.later hb6)
            have HA6 := Lib.hid (Blk.new w5 #[.int .u64 (wd s 0), .int .u64 (wd s 1), .int .u64 (wd s 2), .int .u64 (wd s 3)] 42)
            have HBA : Hid (w.heap.size + 1 < w5.heap.size) := HX5.out.box.lt
            clear hb5 hb6 HX HX5
            unfold cls
            go_upto_region 15 with (fail)
            generalize w5.alloc (.cells #[.int .u64 (wd s 0), .int .u64 (wd s 1), .int .u64 (wd s 2), .int .u64 (wd s 3)] 42) = w6 at *
            generalize w5.heap.size = ba at *
            have HX := HX6
            clear HX6
            have HR : Hid (v = badO i 2) := by unfold Hid; rw [HRV.out, HRC.out]; unfold closed; rw [HC.out]; simp only; rw [HCV.out]; rfl
            unfold badO at HR
            have hk := HX.out.res
            have ef := hk.frozen
            obtain ⟨e0, e1, e2, e3, e4, e5, e6, e7, e8⟩ := nine_cells hk
            obtain ⟨s0, s1, s2, s3, s4, s5, s6, s7, s8⟩ := nine hk
            have HLT := Lib.hid hk.lt
            clear hk
            have S0 := Lib.hid s0
            have S1 := Lib.hid s1
            have S2 := Lib.hid s2
            have S3 := Lib.hid s3
            have S4 := Lib.hid s4
            have S5 := Lib.hid s5
            have S6 := Lib.hid s6
            have S7 := Lib.hid s7
            have S8 := Lib.hid s8
            clear s0 s1 s2 s3 s4 s5 s6 s7 s8
            obtain ⟨d0, d1, d2, d3, d4, d5, d6, d7, d8⟩ := nine_cells HX.out.box
            go_wp2
            exact bodyPost_ret (v := .tuple #[.agg #[.int .i64 0, .int .i64 (i : Int), .int .u64 0, .int .u64 0, .int .u64 0, .int .u64 0, .string ⟨#[]⟩, .int .i64 0, .int .i64 0], .int .i64 0, .int .i64 (2 : Int)]) (by simp [results, Tryz.results37, go_sem, S0.out, S1.out, S2.out, S3.out, S4.out, S5.out, S6.out, S7.out, S8.out]) rfl ⟨by rw [HR.out] <;> rfl, HX.out.bel.trans (below9 (Below.refl _ _) (Nat.le_refl _) _ _ _ _ _ _ _ _ _)⟩
          | some s =>
            rw [hv] at FB
            have HR : Hid (v = .tuple #[.agg #[.int .i64 1, .int .i64 (i : Int), .int .u64 (wd s 0), .int .u64 (wd s 1), .int .u64 (wd s 2), .int .u64 (wd s 3), .string ⟨#[]⟩, .int .i64 0, .int .i64 0], .int .i64 ((k : Int) + 1), .int .i64 0]) := by
              unfold Hid; rw [HRV.out, HRC.out]; unfold closed; rw [HC.out]; simp only; rw [hv]
              show Value.tuple #[_, .int .i64 ((i + (a.length + 1) + 1 : Nat) : Int), _] = _
              rw [show ((i + (a.length + 1) + 1 : Nat) : Int) = (k : Int) + 1 by have := HK.out; omega]; rfl
            clear hv
            go_wp2_with fail
            refine (FE.out _).mono ?_; rintro e w' ⟨rfl, rfl⟩
            go_wp2_with fail
            refine (FB.out _).mono ?_; intro e w5 hp; obtain ⟨rfl, hb5⟩ := hp
            have HX5 := Lib.hid (HX.out.later hb5)
            have hb6 := (Below.refl w5.heap.size w5).alloc (Nat.le_refl _) (.cells #[.int .u64 (wd s 0), .int .u64 (wd s 1), .int .u64 (wd s 2), .int .u64 (wd s 3)] 42)
            have HX6 := Lib.hid (HX5.out.later hb6)
            have HA6 := Lib.hid (Blk.new w5 #[.int .u64 (wd s 0), .int .u64 (wd s 1), .int .u64 (wd s 2), .int .u64 (wd s 3)] 42)
            have HBA : Hid (w.heap.size + 1 < w5.heap.size) := HX5.out.box.lt
            clear hb5 hb6 HX HX5
            unfold cls
            go_upto_region 15 with (fail)
            generalize w5.alloc (.cells #[.int .u64 (wd s 0), .int .u64 (wd s 1), .int .u64 (wd s 2), .int .u64 (wd s 3)] 42) = w6 at *
            generalize w5.heap.size = ba at *
            have HX := HX6
            clear HX6
            obtain ⟨d0, d1, d2, d3, d4, d5, d6, d7, d8⟩ := nine_cells HX.out.box
            have df := HX.out.box.frozen
            go_upto_region 18 with (fail)
            have HX3 := Lib.hid (HX.out.set 0 (.int .i64 1))
            have HA3 : Hid (Blk (w6.setCell ⟨w.heap.size + 1, 0, none⟩ (.int .i64 1)) ba #[.int .u64 (wd s 0), .int .u64 (wd s 1), .int .u64 (wd s 2), .int .u64 (wd s 3)] 42) := HA6.out.setCell_ne (a := ⟨w.heap.size + 1, 0, none⟩) (by show w.heap.size + 1 ≠ ba; have := HBA.out; omega) _
            generalize w6.setCell ⟨w.heap.size + 1, 0, none⟩ (.int .i64 1) = w7 at *
            clear d0 d1 d2 d3 d4 d5 d6 d7 d8 df
            clear HX HA6
            have HX : Hid (RoS w #[.int .i64 1, .int .i64 (i : Int), .int .u64 0, .int .u64 0, .int .u64 0, .int .u64 0, .string ⟨#[]⟩, .int .i64 0, .int .i64 0] w7) := HX3.out
            obtain ⟨d0, d1, d2, d3, d4, d5, d6, d7, d8⟩ := nine_cells HX.out.box
            have df := HX.out.box.frozen
            have a0 := HA3.out.cell 0
            have a1 := HA3.out.cell 1
            have a2 := HA3.out.cell 2
            have a3 := HA3.out.cell 3
            simp at a0 a1 a2 a3
            go_upto_region 19 with (fail)
            have HX5 := Lib.hid ((((HX.out.set 2 (.int .u64 (wd s 0))).set 3 (.int .u64 (wd s 1))).set 4 (.int .u64 (wd s 2))).set 5 (.int .u64 (wd s 3)))
            generalize (((w7.setCell ⟨w.heap.size + 1, 2, none⟩ (.int .u64 (wd s 0))).setCell ⟨w.heap.size + 1, 3, none⟩ (.int .u64 (wd s 1))).setCell ⟨w.heap.size + 1, 4, none⟩ (.int .u64 (wd s 2))).setCell ⟨w.heap.size + 1, 5, none⟩ (.int .u64 (wd s 3)) = w8 at *
            clear d0 d1 d2 d3 d4 d5 d6 d7 d8 df
            clear HX HX3 a0 a1 a2 a3 HA3
            have HX : Hid (RoS w #[.int .i64 1, .int .i64 (i : Int), .int .u64 (wd s 0), .int .u64 (wd s 1), .int .u64 (wd s 2), .int .u64 (wd s 3), .string ⟨#[]⟩, .int .i64 0, .int .i64 0] w8) := HX5.out
            have hk := HX.out.res
            have ef := hk.frozen
            obtain ⟨e0, e1, e2, e3, e4, e5, e6, e7, e8⟩ := nine_cells hk
            obtain ⟨s0, s1, s2, s3, s4, s5, s6, s7, s8⟩ := nine hk
            have HLT := Lib.hid hk.lt
            clear hk
            have S0 := Lib.hid s0
            have S1 := Lib.hid s1
            have S2 := Lib.hid s2
            have S3 := Lib.hid s3
            have S4 := Lib.hid s4
            have S5 := Lib.hid s5
            have S6 := Lib.hid s6
            have S7 := Lib.hid s7
            have S8 := Lib.hid s8
            clear s0 s1 s2 s3 s4 s5 s6 s7 s8
            obtain ⟨d0, d1, d2, d3, d4, d5, d6, d7, d8⟩ := nine_cells HX.out.box
            go_wp2
            exact bodyPost_ret (v := .tuple #[.agg #[.int .i64 1, .int .i64 (i : Int), .int .u64 (wd s 0), .int .u64 (wd s 1), .int .u64 (wd s 2), .int .u64 (wd s 3), .string ⟨#[]⟩, .int .i64 0, .int .i64 0], .int .i64 ((k : Int) + 1), .int .i64 0]) (by simp [results, Tryz.results37, go_sem, S0.out, S1.out, S2.out, S3.out, S4.out, S5.out, S6.out, S7.out, S8.out]) rfl ⟨by rw [HR.out] <;> rfl, HX.out.bel.trans (below9 (Below.refl _ _) (Nat.le_refl _) _ _ _ _ _ _ _ _ _)⟩
      · have h60 : ((c.toNat : Int) == 60) = false := by
          rw [beq_eq_false_iff_ne]; intro e; exact c60 (UInt8.toNat_inj.1 (by show _ = 60; omega))
        by_cases c34 : c = 34
        · have h34 : ((c.toNat : Int) == 34) = true := by rw [c34]; rfl
          have HRC := Lib.hid (one34 c34 (l.drop (i + 1)))
          clear c34 c60 c46
          cases hc : cutAt 34 (l.drop (i + 1)) with
          | none =>
            have hE := end_none hc
            have FE : Hid (∀ w', Calls Tryz.prog 56 #[.string (bs l), .int .i64 (i : Int), .int .u8 34] w' (Pure w' (.int .i64 (-1)))) := fun w' => by have := rend_any l i 34 (by omega) (by omega) w'; rw [hE] at this; exact this
            have HC := Lib.hid hc
            clear hc hE
            go_wp2_with fail
            refine (FE.out _).mono ?_; rintro e w' ⟨rfl, rfl⟩
            have HR : Hid (v = badO i 3) := by unfold Hid; rw [HRV.out, HRC.out]; unfold closed; rw [HC.out]; rfl
            unfold badO at HR
            have hk := HX.out.res
            have ef := hk.frozen
            obtain ⟨e0, e1, e2, e3, e4, e5, e6, e7, e8⟩ := nine_cells hk
            obtain ⟨s0, s1, s2, s3, s4, s5, s6, s7, s8⟩ := nine hk
            have HLT := Lib.hid hk.lt
            clear hk
            have S0 := Lib.hid s0
            have S1 := Lib.hid s1
            have S2 := Lib.hid s2
            have S3 := Lib.hid s3
            have S4 := Lib.hid s4
            have S5 := Lib.hid s5
            have S6 := Lib.hid s6
            have S7 := Lib.hid s7
            have S8 := Lib.hid s8
            clear s0 s1 s2 s3 s4 s5 s6 s7 s8
            obtain ⟨d0, d1, d2, d3, d4, d5, d6, d7, d8⟩ := nine_cells HX.out.box
            go_wp2
            exact bodyPost_ret (v := .tuple #[.agg #[.int .i64 0, .int .i64 (i : Int), .int .u64 0, .int .u64 0, .int .u64 0, .int .u64 0, .string ⟨#[]⟩, .int .i64 0, .int .i64 0], .int .i64 0, .int .i64 (3 : Int)]) (by simp [results, Tryz.results37, go_sem, S0.out, S1.out, S2.out, S3.out, S4.out, S5.out, S6.out, S7.out, S8.out]) rfl ⟨by rw [HR.out] <;> rfl, HX.out.bel.trans (below9 (Below.refl _ _) (Nat.le_refl _) _ _ _ _ _ _ _ _ _)⟩
          | some p =>
            obtain ⟨a, b⟩ := p
            obtain ⟨hE, hkl, hta, hda⟩ := end_some hc
            have FE : Hid (∀ w', Calls Tryz.prog 56 #[.string (bs l), .int .i64 (i : Int), .int .u8 34] w' (Pure w' (.int .i64 ((i + 1 + a.length : Nat) : Int)))) := fun w' => by have := rend_any l i 34 (by omega) (by omega) w'; rw [hE] at this; exact this
            have hex : (bs l).extract (i + 1) (i + 1 + a.length) = bs a := by rw [bs_extract, show i + 1 + a.length - (i + 1) = a.length by omega, hta]
            have hex0 : (bs l).extract 0 (i + 1 + a.length) = bs (l.take (i + 1 + a.length)) := by rw [bs_extract]; simp
            have HC := Lib.hid hc
            have HTA := Lib.hid hta
            have HDA := Lib.hid hda
            obtain ⟨k, hk⟩ : ∃ k, k = i + 1 + a.length := ⟨_, rfl⟩
            rw [← hk] at FE hex hex0 HDA hkl
            have HK := Lib.hid hk
            have hik : (i : Int) + 1 ≤ (k : Int) := by omega
            have hkn : ¬ ((k : Int) < 0) := by omega
            have hks : (k : Int) ≤ ((bs l).size : Int) := by rw [bs_size]; omega
            have hkm : (k : Int) ≤ 1073741800 := by omega
            have hal : a.length ≤ 1073741800 := by omega
            clear hc hE hta hda hk
            by_cases ha : a = []
            · have hkz : ((k : Int) == (i : Int) + 1) = true := by
                have := HK.out; rw [ha] at this; rw [beq_iff_eq]; simp at this; omega
              have HAE := Lib.hid ha
              clear ha
              go_wp2_with fail
              refine (FE.out _).mono ?_; rintro e w' ⟨rfl, rfl⟩
              have HR : Hid (v = badO i 3) := by unfold Hid; rw [HRV.out, HRC.out]; unfold closed; rw [HC.out]; simp only; unfold textV; rw [if_pos (.inl HAE.out)]; rfl
              unfold badO at HR
              have hk := HX.out.res
              have ef := hk.frozen
              obtain ⟨e0, e1, e2, e3, e4, e5, e6, e7, e8⟩ := nine_cells hk
              obtain ⟨s0, s1, s2, s3, s4, s5, s6, s7, s8⟩ := nine hk
              have HLT := Lib.hid hk.lt
              clear hk
              have S0 := Lib.hid s0
              have S1 := Lib.hid s1
              have S2 := Lib.hid s2
              have S3 := Lib.hid s3
              have S4 := Lib.hid s4
              have S5 := Lib.hid s5
              have S6 := Lib.hid s6
              have S7 := Lib.hid s7
              have S8 := Lib.hid s8
              clear s0 s1 s2 s3 s4 s5 s6 s7 s8
              obtain ⟨d0, d1, d2, d3, d4, d5, d6, d7, d8⟩ := nine_cells HX.out.box
              go_wp2
              exact bodyPost_ret (v := .tuple #[.agg #[.int .i64 0, .int .i64 (i : Int), .int .u64 0, .int .u64 0, .int .u64 0, .int .u64 0, .string ⟨#[]⟩, .int .i64 0, .int .i64 0], .int .i64 0, .int .i64 (3 : Int)]) (by simp [results, Tryz.results37, go_sem, S0.out, S1.out, S2.out, S3.out, S4.out, S5.out, S6.out, S7.out, S8.out]) rfl ⟨by rw [HR.out] <;> rfl, HX.out.bel.trans (below9 (Below.refl _ _) (Nat.le_refl _) _ _ _ _ _ _ _ _ _)⟩
            · have hkz : ((k : Int) == (i : Int) + 1) = false := by
                have := HK.out; have h2 := List.length_pos_iff.2 ha; rw [beq_eq_false_iff_ne]; omega
              have HAE := Lib.hid ha
              clear ha
              have FU : Hid (∀ w', Calls Tryz.prog 58 #[.string (bs a)] w' (Pure w' (.bool (utf8L a)))) := fun w' => refutf8_any a (by omega) w'
              cases hu : utf8L a with
              | false =>
                rw [hu] at FU
                have HU := Lib.hid hu
                clear hu
                go_wp2_with fail
                refine (FE.out _).mono ?_; rintro e w' ⟨rfl, rfl⟩
                go_wp2_with fail
                refine (FU.out _).mono ?_; rintro e w' ⟨rfl, rfl⟩
                have HR : Hid (v = badO i 3) := by unfold Hid; rw [HRV.out, HRC.out]; unfold closed; rw [HC.out]; simp only; unfold textV; rw [if_pos (.inr HU.out)]; rfl
                unfold badO at HR
                have hk := HX.out.res
                have ef := hk.frozen
                obtain ⟨e0, e1, e2, e3, e4, e5, e6, e7, e8⟩ := nine_cells hk
                obtain ⟨s0, s1, s2, s3, s4, s5, s6, s7, s8⟩ := nine hk
                have HLT := Lib.hid hk.lt
                clear hk
                have S0 := Lib.hid s0
                have S1 := Lib.hid s1
                have S2 := Lib.hid s2
                have S3 := Lib.hid s3
                have S4 := Lib.hid s4
                have S5 := Lib.hid s5
                have S6 := Lib.hid s6
                have S7 := Lib.hid s7
                have S8 := Lib.hid s8
                clear s0 s1 s2 s3 s4 s5 s6 s7 s8
                obtain ⟨d0, d1, d2, d3, d4, d5, d6, d7, d8⟩ := nine_cells HX.out.box
                go_wp2
                exact bodyPost_ret (v := .tuple #[.agg #[.int .i64 0, .int .i64 (i : Int), .int .u64 0, .int .u64 0, .int .u64 0, .int .u64 0, .string ⟨#[]⟩, .int .i64 0, .int .i64 0], .int .i64 0, .int .i64 (3 : Int)]) (by simp [results, Tryz.results37, go_sem, S0.out, S1.out, S2.out, S3.out, S4.out, S5.out, S6.out, S7.out, S8.out]) rfl ⟨by rw [HR.out] <;> rfl, HX.out.bel.trans (below9 (Below.refl _ _) (Nat.le_refl _) _ _ _ _ _ _ _ _ _)⟩
              | true =>
                rw [hu] at FU
                have HR : Hid (v = .tuple #[.agg #[.int .i64 2, .int .i64 (i : Int), .int .u64 0, .int .u64 0, .int .u64 0, .int .u64 0, .string (bs a), .int .i64 0, .int .i64 0], .int .i64 ((k : Int) + 1), .int .i64 0]) := by
                  unfold Hid; rw [HRV.out, HRC.out]; unfold closed; rw [HC.out]; simp only; unfold textV
                  rw [if_neg (by rintro (h | h); exact HAE.out h; rw [hu] at h; cases h)]
                  show Value.tuple #[.agg (tokC { kind := 2, at_ := i, text := a }), .int .i64 ((i + (a.length + 1) + 1 : Nat) : Int), _] = _
                  rw [show ((i + (a.length + 1) + 1 : Nat) : Int) = (k : Int) + 1 by have := HK.out; omega, tokC_lit]
                  simp only [wd_zeros.1, wd_zeros.2.1, wd_zeros.2.2.1, wd_zeros.2.2.2]; rfl
                clear hu
                go_wp2_with fail
                refine (FE.out _).mono ?_; rintro e w' ⟨rfl, rfl⟩
                go_wp2_with fail
                refine (FU.out _).mono ?_; rintro e w' ⟨rfl, rfl⟩
                obtain ⟨d0, d1, d2, d3, d4, d5, d6, d7, d8⟩ := nine_cells HX.out.box
                have df := HX.out.box.frozen
                go_upto_region 25 with (fail)
                have HX3 := Lib.hid (HX.out.set 0 (.int .i64 2))
                generalize w2.setCell ⟨w.heap.size + 1, 0, none⟩ (.int .i64 2) = w7 at *
                clear d0 d1 d2 d3 d4 d5 d6 d7 d8 df
                clear HX
                have HX : Hid (RoS w #[.int .i64 2, .int .i64 (i : Int), .int .u64 0, .int .u64 0, .int .u64 0, .int .u64 0, .string ⟨#[]⟩, .int .i64 0, .int .i64 0] w7) := HX3.out
                obtain ⟨d0, d1, d2, d3, d4, d5, d6, d7, d8⟩ := nine_cells HX.out.box
                have df := HX.out.box.frozen
                go_upto_region 26 with (fail)
                have HX4 := Lib.hid (HX.out.set 6 (.string (bs a)))
                generalize w7.setCell ⟨w.heap.size + 1, 6, none⟩ (.string (bs a)) = w8 at *
                clear d0 d1 d2 d3 d4 d5 d6 d7 d8 df
                clear HX HX3
                have HX : Hid (RoS w #[.int .i64 2, .int .i64 (i : Int), .int .u64 0, .int .u64 0, .int .u64 0, .int .u64 0, .string (bs a), .int .i64 0, .int .i64 0] w8) := HX4.out
                have hk := HX.out.res
                have ef := hk.frozen
                obtain ⟨e0, e1, e2, e3, e4, e5, e6, e7, e8⟩ := nine_cells hk
                obtain ⟨s0, s1, s2, s3, s4, s5, s6, s7, s8⟩ := nine hk
                have HLT := Lib.hid hk.lt
                clear hk
                have S0 := Lib.hid s0
                have S1 := Lib.hid s1
                have S2 := Lib.hid s2
                have S3 := Lib.hid s3
                have S4 := Lib.hid s4
                have S5 := Lib.hid s5
                have S6 := Lib.hid s6
                have S7 := Lib.hid s7
                have S8 := Lib.hid s8
                clear s0 s1 s2 s3 s4 s5 s6 s7 s8
                obtain ⟨d0, d1, d2, d3, d4, d5, d6, d7, d8⟩ := nine_cells HX.out.box
                go_wp2
                exact bodyPost_ret (v := .tuple #[.agg #[.int .i64 2, .int .i64 (i : Int), .int .u64 0, .int .u64 0, .int .u64 0, .int .u64 0, .string (bs a), .int .i64 0, .int .i64 0], .int .i64 ((k : Int) + 1), .int .i64 0]) (by simp [results, Tryz.results37, go_sem, S0.out, S1.out, S2.out, S3.out, S4.out, S5.out, S6.out, S7.out, S8.out]) rfl ⟨by rw [HR.out] <;> rfl, HX.out.bel.trans (below9 (Below.refl _ _) (Nat.le_refl _) _ _ _ _ _ _ _ _ _)⟩
        · have h34 : ((c.toNat : Int) == 34) = false := by
            rw [beq_eq_false_iff_ne]; intro e; exact c34 (UInt8.toNat_inj.1 (by show _ = 34; omega))
          by_cases c123 : c = 123
          · have h123 : ((c.toNat : Int) == 123) = true := by rw [c123]; rfl
            exact absurd c123 HCC.out
          · have h123 : ((c.toNat : Int) == 123) = false := by
              rw [beq_eq_false_iff_ne]; intro e; exact c123 (UInt8.toNat_inj.1 (by show _ = 123; omega))
            have HRC := Lib.hid (one_else HS0.out c46 c60 c34 c123 (l.drop (i + 1)))
            clear c123 c34 c60 c46
            have HR : Hid (v = badO i 1) := by unfold Hid; rw [HRV.out, HRC.out]; rfl
            unfold badO at HR
            have hk := HX.out.res
            have ef := hk.frozen
            obtain ⟨e0, e1, e2, e3, e4, e5, e6, e7, e8⟩ := nine_cells hk
            obtain ⟨s0, s1, s2, s3, s4, s5, s6, s7, s8⟩ := nine hk
            have HLT := Lib.hid hk.lt
            clear hk
            have S0 := Lib.hid s0
            have S1 := Lib.hid s1
            have S2 := Lib.hid s2
            have S3 := Lib.hid s3
            have S4 := Lib.hid s4
            have S5 := Lib.hid s5
            have S6 := Lib.hid s6
            have S7 := Lib.hid s7
            have S8 := Lib.hid s8
            clear s0 s1 s2 s3 s4 s5 s6 s7 s8
            obtain ⟨d0, d1, d2, d3, d4, d5, d6, d7, d8⟩ := nine_cells HX.out.box
            go_wp2
            exact bodyPost_ret (v := .tuple #[.agg #[.int .i64 0, .int .i64 (i : Int), .int .u64 0, .int .u64 0, .int .u64 0, .int .u64 0, .string ⟨#[]⟩, .int .i64 0, .int .i64 0], .int .i64 0, .int .i64 (1 : Int)]) (by simp [results, Tryz.results37, go_sem, S0.out, S1.out, S2.out, S3.out, S4.out, S5.out, S6.out, S7.out, S8.out]) rfl ⟨by rw [HR.out] <;> rfl, HX.out.bel.trans (below9 (Below.refl _ _) (Nat.le_refl _) _ _ _ _ _ _ _ _ _)⟩
end Go.Proofs.YtcgjmnhmhiddkaaGreatDoor
