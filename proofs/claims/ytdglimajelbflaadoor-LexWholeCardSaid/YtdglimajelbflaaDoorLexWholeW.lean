/- The statement LexWhole of layer 3, walked. -/
import Derived.Test.YtdglimajelbflaaDoorLexAwake
namespace Go.Proofs.YtdglimajelbflaaDoor
open Go Go.RowKit
set_option linter.unusedVariables false
set_option linter.unusedSimpArgs false

theorem read_okn {l : List UInt8} {r : List Tok} {n : Nat} (h : readL l 0 0 = .ok r) (hn : r.length = n) (w : World) (hT : U8T w) (hl : l.length ≤ 1073741823) :
    Calls Tryd.prog 23 #[.string (bs l)] w (fun e w' => ∃ A c, e = .returned (.tuple #[.slice A n c, .int .i64 0, .int .i64 0]) ∧ TRow w' A r ∧ Below w.heap.size w w') := by
  subst hn; exact read_ok h w hT hl
theorem whole_at {l : List UInt8} {r : List Tok} (h : Whole l 0 0 r) {n : Nat} (hn : r.length = n + 1) : r.getD n tok0 = { kind := 10, at_ := l.length } ∧
    ∀ k, k < n → 1 ≤ (r.getD k tok0).kind ∧ (r.getD k tok0).kind ≤ 9 ∧ (r.getD k tok0).at_ < l.length ∧ l.getD (r.getD k tok0).at_ 0 ≠ 32 := by
  constructor
  · have := h.last
    rw [List.getLast?_eq_getElem?, hn] at this
    rw [List.getD_eq_getElem?_getD, show n = n + 1 - 1 from rfl, this]; simp
  · intro k hk
    have hm : r.getD k tok0 ∈ r.dropLast := by
      rw [List.getD_eq_getElem?_getD, List.getElem?_eq_getElem (by omega)]
      rw [List.mem_iff_getElem]
      exact ⟨k, by rw [List.length_dropLast]; omega, by rw [List.getElem_dropLast]; rfl⟩
    obtain ⟨a, b, c, d⟩ := h.kinds _ hm
    exact ⟨a, b, by simpa using c, by simpa using d⟩
theorem whole_rise {l : List UInt8} {r : List Tok} (h : Whole l 0 0 r) (k : Nat) (hk : k + 1 < r.length) : (r.getD k tok0).at_ < (r.getD (k + 1) tok0).at_ := by
  have := (List.pairwise_iff_getElem.1 h.rise) k (k + 1) (by omega) hk (by omega)
  rw [List.getD_eq_getElem?_getD, List.getD_eq_getElem?_getD, List.getElem?_eq_getElem (by omega), List.getElem?_eq_getElem hk]
  exact this
theorem whole_up {l : List UInt8} {r : List Tok} (h : Whole l 0 0 r) : ∀ k, k < r.length → k ≤ (r.getD k tok0).at_
  | 0, _ => Nat.zero_le _
  | k + 1, hk => by have := whole_up h k (by omega); have := whole_rise h k hk; omega
theorem whole_len {l : List UInt8} {r : List Tok} (h : Whole l 0 0 r) {n : Nat} (hn : r.length = n + 1) : n ≤ l.length := by
  have := whole_up h n (by omega)
  rw [(whole_at h hn).1] at this; exact this
theorem whole_gap {l : List UInt8} {r : List Tok} (h : Whole l 0 0 r) (i : Nat) (hi : i < (r.getD 0 tok0).at_) : l.getD i 0 = 32 := by
  cases r with
  | nil => exact absurd rfl h.ne
  | cons t r => exact h.gap t rfl i (Nat.zero_le _) (by simpa using hi)
structure WhS (w0 : World) (b o : Nat) (r : List Tok) (w : World) : Prop where
  bel : Below w0.heap.size w0 w
  row : TRow w (some ⟨b, o, none⟩) r
theorem WhS.later {w0 w w' : World} {b o : Nat} {r : List Tok} (h : WhS w0 b o r w) (hb : Below w.heap.size w w') : WhS w0 b o r w' := ⟨h.bel.trans (hb.mono h.bel.size), h.row.later hb⟩
def WhL (w0 : World) (b o : Nat) (r : List Tok) (n : Nat) (i : Value) (w : World) : Prop := ∃ k : Nat, k ≤ n ∧ i = .int .i64 (k : Int) ∧ WhS w0 b o r w
set_option maxHeartbeats 16000000 in
set_option maxRecDepth 1000000 in
theorem lexwhole_walk (l : List UInt8) (w : World) (hT : U8T w) (hl : l.length ≤ 9223372036854775807) :
    Calls Tryd.prog 6 #[.string (bs l)] w (Ans w (.bool true)) := by
  have HT := Lib.hid hT
  clear hT
  go_enter Tryd.func6, Tryd.ntmps6
  by_cases h3 : 3000 < l.length
  · have hz : ((bs l).size : Int) > 3000 := by rw [bs_size]; omega
    go_wp2_with fail
    refine (awake3_any _ HT.out).mono ?_; rintro e w1 ⟨rfl, hb⟩
    go_wp2_with fail
    refine (awake3_any _ (HT.out.later hb)).mono ?_; rintro e w2 ⟨rfl, hb2⟩
    have HF := Lib.hid (hb.trans (hb2.mono hb.size))
    clear hb hb2
    go_wp2
    go_ret
    exact ⟨rfl, HF.out⟩
  · have hz : ¬ ((bs l).size : Int) > 3000 := by rw [bs_size]; omega
    have hsz : (bs l).size ≤ 3000 := by rw [bs_size]; omega
    go_wp2_with fail
    refine (awake3_any _ HT.out).mono ?_; rintro e w1 ⟨rfl, hb⟩
    have HT1 := Lib.hid (HT.out.later hb)
    have HB1 := Lib.hid hb
    clear hb
    cases hr0 : readL l 0 0 with
    | error p =>
      obtain ⟨e, q⟩ := p
      have HR := Lib.hid hr0
      obtain ⟨_, f2, f3, f4, ⟨r, f5⟩, f6⟩ := readL_fault l 0 0 e q (Nat.zero_le _) hr0
      rw [Nat.zero_add] at f2
      rw [Nat.sub_zero] at f3 f5 f6
      have F5 := Lib.hid f5
      have F6 : Hid (readL (l.drop q) 0 0 = .error (e, 0)) := by
        unfold Hid
        have h := readL_shift q (l.drop q) 0 0
        rw [Nat.zero_add, f6] at h
        cases h2 : readL (l.drop q) 0 0 with
        | ok r => rw [h2] at h; cases h
        | error p =>
          obtain ⟨e2, q2⟩ := p
          rw [h2] at h
          simp [shiftR] at h
          obtain ⟨h1, h3⟩ := h
          rw [h1, show q2 = 0 by omega]
      have hez : ((e : Int) != 0) = true := by rw [bne_iff_ne]; omega
      have hq1 : ¬ (q : Int) ≥ ((bs l).size : Int) := by rw [bs_size]; omega
      have hq2 : q < (bs l).size := by rw [bs_size]; omega
      have hq3 : ¬ (q : Int) < 0 := by omega
      have hq4 : (q : Int) < ((bs l).size : Int) := by rw [bs_size]; omega
      have hget : (bs l)[q]'hq2 = l.getD q 0 := by rw [bs_get]; simp [f2]
      have hx1 : (bs l).extract 0 q = bs (l.take q) := by rw [bs_extract]; simp
      have hx2 : (bs l).extract q (bs l).size = bs (l.drop q) := by rw [bs_extract, bs_size, List.take_of_length_le (by rw [List.length_drop]; exact Nat.le_refl _)]
      have HL1 : Hid ((l.take q).length ≤ 1073741823) := by unfold Hid; rw [List.length_take]; omega
      have HL2 : Hid ((l.drop q).length ≤ 1073741823) := by unfold Hid; rw [List.length_drop]; omega
      have HL : Hid (l.length ≤ 1073741823) := by unfold Hid; omega
      have hcz : (((l.getD q 0).toNat : Int) == 32) = false := by
        rw [beq_eq_false_iff_ne]; intro e; apply f3; apply UInt8.toNat_inj.1; show _ = 32; omega
      generalize l.getD q 0 = c at *
      clear f2 f3 f4 f5 f6 hr0
      go_wp2_with fail
      refine (read_bad HR.out _ HT1.out HL.out).mono ?_; rintro e w2 ⟨rfl, hb⟩
      have HT2 := Lib.hid (HT1.out.later hb)
      have HB2 := Lib.hid (HB1.out.trans (hb.mono HB1.out.size))
      clear hb
      go_wp2_with fail
      refine (read_ok F5.out _ HT2.out HL1.out).mono ?_; rintro e w3 ⟨A, cc, rfl, hr, hb⟩
      have HT3 := Lib.hid (HT2.out.later hb)
      have HB3 := Lib.hid (HB2.out.trans (hb.mono HB2.out.size))
      clear hb hr
      go_wp2_with fail
      refine (read_bad F6.out _ HT3.out HL2.out).mono ?_; rintro e w4 ⟨rfl, hb⟩
      have HB4 := Lib.hid (HB3.out.trans (hb.mono HB3.out.size))
      clear hb
      go_wp2
      go_ret
      exact ⟨rfl, HB4.out⟩
    | ok r =>
      have hw := readL_whole l 0 0 r (Nat.zero_le _) hr0
      have hpos : 0 < r.length := List.length_pos_iff.2 hw.ne
      obtain ⟨n, hn⟩ : ∃ n, r.length = n + 1 := ⟨r.length - 1, by omega⟩
      have hnl := whole_len hw hn
      have HR := Lib.hid hr0
      have HN := Lib.hid hn
      have HW := Lib.hid hw
      have HL : Hid (l.length ≤ 1073741823) := by unfold Hid; omega
      clear hr0 hpos hw hn
      go_wp2_with fail
      refine (read_okn HR.out HN.out _ HT1.out HL.out).mono ?_; rintro e w2 ⟨A, cc, rfl, hr, hb⟩
      obtain ⟨b, o, rfl, _, _⟩ := hr 0 (by rw [HN.out]; omega)
      have HS0 : Hid (WhS w b o r w2) := ⟨HB1.out.trans (hb.mono HB1.out.size), hr⟩
      have g := hr.at (i := n) (by rw [HN.out]; omega) rfl
      rw [(whole_at HW.out HN.out).1] at g
      obtain ⟨g0, g1, _⟩ := g
      have hls : ((bs l).size : Int) = (l.length : Int) := by rw [bs_size]
      clear hr hb
      go_wp2
      clear g0 g1
      go_loopw [12] (WhL w b o r (n + 1)) (fun i _ => n + 1 - (intOf i).toNat)
      case atStart => exact ⟨0, Nat.zero_le _, rfl, HS0.out⟩
      case round =>
        obtain ⟨k, hk, rfl, hs⟩ := hrel
        have HS := Lib.hid hs
        by_cases hlt : k < n + 1
        · have hltz : (k : Int) < (n : Int) + 1 := by omega
          have FX := Lib.hid (fun (w' : World) (h : TRow w' (some ⟨b, o, none⟩) r) => h.at (i := k) (by rw [HN.out]; omega) rfl)
          clear hs
          have HJ : Hid (∀ j, k = j + 1 → (r.getD j tok0).at_ < (r.getD k tok0).at_) := by
            rintro j rfl; exact whole_rise HW.out j (by rw [HN.out]; omega)
          by_cases hlast : k = n
          · have hx := (whole_at HW.out HN.out).1
            subst hlast
            have hd2 : (((r.getD k tok0).kind : Int) == 10) = true := by rw [hx]; rfl
            have hd3 : (((r.getD k tok0).kind : Int) != 10) = false := by rw [hx]; rfl
            have hd4 : ¬ ((r.getD k tok0).kind : Int) < 1 := by rw [hx]; show ¬ ((10 : Nat) : Int) < 1; decide
            have hd5 : ¬ ((r.getD k tok0).kind : Int) > 10 := by rw [hx]; show ¬ ((10 : Nat) : Int) > 10; decide
            clear hx
            generalize r.getD k tok0 = x at *
            by_cases h0 : k = 0
            · subst h0
              rw [Nat.zero_mul, Nat.add_zero] at FX
              have FY : Hid (∀ w' : World, TRow w' (some ⟨b, o, none⟩) r → True) := fun _ _ => trivial
              go_upto_region 15 with (fail)
              refine wp_region_stable (S := (WhS w b o r)) (hSt := fun _ _ h hb => h.later hb) (plan := [[(3, none)], [(12, none)], [(111, some 0), (112, some 1)], [(113, some 2)], [(114, some 3)], [(115, some 4)], [(116, some 5)], [(3, none)], [(12, none)], [(118, some 7), (119, some 8)], [(120, some 9)], [(121, some 10)], [(122, some 11)], [(117, some 6), (123, some 12)], [(124, some 13)], [(3, none)], [(12, none)], [(126, some 15), (127, some 16)], [(128, some 17)], [(129, some 18)], [(130, some 19)], [(12, none)], [(3, none)], [(133, some 22)], [(134, some 23)], [(132, some 21), (135, some 24)], [(131, some 20), (136, some 25)], [(125, some 14), (137, some 26)], [(138, some 27)], [(12, none)], [(140, some 29)], [(141, some 30)], [(3, none)], [(12, none)], [(144, some 33)], [(143, some 32), (145, some 34)], [(146, some 35)], [(147, some 36)], [(3, none)], [(12, none)], [(149, some 38), (150, some 39)], [(151, some 40)], [(152, some 41)], [(148, some 37), (153, some 42)], [(142, some 31), (154, some 43)], [(139, some 28), (155, some 44)], [(156, some 45)], [(3, none)], [(12, none)], [(158, some 47), (159, some 48)], [(160, some 49)], [(161, some 50)], [(162, some 51)], [(163, some 52)], [(0, none)], [(3, none)], [(12, none)], [(166, some 55), (167, some 56)], [(168, some 57)], [(169, some 58)], [(165, some 54), (170, some 59)], [(171, some 60)], [(164, some 53), (172, some 61)], [(157, some 46), (173, some 62)]]) (by kernel_rfl) (by kernel_rfl) (by kernel_rfl) ?hS ?_
              rotate_left
              iterate 64 first
                | (refine chain_skip (by rfl) (by rfl) ?_)
                | (apply chain_want (by rfl)
                   · intro act wx hS hr
                     simp at hr
                     have g := FX.out _ hS.row
                     have g2 := FY.out _ hS.row
                     unfold At9 at g
                     go_simp
                     (try go_ints)
                     first
                       | exact Done.same
                  )
              show ∀ w', _ → _
              intro wz hz
              simp [Act.put]
              case hS => exact HS.out
              have HZ := Lib.hid hz
              clear hz
              go_wp2
              go_roundw
              case rel => exact ⟨0 + 1, by omega, by go_num, HZ.out⟩
              case measure => simp [intOf] <;> omega
            · obtain ⟨j, hkj⟩ : ∃ j, k = j + 1 := ⟨k - 1, by omega⟩
              have FY := Lib.hid (fun (w' : World) (h : TRow w' (some ⟨b, o, none⟩) r) => (h.at (i := j) (by rw [HN.out]; omega) rfl).2.1)
              have hj1 : (k : Int) - 1 = (j : Int) := by omega
              have hk0 : (k : Int) > 0 := by omega
              have hk1 : 0 < k := by omega
              have hjn : (j : Int) < (k : Int) + 1 := by omega
              have hjy : ¬ ((r.getD j tok0).at_ : Int) ≥ (x.at_ : Int) := by
                have := HJ.out j hkj
                omega
              have hjz : ¬ x.at_ ≤ (r.getD j tok0).at_ := by
                have := HJ.out j hkj
                omega
              have hjw : (r.getD j tok0).at_ < x.at_ := HJ.out j hkj
              clear h0 hkj HJ
              generalize (r.getD j tok0).at_ = y at *
              go_upto_region 15 with (fail)
              refine wp_region_stable (S := (WhS w b o r)) (hSt := fun _ _ h hb => h.later hb) (plan := [[(3, none)], [(12, none)], [(111, some 0), (112, some 1)], [(113, some 2)], [(114, some 3)], [(115, some 4)], [(116, some 5)], [(3, none)], [(12, none)], [(118, some 7), (119, some 8)], [(120, some 9)], [(121, some 10)], [(122, some 11)], [(117, some 6), (123, some 12)], [(124, some 13)], [(3, none)], [(12, none)], [(126, some 15), (127, some 16)], [(128, some 17)], [(129, some 18)], [(130, some 19)], [(12, none)], [(3, none)], [(133, some 22)], [(134, some 23)], [(132, some 21), (135, some 24)], [(131, some 20), (136, some 25)], [(125, some 14), (137, some 26)], [(138, some 27)], [(12, none)], [(140, some 29)], [(141, some 30)], [(3, none)], [(12, none)], [(144, some 33)], [(143, some 32), (145, some 34)], [(146, some 35)], [(147, some 36)], [(3, none)], [(12, none)], [(149, some 38), (150, some 39)], [(151, some 40)], [(152, some 41)], [(148, some 37), (153, some 42)], [(142, some 31), (154, some 43)], [(139, some 28), (155, some 44)], [(156, some 45)], [(3, none)], [(12, none)], [(158, some 47), (159, some 48)], [(160, some 49)], [(161, some 50)], [(162, some 51)], [(163, some 52)], [(0, none)], [(3, none)], [(12, none)], [(166, some 55), (167, some 56)], [(168, some 57)], [(169, some 58)], [(165, some 54), (170, some 59)], [(171, some 60)], [(164, some 53), (172, some 61)], [(157, some 46), (173, some 62)]]) (by kernel_rfl) (by kernel_rfl) (by kernel_rfl) ?hS ?_
              rotate_left
              iterate 64 first
                | (refine chain_skip (by rfl) (by rfl) ?_)
                | (apply chain_want (by rfl)
                   · intro act wx hS hr
                     simp at hr
                     have g := FX.out _ hS.row
                     have g2 := FY.out _ hS.row
                     unfold At9 at g
                     go_simp
                     (try go_ints)
                     first
                       | exact Done.same
                  )
              show ∀ w', _ → _
              intro wz hz
              simp [Act.put]
              case hS => exact HS.out
              have HZ := Lib.hid hz
              clear hz
              go_wp2
              go_roundw
              case rel => exact ⟨k + 1, by omega, by go_num, HZ.out⟩
              case measure => simp [intOf] <;> omega
          · have hkn : k < n := by omega
            have hx := (whole_at HW.out HN.out).2 k hkn
            generalize r.getD k tok0 = x at *
            obtain ⟨x1, x2, x3, x4⟩ := hx
            have hd1 : ((k : Int) == (n : Int)) = false := by rw [beq_eq_false_iff_ne]; omega
            have hd2 : ((x.kind : Int) == 10) = false := by rw [beq_eq_false_iff_ne]; omega
            have hd3 : ((x.kind : Int) != 10) = true := by rw [bne_iff_ne]; omega
            have hd4 : ¬ (x.kind : Int) < 1 := by omega
            have hd5 : ¬ (x.kind : Int) > 10 := by omega
            have hq2 : x.at_ < (bs l).size := by rw [bs_size]; omega
            have hq4 : (x.at_ : Int) < (l.length : Int) := by omega
            have hget : (bs l)[x.at_]'hq2 = l.getD x.at_ 0 := by
              rw [bs_get, List.getD_eq_getElem?_getD, List.getElem?_eq_getElem x3]; rfl
            have hcz : (((l.getD x.at_ 0).toNat : Int) == 32) = false := by
              rw [beq_eq_false_iff_ne]; intro e; apply x4; apply UInt8.toNat_inj.1; show _ = 32; omega
            clear x1 x2 x3 x4 hlast
            generalize l.getD x.at_ 0 = c at *
            by_cases h0 : k = 0
            · subst h0
              rw [Nat.zero_mul, Nat.add_zero] at FX
              have hd6 : ((0 : Int) == (n : Int)) = false := by rw [beq_eq_false_iff_ne]; omega
              clear hd1
              have FY : Hid (∀ w' : World, TRow w' (some ⟨b, o, none⟩) r → True) := fun _ _ => trivial
              go_upto_region 15 with (fail)
              refine wp_region_stable (S := (WhS w b o r)) (hSt := fun _ _ h hb => h.later hb) (plan := [[(3, none)], [(12, none)], [(111, some 0), (112, some 1)], [(113, some 2)], [(114, some 3)], [(115, some 4)], [(116, some 5)], [(3, none)], [(12, none)], [(118, some 7), (119, some 8)], [(120, some 9)], [(121, some 10)], [(122, some 11)], [(117, some 6), (123, some 12)], [(124, some 13)], [(3, none)], [(12, none)], [(126, some 15), (127, some 16)], [(128, some 17)], [(129, some 18)], [(130, some 19)], [(12, none)], [(3, none)], [(133, some 22)], [(134, some 23)], [(132, some 21), (135, some 24)], [(131, some 20), (136, some 25)], [(125, some 14), (137, some 26)], [(138, some 27)], [(12, none)], [(140, some 29)], [(141, some 30)], [(3, none)], [(12, none)], [(144, some 33)], [(143, some 32), (145, some 34)], [(146, some 35)], [(147, some 36)], [(3, none)], [(12, none)], [(149, some 38), (150, some 39)], [(151, some 40)], [(152, some 41)], [(148, some 37), (153, some 42)], [(142, some 31), (154, some 43)], [(139, some 28), (155, some 44)], [(156, some 45)], [(3, none)], [(12, none)], [(158, some 47), (159, some 48)], [(160, some 49)], [(161, some 50)], [(162, some 51)], [(163, some 52)], [(0, none)], [(3, none)], [(12, none)], [(166, some 55), (167, some 56)], [(168, some 57)], [(169, some 58)], [(165, some 54), (170, some 59)], [(171, some 60)], [(164, some 53), (172, some 61)], [(157, some 46), (173, some 62)]]) (by kernel_rfl) (by kernel_rfl) (by kernel_rfl) ?hS ?_
              rotate_left
              iterate 64 first
                | (refine chain_skip (by rfl) (by rfl) ?_)
                | (apply chain_want (by rfl)
                   · intro act wx hS hr
                     simp at hr
                     have g := FX.out _ hS.row
                     have g2 := FY.out _ hS.row
                     unfold At9 at g
                     go_simp
                     (try go_ints)
                     first
                       | exact Done.same
                  )
              show ∀ w', _ → _
              intro wz hz
              simp [Act.put]
              case hS => exact HS.out
              have HZ := Lib.hid hz
              clear hz
              go_wp2
              go_roundw
              case rel => exact ⟨0 + 1, by omega, by go_num, HZ.out⟩
              case measure => simp [intOf] <;> omega
            · obtain ⟨j, hkj⟩ : ∃ j, k = j + 1 := ⟨k - 1, by omega⟩
              have FY := Lib.hid (fun (w' : World) (h : TRow w' (some ⟨b, o, none⟩) r) => (h.at (i := j) (by rw [HN.out]; omega) rfl).2.1)
              have hj1 : (k : Int) - 1 = (j : Int) := by omega
              have hk0 : (k : Int) > 0 := by omega
              have hk1 : 0 < k := by omega
              have hjn : (j : Int) < (n : Int) + 1 := by omega
              have hjy : ¬ ((r.getD j tok0).at_ : Int) ≥ (x.at_ : Int) := by
                have := HJ.out j hkj
                omega
              have hjz : ¬ x.at_ ≤ (r.getD j tok0).at_ := by
                have := HJ.out j hkj
                omega
              have hjw : (r.getD j tok0).at_ < x.at_ := HJ.out j hkj
              clear h0 hkj hkn HJ
              generalize (r.getD j tok0).at_ = y at *
              go_upto_region 15 with (fail)
              refine wp_region_stable (S := (WhS w b o r)) (hSt := fun _ _ h hb => h.later hb) (plan := [[(3, none)], [(12, none)], [(111, some 0), (112, some 1)], [(113, some 2)], [(114, some 3)], [(115, some 4)], [(116, some 5)], [(3, none)], [(12, none)], [(118, some 7), (119, some 8)], [(120, some 9)], [(121, some 10)], [(122, some 11)], [(117, some 6), (123, some 12)], [(124, some 13)], [(3, none)], [(12, none)], [(126, some 15), (127, some 16)], [(128, some 17)], [(129, some 18)], [(130, some 19)], [(12, none)], [(3, none)], [(133, some 22)], [(134, some 23)], [(132, some 21), (135, some 24)], [(131, some 20), (136, some 25)], [(125, some 14), (137, some 26)], [(138, some 27)], [(12, none)], [(140, some 29)], [(141, some 30)], [(3, none)], [(12, none)], [(144, some 33)], [(143, some 32), (145, some 34)], [(146, some 35)], [(147, some 36)], [(3, none)], [(12, none)], [(149, some 38), (150, some 39)], [(151, some 40)], [(152, some 41)], [(148, some 37), (153, some 42)], [(142, some 31), (154, some 43)], [(139, some 28), (155, some 44)], [(156, some 45)], [(3, none)], [(12, none)], [(158, some 47), (159, some 48)], [(160, some 49)], [(161, some 50)], [(162, some 51)], [(163, some 52)], [(0, none)], [(3, none)], [(12, none)], [(166, some 55), (167, some 56)], [(168, some 57)], [(169, some 58)], [(165, some 54), (170, some 59)], [(171, some 60)], [(164, some 53), (172, some 61)], [(157, some 46), (173, some 62)]]) (by kernel_rfl) (by kernel_rfl) (by kernel_rfl) ?hS ?_
              rotate_left
              iterate 64 first
                | (refine chain_skip (by rfl) (by rfl) ?_)
                | (apply chain_want (by rfl)
                   · intro act wx hS hr
                     simp at hr
                     have g := FX.out _ hS.row
                     have g2 := FY.out _ hS.row
                     unfold At9 at g
                     go_simp
                     (try go_ints)
                     first
                       | exact Done.same
                  )
              show ∀ w', _ → _
              intro wz hz
              simp [Act.put]
              case hS => exact HS.out
              have HZ := Lib.hid hz
              clear hz
              go_wp2
              go_roundw
              case rel => exact ⟨k + 1, by omega, by go_num, HZ.out⟩
              case measure => simp [intOf] <;> omega
        · obtain rfl : k = n + 1 := by omega
          have hltz : ¬ ((n + 1 : Nat) : Int) < (n : Int) + 1 := by omega
          have hgap := Lib.hid (whole_gap HW.out)
          have hup : (r.getD 0 tok0).at_ ≤ l.length := by
            by_cases h0 : 0 = n
            · have := (whole_at HW.out HN.out).1; rw [← h0] at this; rw [this]; exact Nat.le_refl _
            · exact Nat.le_of_lt ((whole_at HW.out HN.out).2 0 (by omega)).2.2.1
          have FX : Hid (∀ (w' : World) (h : TRow w' (some ⟨b, o, none⟩) r), w'.cell? ⟨b, o + 1, none⟩ = some (.int .i64 ((r.getD 0 tok0).at_ : Int))) := by
            intro w' h
            have g := h.at (i := 0) (by rw [HN.out]; omega) rfl
            rw [Nat.zero_mul, Nat.add_zero] at g
            exact g.2.1
          generalize (r.getD 0 tok0).at_ = z at *
          clear hs
          go_wp2
          go_loopw [13] (WhL w b o r z) (fun i _ => z - (intOf i).toNat)
          case atStart => exact ⟨0, Nat.zero_le _, rfl, HS.out⟩
          case round =>
            obtain ⟨k, hk, rfl, hs⟩ := hrel
            have HS2 := Lib.hid hs
            have g := FX.out _ hs.row
            clear hs
            by_cases hlt : k < z
            · have hlt2 : (k : Int) < (z : Int) := by omega
              have hq2 : k < (bs l).size := by rw [bs_size]; omega
              have hq4 : (k : Int) < (l.length : Int) := by omega
              have hget : (bs l)[k]'hq2 = 32 := by
                have := hgap.out k hlt
                rw [List.getD_eq_getElem?_getD, List.getElem?_eq_getElem (by omega)] at this
                rw [bs_get]; exact this
              go_wp2
              go_roundw
              case rel => exact ⟨k + 1, by omega, by go_num, HS2.out⟩
              case measure => simp [intOf]; omega
            · obtain rfl : k = z := by omega
              go_wp2
              go_ret
              exact ⟨rfl, HS2.out.bel⟩
end Go.Proofs.YtdglimajelbflaaDoor
