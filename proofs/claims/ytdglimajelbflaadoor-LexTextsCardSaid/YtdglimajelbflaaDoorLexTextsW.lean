/- The statement LexTexts of layer 3, walked. -/
import Derived.Test.YtdglimajelbflaaDoorLexAwake
namespace Go.Proofs.YtdglimajelbflaaDoor
open Go Go.RowKit
set_option linter.unusedVariables false
set_option linter.unusedSimpArgs false

theorem txt_read (l : List UInt8) (h : (34 : UInt8) ∉ l) : readL (32 :: 32 :: 34 :: (l ++ [34])) 0 0 = match txtF l with
    | .bad e => .error (e, 2)
    | .tok t n => .ok [{ t with at_ := 2 }, { kind := 10, at_ := 4 + l.length }] := by
  rw [readL_c0, if_pos rfl, readL_c0, if_pos rfl, readL_c0, if_neg (by decide)]
  have ho : oneV 34 (l ++ [34]) = txtF l := by
    rw [oneV_eq]
    show closed 34 3 (l ++ [34]) txtF = _
    unfold closed
    rw [show l ++ [34] = l ++ 34 :: [] from rfl, cutAt_app h]
  rw [ho]
  cases hf : txtF l with
  | bad e => rfl
  | tok t n =>
    have hn := (txtF_tok l t n hf).1
    simp only
    rw [readL_skip (l ++ [34]) _ n n (Nat.le_refl _) (by simp; omega), List.drop_of_length_le (by simp; omega), readL_nil, hn]
    simp [Except.map]
    omega
theorem txt_bad {l : List UInt8} (h : (34 : UInt8) ∉ l) (hb : l = [] ∨ utf8L l = false) : readL (32 :: 32 :: 34 :: (l ++ [34])) 0 0 = .error (3, 2) := by
  rw [txt_read l h]
  have : txtF l = .bad 3 := by unfold txtF textV; rw [if_pos hb]
  rw [this]
theorem txt_ok {l : List UInt8} (h : (34 : UInt8) ∉ l) (h0 : l ≠ []) (hu : utf8L l = true) : readL (32 :: 32 :: 34 :: (l ++ [34])) 0 0 = .ok [{ kind := 2, at_ := 2, text := l }, { kind := 10, at_ := 4 + l.length }] := by
  rw [txt_read l h]
  have : txtF l = .tok { kind := 2, at_ := 0, text := l } (l.length + 1) := by unfold txtF textV; rw [if_neg (by rw [hu]; simp [h0])]
  rw [this]
theorem utf_ff {l : List UInt8} (hu : utf8L l = true) : utf8L (l ++ [255]) = false := by rw [utf8_two hu]; rfl
theorem utf_c3 {l : List UInt8} (h0 : l ≠ []) (hu : utf8L l = true) : utf8L (195 :: (l ++ [97])) = false := by
  match l, h0 with
  | b :: l, _ =>
    have hb := utf8_head hu
    rw [utf8_lead (195 :: (b :: l ++ [97])) (by simp) (by show 128 ≤ (195 : UInt8).toNat; decide)]
    have hl : leadV ((195 :: (b :: l ++ [97]) : List UInt8).getD 0 0).toNat = (2, 128, 191) := by rfl
    rw [hl]
    have ht : tailB (2, 128, 191).2.1 (2, 128, 191).2.2 ((195 :: (b :: l ++ [97]) : List UInt8).getD 1 0) = false := by
      show tailB 128 191 b = false
      unfold tailB
      rw [Bool.and_eq_false_iff]
      rcases hb with h | h
      · left; simp; omega
      · right; simp; omega
    rw [ht]; simp
structure TxtS (w0 : World) (b o : Nat) (x y : Tok) (w : World) : Prop where
  bel : Below w0.heap.size w0 w
  u8 : U8T w
  row : TRow w (some ⟨b, o, none⟩) [x, y]
theorem TxtS.later {w0 w w' : World} {b o : Nat} {x y : Tok} (h : TxtS w0 b o x y w) (hb : Below w.heap.size w w') : TxtS w0 b o x y w' := ⟨h.bel.trans (hb.mono h.bel.size), h.u8.later hb, h.row.later hb⟩
def TxL (l : List UInt8) (i : Value) : Prop := ∃ k : Nat, k ≤ l.length ∧ i = .int .i64 (k : Int) ∧ (34 : UInt8) ∉ l.take k
set_option maxHeartbeats 16000000 in
set_option maxRecDepth 1000000 in
theorem lextexts_walk (l : List UInt8) (w : World) (hT : U8T w) (hl : l.length ≤ 9223372036854775807) :
    Calls Tryd.prog 10 #[.string (bs l)] w (Ans w (.bool true)) := by
  have HT := Lib.hid hT
  clear hT
  go_enter Tryd.func10, Tryd.ntmps10
  by_cases h3 : 300 < l.length
  · have hz : ((bs l).size : Int) > 300 := by rw [bs_size]; omega
    go_wp2_with fail
    refine (awake3_any _ HT.out).mono ?_; rintro e w1 ⟨rfl, hb⟩
    go_wp2_with fail
    refine (awake3_any _ (HT.out.later hb)).mono ?_; rintro e w2 ⟨rfl, hb2⟩
    have HF := Lib.hid (hb.trans (hb2.mono hb.size))
    clear hb hb2
    go_wp2
    go_ret
    exact ⟨rfl, HF.out⟩
  · have hz : ¬ ((bs l).size : Int) > 300 := by rw [bs_size]; omega
    have hsz : (bs l).size ≤ 300 := by rw [bs_size]; omega
    go_wp2_with fail
    refine (awake3_any _ HT.out).mono ?_; rintro e w1 ⟨rfl, hb⟩
    have HT1 := Lib.hid (HT.out.later hb)
    have HB1 := Lib.hid hb
    clear hb
    go_wp2
    go_loop [3] (TxL l) (fun i => l.length - (intOf i).toNat)
    case atStart => exact ⟨0, Nat.zero_le _, rfl, by simp⟩
    case round =>
      obtain ⟨k, hk, rfl, h34⟩ := hrel
      have H34 := Lib.hid h34
      by_cases hlt : k < l.length
      · have hltz : (k : Int) < ((bs l).size : Int) := by rw [bs_size]; omega
        have hltn : k < (bs l).size := by rw [bs_size]; exact hlt
        have hget : (bs l)[k]'hltn = l.getD k 0 := by rw [bs_get]; simp [hlt]
        have hsuc : l.take (k + 1) = l.take k ++ [l.getD k 0] := by rw [List.take_succ_eq_append_getElem hlt]; simp [hlt]
        have HSU := Lib.hid hsuc
        clear h34 hsuc
        generalize l.getD k 0 = c at *
        by_cases hc : c = 34
        · subst hc
          go_wp2
          go_ret
          exact ⟨rfl, HB1.out⟩
        · have hcz : ((c.toNat : Int) == 34) = false := by
            rw [beq_eq_false_iff_ne]; intro e; apply hc; apply UInt8.toNat_inj.1; show c.toNat = 34; omega
          have HC := Lib.hid hc
          clear hc
          go_wp2
          go_round
          case rel => exact ⟨k + 1, by omega, by go_num, by rw [HSU.out]; simp only [List.mem_append, List.mem_singleton, not_or]; exact ⟨H34.out, Ne.symm HC.out⟩⟩
          case measure => simp [intOf]; omega
      · obtain rfl : k = l.length := by omega
        rw [List.take_length] at h34 H34
        have hcat : (⟨#[32, 32, 34]⟩ : ByteArray) ++ bs l ++ ⟨#[34]⟩ = bs (32 :: 32 :: 34 :: (l ++ [34])) := by
          show bs [32, 32, 34] ++ bs l ++ bs [34] = _
          rw [bs_append, bs_append]; rfl
        clear h34
        by_cases hgood : l ≠ [] ∧ utf8L l = true
        · have hu := hgood.2
          have h0 := hgood.1
          have HR := Lib.hid (txt_ok H34.out h0 hu)
          have HA : Hid (∀ w, U8T w → Calls Tryd.prog 26 #[.string (bs l)] w (Ans w (.bool true))) := fun w h => by
            have := utf8_any (bs l) w (by omega) h
            rwa [bs_data, hu] at this
          have HA2 : Hid (∀ w, U8T w → Calls Tryd.prog 26 #[.string (bs l ++ bs l)] w (Ans w (.bool true))) := fun w h => by
            have := utf8_any (bs (l ++ l)) w (by rw [bs_size]; simp; omega) h
            rwa [bs_data, utf8_two hu, hu, ← bs_append] at this
          have HA3 : Hid (∀ w, U8T w → Calls Tryd.prog 26 #[.string (bs l ++ ⟨#[255]⟩)] w (Ans w (.bool false))) := fun w h => by
            have := utf8_any (bs (l ++ [255])) w (by rw [bs_size]; simp; omega) h
            rwa [bs_data, utf_ff hu, ← bs_append] at this
          have HA4 : Hid (∀ w, U8T w → Calls Tryd.prog 26 #[.string (⟨#[195]⟩ ++ bs l ++ ⟨#[97]⟩)] w (Ans w (.bool false))) := fun w h => by
            have := utf8_any (bs (195 :: (l ++ [97]))) w (by rw [bs_size]; simp; omega) h
            rw [bs_data, utf_c3 h0 hu] at this
            rwa [show bs (195 :: (l ++ [97])) = ⟨#[195]⟩ ++ bs l ++ ⟨#[97]⟩ from by
              show _ = bs [195] ++ bs l ++ bs [97]
              rw [bs_append, bs_append]; rfl] at this
          have hpz : ((bs l).size : Int) > 0 := by
            rw [bs_size]; have := List.length_pos_iff.2 h0; omega
          have hs1 : ¬ 9223372036854775807 < (bs l).size + (bs l).size := by omega
          have hs2 : ¬ 9223372036854775807 < (bs l).size + 1 := by omega
          have hs3 : ¬ 9223372036854775807 < 1 + (bs l).size := by omega
          have hs4 : ¬ 9223372036854775807 < 1 + (bs l).size + 1 := by omega
          clear hgood h0 hu
          go_wp2_with fail
          refine (read_ok HR.out _ HT1.out (by simp; omega)).mono ?_; rintro e w2 ⟨A, c, rfl, hr, hb⟩
          obtain ⟨b, o, rfl, _, _⟩ := hr 0 (by simp)
          have HX : Hid (Value.agg #[.int .i64 2, .int .i64 2, .int .u64 0, .int .u64 0, .int .u64 0, .int .u64 0, .string (bs l), .int .i64 0, .int .i64 0] = .agg (tokC ({ kind := 2, at_ := 2, text := l } : Tok))) := by
            unfold Hid tokC
            simp only [show wd 0#256 0 = 0 from by decide, show wd 0#256 1 = 0 from by decide, show wd 0#256 2 = 0 from by decide, show wd 0#256 3 = 0 from by decide]; rfl
          generalize ({ kind := 2, at_ := 2, text := l } : Tok) = x at *
          generalize ({ kind := 10, at_ := 4 + l.length } : Tok) = y at *
          have HU : Hid (TxtS w b o x y w2) := ⟨HB1.out.trans (hb.mono HB1.out.size), HT1.out.later hb, hr⟩
          clear hr hb
          go_wp2_with fail
          refine (HA.out _ HU.out.u8).mono ?_; rintro e w3 ⟨rfl, hb⟩
          have HV := Lib.hid (HU.out.later hb)
          clear hb
          go_upto_region 12 with (fail)
          refine wp_region_stable (S := (TxtS w b o x y)) (hSt := fun _ _ h hb => h.later hb) (plan := [[(5, none)], [(54, some 0)], [(55, some 1)], [(4, none)], [(57, some 3)], [(58, some 4)], [(56, some 2), (59, some 5)], [(60, some 6)], [(4, none)], [(62, some 8)], [(63, some 9)], [(0, none)], [(65, some 11)], [(64, some 10), (66, some 12)], [(61, some 7), (67, some 13)], [(68, some 14)], [(0, none)], [(0, none)], [(70, some 16), (71, some 17)], [(72, some 18)], [(69, some 15), (73, some 19)], [(74, some 20)], [(0, none)], [(76, some 22)], [(77, some 23)], [(78, some 24)], [(75, some 21), (79, some 25)], [(80, some 26)], [(0, none)], [(82, some 28)], [(83, some 29)], [(84, some 30)], [(85, some 31)], [(81, some 27), (86, some 32)], [(87, some 33)]]) (by kernel_rfl) (by kernel_rfl) (by kernel_rfl) ?hS ?_
          rotate_left
          iterate 35 first
            | (refine chain_skip (by rfl) (by rfl) ?_)
            | (apply chain_want (by rfl)
               · intro act wx hS hr
                 simp at hr
                 have g := hS.row.at (i := 0) (by simp) rfl
                 have hq := fun w => eql_tok x x w
                 have hg := fun o1 o2 w => eqGuard_eql_tok o1 o2 x x w
                 have hB := HX.out
                 rw [decide_eq_true rfl] at hq
                 rw [Nat.zero_mul, Nat.add_zero] at g
                 unfold At9 at g
                 go_simp
                 (try go_ints)
                 first
                   | exact Done.same (v := .agg (tokC x))
                   | ((with_reducible refine (HA2.out _ hS.u8).mono ?_); rintro e w' ⟨rfl, hb⟩; exact Done.mk hb)
                   | ((with_reducible refine (HA3.out _ hS.u8).mono ?_); rintro e w' ⟨rfl, hb⟩; exact Done.mk hb)
                   | ((with_reducible refine (HA4.out _ hS.u8).mono ?_); rintro e w' ⟨rfl, hb⟩; exact Done.mk hb)
                   | exact Done.same
              )
          show ∀ w', _ → _
          intro wz hz
          simp [Act.put]
          case hS => exact HV.out
          have HZ := Lib.hid hz
          clear hz
          go_wp2
          go_ret
          exact ⟨rfl, HZ.out.bel⟩
        · have hbd : l = [] ∨ utf8L l = false := by
            by_cases h0 : l = []
            · exact .inl h0
            · right; cases hu : utf8L l with
              | false => rfl
              | true => exact absurd ⟨h0, hu⟩ hgood
          have HR := Lib.hid (txt_bad H34.out hbd)
          clear hgood
          go_wp2_with fail
          refine (read_bad HR.out _ HT1.out (by simp; omega)).mono ?_; rintro e w2 ⟨rfl, hb⟩
          have HT2 := Lib.hid (HT1.out.later hb)
          have HB2 := Lib.hid (HB1.out.trans (hb.mono HB1.out.size))
          clear hb
          by_cases h0 : l = []
          · have hpz : ¬ ((bs l).size : Int) > 0 := by rw [h0]; decide
            clear h0 hbd
            go_wp2
            go_ret
            exact ⟨rfl, HB2.out⟩
          · have hpz : ((bs l).size : Int) > 0 := by
              rw [bs_size]; have := List.length_pos_iff.2 h0; omega
            have hu : utf8L l = false := hbd.resolve_left h0
            have HA : Hid (∀ w, U8T w → Calls Tryd.prog 26 #[.string (bs l)] w (Ans w (.bool false))) := fun w h => by
              have := utf8_any (bs l) w (by omega) h
              rwa [bs_data, hu] at this
            clear h0 hbd hu
            go_wp2_with fail
            refine (HA.out _ HT2.out).mono ?_; rintro e w3 ⟨rfl, hb⟩
            have HB3 := Lib.hid (HB2.out.trans (hb.mono HB2.out.size))
            clear hb
            go_wp2
            go_ret
            exact ⟨rfl, HB3.out⟩
end Go.Proofs.YtdglimajelbflaaDoor
