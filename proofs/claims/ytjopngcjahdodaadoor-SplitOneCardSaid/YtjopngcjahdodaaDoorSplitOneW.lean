/- The statement SplitOne of layer 2, walked. -/
import Derived.Test.YtjopngcjahdodaaDoorSplitAwake
import Derived.Test.YtjopngcjahdodaaDoorSplitOneM
namespace Go.Proofs.YtjopngcjahdodaaDoor
open Go Go.RowKit
set_option linter.unusedVariables false

/-- What stands through the call: the class, what it hasn't, and the parts of it. -/
structure OneS (w0 : World) (a : BitVec 256) (A : Option Addr) (bn : Nat) (w : World) : Prop where
  below : Below w0.heap.size w0 w
  deb : Deb w
  box : Blk w w0.heap.size (cells4 a) 25
  nbox : Blk w bn (cells4 (~~~a)) 25
  row : LRow w A (partsL [a])
theorem OneS.later {w0 w w' : World} {a : BitVec 256} {A : Option Addr} {bn : Nat} (h : OneS w0 a A bn w) (hb : Below w.heap.size w w') : OneS w0 a A bn w' :=
  ⟨h.below.trans (hb.mono h.below.size), h.deb.below hb, h.box.later hb, h.nbox.later hb, h.row.later hb⟩
def OneL (w0 : World) (a : BitVec 256) (A : Option Addr) (bn : Nat) (s i : Value) (w : World) : Prop := ∃ k, k ≤ (partsL [a]).length ∧ s = .int .i64 k ∧ i = .int .i64 k ∧ OneS w0 a A bn w
/-- The list grows. -/
def OneG (a : BitVec 256) (wB : World) (v s i : Value) (w : World) : Prop := ∃ k, k ≤ 256 ∧ s = .int .i64 ((bytesOf a k).length : Nat) ∧ i = .int .i64 k ∧ OwnC w wB.heap.size v (singles a k) ∧ Below wB.heap.size wB w
structure OneE (w0 : World) (a : BitVec 256) (A : Option Addr) (bn : Nat) (v : Value) (w : World) : Prop where
  s : OneS w0 a A bn w
  r : IsRow (singles a 256) v w
theorem OneE.later {w0 w w' : World} {a : BitVec 256} {A : Option Addr} {bn : Nat} {v : Value} (h : OneE w0 a A bn v w) (hb : Below w.heap.size w w') : OneE w0 a A bn v w' := ⟨h.s.later hb, IsRow.later _ _ _ _ h.r hb⟩

set_option maxRecDepth 1000000 in
set_option maxHeartbeats 32000000 in
theorem splitone_walk (a : BitVec 256) (w : World) (hd : Deb w) : Calls Tryd.prog 8 #[cls a] w (Ans w (.bool true)) := by
  have HD := Lib.hid hd
  clear hd
  have hneq := neq_cls
  have hgn := eqGuard_neq
  have heq := eql_cls
  have hge := eqGuard_eql
  unfold cls
  go_enter Tryd.func8, Tryd.ntmps8
  go_wp2_with fail
  refine (awake2_any _ (HD.out.alloc _)).mono ?_; rintro e w1 ⟨rfl, hb⟩
  have q1 : Below w.heap.size w w1 := ((Below.refl _ _).alloc (Nat.le_refl _) _).trans (hb.mono (by simp))
  have d1 : Deb w1 := (HD.out.alloc _).below hb
  have c1 := (Blk.new w (cells4 a) 25).later hb
  have g1 := c1.cells
  have n1 := c1.lt
  have HQ1 := Lib.hid (And.intro q1 (And.intro d1 c1))
  clear q1 d1 c1 hb
  go_wp2_with fail
  have hrn := row_new1 a w1
  have z1 : Below w1.heap.size w1 (w1.alloc (.cells (cells4 a) 25)) := (Below.refl _ _).alloc (Nat.le_refl _) _
  refine (parts_row [a] _ _ hrn (HQ1.out.2.1.below z1) (by simp)).mono ?_
  rintro e w2 ⟨v, rfl, ⟨A, capA, rfl, hrA⟩, hb2⟩
  have q2 := (HQ1.out.1.trans (z1.mono HQ1.out.1.size)).trans (hb2.mono (by have := HQ1.out.1.size; simp; omega))
  have c2 := (HQ1.out.2.2.later z1).later hb2
  have g2 := c2.cells
  have n2 := c2.lt
  have HQ2 := Lib.hid (And.intro q2 (And.intro ((HQ1.out.2.1.below z1).below hb2) (And.intro c2 hrA)))
  clear q2 c2 hrn z1 hb2 hrA g1 n1
  go_wp2_with fail
  refine (refnot_any a _).mono ?_; rintro e w3 ⟨rfl, hb3⟩
  have HS : Hid (OneS w a A w3.heap.size (w3.alloc (.cells (cells4 (~~~a)) 25))) := by
    have z : Below w3.heap.size w3 (w3.alloc (.cells (cells4 (~~~a)) 25)) := (Below.refl _ _).alloc (Nat.le_refl _) _
    exact ⟨(HQ2.out.1.trans (hb3.mono HQ2.out.1.size)).trans (z.mono (Nat.le_trans HQ2.out.1.size hb3.size)), (HQ2.out.2.1.below hb3).below z, (HQ2.out.2.2.1.later hb3).alloc _, Blk.new _ _ _, (HQ2.out.2.2.2.later hb3).later z⟩
  clear hb3 g2 n2
  have HM := Lib.hid (parts_one_mem a)
  have HL := Lib.hid (parts_one_len a)
  have HPL := Lib.hid (parts_length [a])
  have hle : (partsL [a]).length ≤ 256 := by rw [parts_length]; exact heads_le _
  have HNN := Lib.hid (not_not_bv a)
  unfold cls
  go_wp2_with fail
  generalize w3.heap.size = bn at *
  go_loopw [5, 6] (OneL w a A bn) (fun _ i _ => (partsL [a]).length - (intOf i).toNat)
  case atStart => exact ⟨0, Nat.zero_le _, rfl, rfl, HS.out⟩
  case round =>
    obtain ⟨k, hk, rfl, rfl, hS⟩ := hrel
    clear HS
    have HS := Lib.hid hS
    by_cases hlt : k < (partsL [a]).length
    · have hltz : (k : Int) < ((partsL [a]).length : Int) := by omega
      obtain ⟨b, off, hA, -⟩ := hS.row.cells k hlt
      subst hA
      have hmem : (partsL [a]).getD k 0 ∈ partsL [a] := by simp [hlt]
      have hp := HM.out _ hmem
      have f1 : ∀ w, LRow w (some ⟨b, off, none⟩) (partsL [a]) → At w b (off + k * 4) ((partsL [a]).getD k 0) := fun w h => h.at k _ hlt rfl
      have F1 := Lib.hid f1
      clear f1 hS hmem
      generalize (partsL [a]).getD k 0 = p at *
      by_cases hpa : p = a
      · subst hpa
        go_upto_region 9 with (fail)
        refine wp_region_stable (S := (OneS w p (some ⟨b, off, none⟩) bn)) (hSt := fun _ _ h hb => h.later hb) (plan := [[(3, none)], [(6, none)], [(24, some 0), (25, some 1)], [(26, some 2)], [(1, none)], [(27, some 3), (28, some 4)], [(29, some 5)], [(3, none)], [(6, none)], [(31, some 7), (32, some 8)], [(33, some 9)], [(4, none)], [(34, some 10), (35, some 11)], [(30, some 6), (36, some 12)]]) (by kernel_rfl) (by kernel_rfl) (by kernel_rfl) ?hS ?_
        rotate_left
        iterate 14 first
          | (refine chain_skip (by rfl) (by rfl) ?_)
          | (apply chain_want (by rfl)
             · intro act wx hS hr
               simp at hr
               have h1 := F1.out _ hS.row
               unfold At at h1
               have h2 := hS.box.cells
               have h3 := hS.nbox.cells
               go_simp
               (try go_ints)
               first
                 | exact Done.same (v := cls _)
                 | exact Done.same
            )
        show ∀ w', _ → _
        intro wz hz
        simp [Act.put]
        case hS => exact HS.out
        have HZ := Lib.hid hz
        clear hz hneq hgn heq hge
        go_wp2
        go_roundw
        case rel => exact ⟨k + 1, by omega, by go_num, by go_num, HZ.out⟩
        case measure => simp [intOf]; omega
      · have hpn : (p == ~~~a) = true := by rw [beq_iff_eq]; rcases hp with h | h; exact absurd h hpa; exact h
        have hpa2 : (p == a) = false := by rw [beq_eq_false_iff_ne]; exact hpa
        clear hp hpa
        go_upto_region 9 with (fail)
        refine wp_region_stable (S := (OneS w a (some ⟨b, off, none⟩) bn)) (hSt := fun _ _ h hb => h.later hb) (plan := [[(3, none)], [(6, none)], [(24, some 0), (25, some 1)], [(26, some 2)], [(1, none)], [(27, some 3), (28, some 4)], [(29, some 5)], [(3, none)], [(6, none)], [(31, some 7), (32, some 8)], [(33, some 9)], [(4, none)], [(34, some 10), (35, some 11)], [(30, some 6), (36, some 12)]]) (by kernel_rfl) (by kernel_rfl) (by kernel_rfl) ?hS ?_
        rotate_left
        iterate 14 first
          | (refine chain_skip (by rfl) (by rfl) ?_)
          | (apply chain_want (by rfl)
             · intro act wx hS hr
               simp at hr
               have h1 := F1.out _ hS.row
               unfold At at h1
               have h2 := hS.box.cells
               have h3 := hS.nbox.cells
               go_simp
               (try go_ints)
               first
                 | exact Done.same (v := cls _)
                 | exact Done.same
            )
        show ∀ w', _ → _
        intro wz hz
        simp [Act.put]
        case hS => exact HS.out
        have HZ := Lib.hid hz
        clear hz hneq hgn heq hge
        go_wp2
        go_roundw
        case rel => exact ⟨k + 1, by omega, by go_num, by go_num, HZ.out⟩
        case measure => simp [intOf]; omega
    · obtain rfl : k = (partsL [a]).length := by omega
      clear hS
      have hlen : ((partsL [a]).length : Int) = (wantN a : Int) := by rw [HPL.out, HL.out]
      have HLEN := Lib.hid hlen
      clear hlen
      generalize (partsL [a]).length = len at *
      cases h0 : (a == 0#256) with
      | true =>
        have hn : ((len : Int) != 1) = false := by
          rw [bne_eq_false_iff_eq, HLEN.out]; unfold wantN; rw [beq_iff_eq] at h0; rw [if_pos (.inl h0)]; rfl
        go_upto_region 13 with (fail)
        refine wp_region_stable (S := (OneS w a A bn)) (hSt := fun _ _ h hb => h.later hb) (plan := [[(1, none)], [], [(40, some 0), (41, some 1)], [(42, some 2)], [(4, none)], [], [(44, some 4), (45, some 5)], [(43, some 3), (46, some 6)]]) (by kernel_rfl) (by kernel_rfl) (by kernel_rfl) ?hS ?_
        rotate_left
        iterate 8 first
          | (refine chain_skip (by rfl) (by rfl) ?_)
          | (apply chain_want (by rfl)
             · intro act wx hS hr
               simp at hr
               have h2 := hS.box.cells
               have h3 := hS.nbox.cells
               go_simp
               (try go_ints)
               first
                 | exact Done.same (v := cls _)
                 | (rw [lit0]; exact Done.same)
                 | exact Done.same
            )
        show ∀ w', _ → _
        intro wz hz
        simp [Act.put]
        case hS => exact HS.out
        have HZ := Lib.hid hz
        have hb0 := hz.box.cells
        clear hz HS
        go_wp2_with fail
        have HO0 : Hid (OwnC (wz.alloc (.cells (cells4 a) 25)) wz.heap.size (.slice (some ⟨wz.heap.size, 0, none⟩) 1 1) (singles a 0)) :=
          ⟨rfl, .inr ⟨wz.heap.size, 1, cells4 a, rfl, Nat.le_refl _, Blk.new wz (cells4 a) 25, by simp [singles, bytesOf], by unfold maxLen; omega, rfl, rfl⟩⟩
        have HB0 : Hid (Below wz.heap.size wz (wz.alloc (.cells (cells4 a) 25))) := (Below.refl _ _).alloc (Nat.le_refl _) _
        clear hb0
        go_loopw [8, 9, 10] (OneG a wz) (fun _ _ i _ => 256 - (intOf i).toNat)
        case atStart => exact ⟨0, by omega, rfl, rfl, HO0.out, HB0.out⟩
        case round =>
          obtain ⟨k, hk, rfl, rfl, ho, hb⟩ := hrel
          have HO := Lib.hid ho
          have HB := Lib.hid hb
          have hS := HZ.out.later hb
          have hsB := hb.size
          have hbl := bytesOf_le a k
          clear ho hb
          by_cases hk2 : k < 256
          · have k0 : (0 : Int) ≤ (k : Int) := by omega
            have k1 : (k : Int) ≤ 255 := by omega
            have kz : (k : Int) < 256 := by omega
            have HY := Lib.hid (singles_yes (a := a) (k := k))
            have HN := Lib.hid (singles_no (a := a) (k := k))
            have HBS := Lib.hid (bytesOf_succ a k)
            have hsl := singles_length a k
            have HSLK := Lib.hid hsl
            clear hsl
            have hhas := refhas_any a k hk2
            have HH := Lib.hid hhas
            have g2 := hS.box.cells
            have n2 := hS.box.lt
            clear hhas hS
            cases hbit : a.getLsbD k with
            | true =>
              have HYE := Lib.hid (HY.out hbit)
              have HBE : Hid ((bytesOf a (k + 1)).length = (bytesOf a k).length + 1) := by unfold Hid; rw [HBS.out, hbit]; simp
              clear HY HN HBS
              go_wp2_with fail
              refine (HH.out _).mono ?_; rintro e w4 ⟨rfl, hb4⟩
              rw [hbit]
              go_wp2_with fail
              refine (refrow_any k k hk2 hk2 _).mono ?_; rintro e w5 ⟨rfl, hb5⟩
              have zz := hb4.trans (hb5.mono hb4.size)
              have HO5 := Lib.hid ((HO.out.later zz).later ((Below.refl _ _).alloc (Nat.le_refl _) (.cells (cells4 (rowB k k)) 25)))
              have HB5 := Lib.hid ((HB.out.trans (zz.mono hsB)).alloc (Nat.le_trans hsB zz.size) (.cells (cells4 (rowB k k)) 25))
              have HBK := Lib.hid (Blk.new w5 (cells4 (rowB k k)) 25)
              have hBs : wz.heap.size ≤ (w5.alloc (.cells (cells4 (rowB k k)) 25)).heap.size := by have := zz.size; simp; omega
              have hlen2 : (singles a k).length < 1073741824 := by rw [HSLK.out]; omega
              clear hb4 hb5 zz g2
              generalize rowB k k = rk at *
              unfold cells4 at HO5 HB5 HBK hBs
              unfold cls
              go_wp2_with (at_builtin; refine wpList_append_cls rfl _ _ rfl wz.heap.size _ (singles a k) rfl HO5.out w5.heap.size rk rfl HBK.out hlen2 hBs ?_; intro v' w7 ho7 hb7)
              have hB7 := (hb7 _ (Nat.le_refl _))
              have HG : Hid (OneG a wz v' (.int .i64 (((bytesOf a k).length : Nat) + 1)) (.int .i64 ((k + 1 : Nat) : Int)) w7) :=
                ⟨k + 1, by omega, by rw [HBE.out]; rfl, rfl, by rw [HYE.out]; exact ho7, HB5.out.trans hB7⟩
              clear ho7 hb7 hB7
              go_wp2
              go_roundw
              case rel => first | exact HG.out | ((repeat apply Exists.intro); exact ⟨HG.out, rfl⟩)
              case measure => simp [intOf]; omega
            | false =>
              have HNE := Lib.hid (HN.out hbit)
              have HBE : Hid ((bytesOf a (k + 1)).length = (bytesOf a k).length) := by unfold Hid; rw [HBS.out, hbit]; simp
              clear HY HN HBS
              go_wp2_with fail
              refine (HH.out _).mono ?_; rintro e w4 ⟨rfl, hb4⟩
              rw [hbit]
              have HG : Hid (OneG a wz u8 (.int .i64 ((bytesOf a k).length : Nat)) (.int .i64 ((k + 1 : Nat) : Int)) w4) :=
                ⟨k + 1, by omega, by rw [HBE.out], rfl, by rw [HNE.out]; exact HO.out.later hb4, HB.out.trans (hb4.mono hsB)⟩
              clear hb4 g2
              go_wp2
              go_roundw
              case rel => first | exact HG.out | ((repeat apply Exists.intro); exact ⟨HG.out, rfl⟩)
              case measure => simp [intOf]; omega
          · obtain rfl : k = 256 := by omega
            have HSL := Lib.hid (singles_len a)
            have HE : Hid (OneE w a A bn u8 wr) := ⟨hS, HO.out.isRow⟩
            have hsl := singles_length a 256
            clear hS HO HB HO0 HB0 HZ
            generalize (bytesOf a 256).length = NB at *
            cases ht : (~~~a == 0#256) with
            | true =>
              have htn : tailN a = 0 := by unfold tailN; rw [beq_iff_eq] at ht; rw [if_pos ht]
              have HTN := Lib.hid htn
              clear htn
              (try (exfalso; rw [ht] at h1; cases h1; done))
              all_goals
                go_upto_region 25 with (fail)
                refine wp_region_stable (S := (OneE w a A bn u8)) (hSt := fun _ _ h hb => h.later hb) (plan := [[(4, none)], [], [(71, some 0), (72, some 1)]]) (by kernel_rfl) (by kernel_rfl) (by kernel_rfl) ?hS ?_
                rotate_left
                iterate 3 first
                  | (refine chain_skip (by rfl) (by rfl) ?_)
                  | (apply chain_want (by rfl)
                     · intro act wx hS hr
                       simp at hr
                       have h3 := hS.s.nbox.cells
                       go_simp
                       (try go_ints)
                       first
                         | exact Done.same (v := cls _)
                         | (rw [lit0]; exact Done.same)
                         | exact Done.same
                    )
                show ∀ w', _ → _
                intro wz hz
                simp [Act.put]
                case hS => exact HE.out
                have HZZ := Lib.hid hz
                clear hz HE
                cases hG : decide (40 < NB) with
                | true =>
                  rw [decide_eq_true_eq] at hG
                  have hGz : (NB : Int) > 40 := by omega
                  clear hneq hgn heq hge
                  go_wp2
                  go_ret
                  exact ⟨rfl, HZZ.out.s.below⟩
                | false =>
                  rw [decide_eq_false_iff_not] at hG
                  have hGz : ¬ (NB : Int) > 40 := by omega
                  clear hneq hgn heq hge
                  go_wp2_with fail
                  refine (parts_row (singles a 256) _ _ HZZ.out.r HZZ.out.s.deb (by rw [hsl]; omega)).mono ?_
                  rintro e w6 ⟨v6, rfl, ⟨a6, c6, rfl, hr6⟩, hb6⟩
                  rw [parts_length, HSL.out]
                  have htt := HTN.out
                  (try have hn2 := HN2.out)
                  rw [htt]
                  have hNz : ((NB + 0 : Nat) : Int) = (NB : Int) := by omega
                  have hNb : (((NB + 0 : Nat) : Int) == (NB : Int)) = true := by rw [beq_iff_eq]; exact hNz
                  have HF := Lib.hid (HZZ.out.s.below.trans (hb6.mono HZZ.out.s.below.size))
                  clear hb6 hr6 hNz htt
                  (try clear hn2)
                  go_wp2
                  go_ret
                  exact ⟨rfl, HF.out⟩
            | false =>
              have htn : tailN a = 1 := by unfold tailN; rw [beq_eq_false_iff_ne] at ht; rw [if_neg ht]
              have HTN := Lib.hid htn
              clear htn
              (try (exfalso; rw [ht] at h1; cases h1; done))
              all_goals
                go_upto_region 25 with (fail)
                refine wp_region_stable (S := (OneE w a A bn u8)) (hSt := fun _ _ h hb => h.later hb) (plan := [[(4, none)], [], [(71, some 0), (72, some 1)]]) (by kernel_rfl) (by kernel_rfl) (by kernel_rfl) ?hS ?_
                rotate_left
                iterate 3 first
                  | (refine chain_skip (by rfl) (by rfl) ?_)
                  | (apply chain_want (by rfl)
                     · intro act wx hS hr
                       simp at hr
                       have h3 := hS.s.nbox.cells
                       go_simp
                       (try go_ints)
                       first
                         | exact Done.same (v := cls _)
                         | (rw [lit0]; exact Done.same)
                         | exact Done.same
                    )
                show ∀ w', _ → _
                intro wz hz
                simp [Act.put]
                case hS => exact HE.out
                have HZZ := Lib.hid hz
                clear hz HE
                obtain ⟨N1, hN1, hN2⟩ : ∃ N1 : Nat, (NB : Int) + 1 = (N1 : Int) ∧ N1 = NB + 1 := ⟨NB + 1, by omega, rfl⟩
                have HN2 := Lib.hid hN2
                clear hN2
                cases hG : decide (40 < N1) with
                | true =>
                  rw [decide_eq_true_eq] at hG
                  have hGz : (N1 : Int) > 40 := by omega
                  clear hneq hgn heq hge
                  go_wp2
                  go_ret
                  exact ⟨rfl, HZZ.out.s.below⟩
                | false =>
                  rw [decide_eq_false_iff_not] at hG
                  have hGz : ¬ (N1 : Int) > 40 := by omega
                  clear hneq hgn heq hge
                  go_wp2_with fail
                  refine (parts_row (singles a 256) _ _ HZZ.out.r HZZ.out.s.deb (by rw [hsl]; omega)).mono ?_
                  rintro e w6 ⟨v6, rfl, ⟨a6, c6, rfl, hr6⟩, hb6⟩
                  rw [parts_length, HSL.out]
                  have htt := HTN.out
                  (try have hn2 := HN2.out)
                  rw [htt]
                  have hNz : ((NB + 1 : Nat) : Int) = (N1 : Int) := by omega
                  have hNb : (((NB + 1 : Nat) : Int) == (N1 : Int)) = true := by rw [beq_iff_eq]; exact hNz
                  have HF := Lib.hid (HZZ.out.s.below.trans (hb6.mono HZZ.out.s.below.size))
                  clear hb6 hr6 hNz htt
                  (try clear hn2)
                  go_wp2
                  go_ret
                  exact ⟨rfl, HF.out⟩
      | false =>
        cases h1 : (~~~a == 0#256) with
        | true =>
          have hn : ((len : Int) != 1) = false := by
            rw [bne_eq_false_iff_eq, HLEN.out]; unfold wantN; rw [beq_iff_eq] at h1; rw [if_pos (.inr h1)]; rfl
          go_upto_region 13 with (fail)
          refine wp_region_stable (S := (OneS w a A bn)) (hSt := fun _ _ h hb => h.later hb) (plan := [[(1, none)], [], [(40, some 0), (41, some 1)], [(42, some 2)], [(4, none)], [], [(44, some 4), (45, some 5)], [(43, some 3), (46, some 6)]]) (by kernel_rfl) (by kernel_rfl) (by kernel_rfl) ?hS ?_
          rotate_left
          iterate 8 first
            | (refine chain_skip (by rfl) (by rfl) ?_)
            | (apply chain_want (by rfl)
               · intro act wx hS hr
                 simp at hr
                 have h2 := hS.box.cells
                 have h3 := hS.nbox.cells
                 go_simp
                 (try go_ints)
                 first
                   | exact Done.same (v := cls _)
                   | (rw [lit0]; exact Done.same)
                   | exact Done.same
              )
          show ∀ w', _ → _
          intro wz hz
          simp [Act.put]
          case hS => exact HS.out
          have HZ := Lib.hid hz
          have hb0 := hz.box.cells
          clear hz HS
          go_wp2_with fail
          have HO0 : Hid (OwnC (wz.alloc (.cells (cells4 a) 25)) wz.heap.size (.slice (some ⟨wz.heap.size, 0, none⟩) 1 1) (singles a 0)) :=
            ⟨rfl, .inr ⟨wz.heap.size, 1, cells4 a, rfl, Nat.le_refl _, Blk.new wz (cells4 a) 25, by simp [singles, bytesOf], by unfold maxLen; omega, rfl, rfl⟩⟩
          have HB0 : Hid (Below wz.heap.size wz (wz.alloc (.cells (cells4 a) 25))) := (Below.refl _ _).alloc (Nat.le_refl _) _
          clear hb0
          go_loopw [8, 9, 10] (OneG a wz) (fun _ _ i _ => 256 - (intOf i).toNat)
          case atStart => exact ⟨0, by omega, rfl, rfl, HO0.out, HB0.out⟩
          case round =>
            obtain ⟨k, hk, rfl, rfl, ho, hb⟩ := hrel
            have HO := Lib.hid ho
            have HB := Lib.hid hb
            have hS := HZ.out.later hb
            have hsB := hb.size
            have hbl := bytesOf_le a k
            clear ho hb
            by_cases hk2 : k < 256
            · have k0 : (0 : Int) ≤ (k : Int) := by omega
              have k1 : (k : Int) ≤ 255 := by omega
              have kz : (k : Int) < 256 := by omega
              have HY := Lib.hid (singles_yes (a := a) (k := k))
              have HN := Lib.hid (singles_no (a := a) (k := k))
              have HBS := Lib.hid (bytesOf_succ a k)
              have hsl := singles_length a k
              have HSLK := Lib.hid hsl
              clear hsl
              have hhas := refhas_any a k hk2
              have HH := Lib.hid hhas
              have g2 := hS.box.cells
              have n2 := hS.box.lt
              clear hhas hS
              cases hbit : a.getLsbD k with
              | true =>
                have HYE := Lib.hid (HY.out hbit)
                have HBE : Hid ((bytesOf a (k + 1)).length = (bytesOf a k).length + 1) := by unfold Hid; rw [HBS.out, hbit]; simp
                clear HY HN HBS
                go_wp2_with fail
                refine (HH.out _).mono ?_; rintro e w4 ⟨rfl, hb4⟩
                rw [hbit]
                go_wp2_with fail
                refine (refrow_any k k hk2 hk2 _).mono ?_; rintro e w5 ⟨rfl, hb5⟩
                have zz := hb4.trans (hb5.mono hb4.size)
                have HO5 := Lib.hid ((HO.out.later zz).later ((Below.refl _ _).alloc (Nat.le_refl _) (.cells (cells4 (rowB k k)) 25)))
                have HB5 := Lib.hid ((HB.out.trans (zz.mono hsB)).alloc (Nat.le_trans hsB zz.size) (.cells (cells4 (rowB k k)) 25))
                have HBK := Lib.hid (Blk.new w5 (cells4 (rowB k k)) 25)
                have hBs : wz.heap.size ≤ (w5.alloc (.cells (cells4 (rowB k k)) 25)).heap.size := by have := zz.size; simp; omega
                have hlen2 : (singles a k).length < 1073741824 := by rw [HSLK.out]; omega
                clear hb4 hb5 zz g2
                generalize rowB k k = rk at *
                unfold cells4 at HO5 HB5 HBK hBs
                unfold cls
                go_wp2_with (at_builtin; refine wpList_append_cls rfl _ _ rfl wz.heap.size _ (singles a k) rfl HO5.out w5.heap.size rk rfl HBK.out hlen2 hBs ?_; intro v' w7 ho7 hb7)
                have hB7 := (hb7 _ (Nat.le_refl _))
                have HG : Hid (OneG a wz v' (.int .i64 (((bytesOf a k).length : Nat) + 1)) (.int .i64 ((k + 1 : Nat) : Int)) w7) :=
                  ⟨k + 1, by omega, by rw [HBE.out]; rfl, rfl, by rw [HYE.out]; exact ho7, HB5.out.trans hB7⟩
                clear ho7 hb7 hB7
                go_wp2
                go_roundw
                case rel => first | exact HG.out | ((repeat apply Exists.intro); exact ⟨HG.out, rfl⟩)
                case measure => simp [intOf]; omega
              | false =>
                have HNE := Lib.hid (HN.out hbit)
                have HBE : Hid ((bytesOf a (k + 1)).length = (bytesOf a k).length) := by unfold Hid; rw [HBS.out, hbit]; simp
                clear HY HN HBS
                go_wp2_with fail
                refine (HH.out _).mono ?_; rintro e w4 ⟨rfl, hb4⟩
                rw [hbit]
                have HG : Hid (OneG a wz u8 (.int .i64 ((bytesOf a k).length : Nat)) (.int .i64 ((k + 1 : Nat) : Int)) w4) :=
                  ⟨k + 1, by omega, by rw [HBE.out], rfl, by rw [HNE.out]; exact HO.out.later hb4, HB.out.trans (hb4.mono hsB)⟩
                clear hb4 g2
                go_wp2
                go_roundw
                case rel => first | exact HG.out | ((repeat apply Exists.intro); exact ⟨HG.out, rfl⟩)
                case measure => simp [intOf]; omega
            · obtain rfl : k = 256 := by omega
              have HSL := Lib.hid (singles_len a)
              have HE : Hid (OneE w a A bn u8 wr) := ⟨hS, HO.out.isRow⟩
              have hsl := singles_length a 256
              clear hS HO HB HO0 HB0 HZ
              generalize (bytesOf a 256).length = NB at *
              cases ht : (~~~a == 0#256) with
              | true =>
                have htn : tailN a = 0 := by unfold tailN; rw [beq_iff_eq] at ht; rw [if_pos ht]
                have HTN := Lib.hid htn
                clear htn
                (try (exfalso; rw [ht] at h1; cases h1; done))
                all_goals
                  go_upto_region 25 with (fail)
                  refine wp_region_stable (S := (OneE w a A bn u8)) (hSt := fun _ _ h hb => h.later hb) (plan := [[(4, none)], [], [(71, some 0), (72, some 1)]]) (by kernel_rfl) (by kernel_rfl) (by kernel_rfl) ?hS ?_
                  rotate_left
                  iterate 3 first
                    | (refine chain_skip (by rfl) (by rfl) ?_)
                    | (apply chain_want (by rfl)
                       · intro act wx hS hr
                         simp at hr
                         have h3 := hS.s.nbox.cells
                         go_simp
                         (try go_ints)
                         first
                           | exact Done.same (v := cls _)
                           | (rw [lit0]; exact Done.same)
                           | exact Done.same
                      )
                  show ∀ w', _ → _
                  intro wz hz
                  simp [Act.put]
                  case hS => exact HE.out
                  have HZZ := Lib.hid hz
                  clear hz HE
                  cases hG : decide (40 < NB) with
                  | true =>
                    rw [decide_eq_true_eq] at hG
                    have hGz : (NB : Int) > 40 := by omega
                    clear hneq hgn heq hge
                    go_wp2
                    go_ret
                    exact ⟨rfl, HZZ.out.s.below⟩
                  | false =>
                    rw [decide_eq_false_iff_not] at hG
                    have hGz : ¬ (NB : Int) > 40 := by omega
                    clear hneq hgn heq hge
                    go_wp2_with fail
                    refine (parts_row (singles a 256) _ _ HZZ.out.r HZZ.out.s.deb (by rw [hsl]; omega)).mono ?_
                    rintro e w6 ⟨v6, rfl, ⟨a6, c6, rfl, hr6⟩, hb6⟩
                    rw [parts_length, HSL.out]
                    have htt := HTN.out
                    (try have hn2 := HN2.out)
                    rw [htt]
                    have hNz : ((NB + 0 : Nat) : Int) = (NB : Int) := by omega
                    have hNb : (((NB + 0 : Nat) : Int) == (NB : Int)) = true := by rw [beq_iff_eq]; exact hNz
                    have HF := Lib.hid (HZZ.out.s.below.trans (hb6.mono HZZ.out.s.below.size))
                    clear hb6 hr6 hNz htt
                    (try clear hn2)
                    go_wp2
                    go_ret
                    exact ⟨rfl, HF.out⟩
              | false =>
                have htn : tailN a = 1 := by unfold tailN; rw [beq_eq_false_iff_ne] at ht; rw [if_neg ht]
                have HTN := Lib.hid htn
                clear htn
                (try (exfalso; rw [ht] at h1; cases h1; done))
                all_goals
                  go_upto_region 25 with (fail)
                  refine wp_region_stable (S := (OneE w a A bn u8)) (hSt := fun _ _ h hb => h.later hb) (plan := [[(4, none)], [], [(71, some 0), (72, some 1)]]) (by kernel_rfl) (by kernel_rfl) (by kernel_rfl) ?hS ?_
                  rotate_left
                  iterate 3 first
                    | (refine chain_skip (by rfl) (by rfl) ?_)
                    | (apply chain_want (by rfl)
                       · intro act wx hS hr
                         simp at hr
                         have h3 := hS.s.nbox.cells
                         go_simp
                         (try go_ints)
                         first
                           | exact Done.same (v := cls _)
                           | (rw [lit0]; exact Done.same)
                           | exact Done.same
                      )
                  show ∀ w', _ → _
                  intro wz hz
                  simp [Act.put]
                  case hS => exact HE.out
                  have HZZ := Lib.hid hz
                  clear hz HE
                  obtain ⟨N1, hN1, hN2⟩ : ∃ N1 : Nat, (NB : Int) + 1 = (N1 : Int) ∧ N1 = NB + 1 := ⟨NB + 1, by omega, rfl⟩
                  have HN2 := Lib.hid hN2
                  clear hN2
                  cases hG : decide (40 < N1) with
                  | true =>
                    rw [decide_eq_true_eq] at hG
                    have hGz : (N1 : Int) > 40 := by omega
                    clear hneq hgn heq hge
                    go_wp2
                    go_ret
                    exact ⟨rfl, HZZ.out.s.below⟩
                  | false =>
                    rw [decide_eq_false_iff_not] at hG
                    have hGz : ¬ (N1 : Int) > 40 := by omega
                    clear hneq hgn heq hge
                    go_wp2_with fail
                    refine (parts_row (singles a 256) _ _ HZZ.out.r HZZ.out.s.deb (by rw [hsl]; omega)).mono ?_
                    rintro e w6 ⟨v6, rfl, ⟨a6, c6, rfl, hr6⟩, hb6⟩
                    rw [parts_length, HSL.out]
                    have htt := HTN.out
                    (try have hn2 := HN2.out)
                    rw [htt]
                    have hNz : ((NB + 1 : Nat) : Int) = (N1 : Int) := by omega
                    have hNb : (((NB + 1 : Nat) : Int) == (N1 : Int)) = true := by rw [beq_iff_eq]; exact hNz
                    have HF := Lib.hid (HZZ.out.s.below.trans (hb6.mono HZZ.out.s.below.size))
                    clear hb6 hr6 hNz htt
                    (try clear hn2)
                    go_wp2
                    go_ret
                    exact ⟨rfl, HF.out⟩
        | false =>
          have hn : ((len : Int) != 2) = false := by
            rw [bne_eq_false_iff_eq, HLEN.out]; unfold wantN; rw [beq_eq_false_iff_ne] at h0 h1; rw [if_neg (fun h => h.elim h0 h1)]; rfl
          go_upto_region 13 with (fail)
          refine wp_region_stable (S := (OneS w a A bn)) (hSt := fun _ _ h hb => h.later hb) (plan := [[(1, none)], [], [(40, some 0), (41, some 1)], [(42, some 2)], [(4, none)], [], [(44, some 4), (45, some 5)], [(43, some 3), (46, some 6)]]) (by kernel_rfl) (by kernel_rfl) (by kernel_rfl) ?hS ?_
          rotate_left
          iterate 8 first
            | (refine chain_skip (by rfl) (by rfl) ?_)
            | (apply chain_want (by rfl)
               · intro act wx hS hr
                 simp at hr
                 have h2 := hS.box.cells
                 have h3 := hS.nbox.cells
                 go_simp
                 (try go_ints)
                 first
                   | exact Done.same (v := cls _)
                   | (rw [lit0]; exact Done.same)
                   | exact Done.same
              )
          show ∀ w', _ → _
          intro wz hz
          simp [Act.put]
          case hS => exact HS.out
          have HZ := Lib.hid hz
          have hb0 := hz.box.cells
          clear hz HS
          go_wp2_with fail
          have HO0 : Hid (OwnC (wz.alloc (.cells (cells4 a) 25)) wz.heap.size (.slice (some ⟨wz.heap.size, 0, none⟩) 1 1) (singles a 0)) :=
            ⟨rfl, .inr ⟨wz.heap.size, 1, cells4 a, rfl, Nat.le_refl _, Blk.new wz (cells4 a) 25, by simp [singles, bytesOf], by unfold maxLen; omega, rfl, rfl⟩⟩
          have HB0 : Hid (Below wz.heap.size wz (wz.alloc (.cells (cells4 a) 25))) := (Below.refl _ _).alloc (Nat.le_refl _) _
          clear hb0
          go_loopw [8, 9, 10] (OneG a wz) (fun _ _ i _ => 256 - (intOf i).toNat)
          case atStart => exact ⟨0, by omega, rfl, rfl, HO0.out, HB0.out⟩
          case round =>
            obtain ⟨k, hk, rfl, rfl, ho, hb⟩ := hrel
            have HO := Lib.hid ho
            have HB := Lib.hid hb
            have hS := HZ.out.later hb
            have hsB := hb.size
            have hbl := bytesOf_le a k
            clear ho hb
            by_cases hk2 : k < 256
            · have k0 : (0 : Int) ≤ (k : Int) := by omega
              have k1 : (k : Int) ≤ 255 := by omega
              have kz : (k : Int) < 256 := by omega
              have HY := Lib.hid (singles_yes (a := a) (k := k))
              have HN := Lib.hid (singles_no (a := a) (k := k))
              have HBS := Lib.hid (bytesOf_succ a k)
              have hsl := singles_length a k
              have HSLK := Lib.hid hsl
              clear hsl
              have hhas := refhas_any a k hk2
              have HH := Lib.hid hhas
              have g2 := hS.box.cells
              have n2 := hS.box.lt
              clear hhas hS
              cases hbit : a.getLsbD k with
              | true =>
                have HYE := Lib.hid (HY.out hbit)
                have HBE : Hid ((bytesOf a (k + 1)).length = (bytesOf a k).length + 1) := by unfold Hid; rw [HBS.out, hbit]; simp
                clear HY HN HBS
                go_wp2_with fail
                refine (HH.out _).mono ?_; rintro e w4 ⟨rfl, hb4⟩
                rw [hbit]
                go_wp2_with fail
                refine (refrow_any k k hk2 hk2 _).mono ?_; rintro e w5 ⟨rfl, hb5⟩
                have zz := hb4.trans (hb5.mono hb4.size)
                have HO5 := Lib.hid ((HO.out.later zz).later ((Below.refl _ _).alloc (Nat.le_refl _) (.cells (cells4 (rowB k k)) 25)))
                have HB5 := Lib.hid ((HB.out.trans (zz.mono hsB)).alloc (Nat.le_trans hsB zz.size) (.cells (cells4 (rowB k k)) 25))
                have HBK := Lib.hid (Blk.new w5 (cells4 (rowB k k)) 25)
                have hBs : wz.heap.size ≤ (w5.alloc (.cells (cells4 (rowB k k)) 25)).heap.size := by have := zz.size; simp; omega
                have hlen2 : (singles a k).length < 1073741824 := by rw [HSLK.out]; omega
                clear hb4 hb5 zz g2
                generalize rowB k k = rk at *
                unfold cells4 at HO5 HB5 HBK hBs
                unfold cls
                go_wp2_with (at_builtin; refine wpList_append_cls rfl _ _ rfl wz.heap.size _ (singles a k) rfl HO5.out w5.heap.size rk rfl HBK.out hlen2 hBs ?_; intro v' w7 ho7 hb7)
                have hB7 := (hb7 _ (Nat.le_refl _))
                have HG : Hid (OneG a wz v' (.int .i64 (((bytesOf a k).length : Nat) + 1)) (.int .i64 ((k + 1 : Nat) : Int)) w7) :=
                  ⟨k + 1, by omega, by rw [HBE.out]; rfl, rfl, by rw [HYE.out]; exact ho7, HB5.out.trans hB7⟩
                clear ho7 hb7 hB7
                go_wp2
                go_roundw
                case rel => first | exact HG.out | ((repeat apply Exists.intro); exact ⟨HG.out, rfl⟩)
                case measure => simp [intOf]; omega
              | false =>
                have HNE := Lib.hid (HN.out hbit)
                have HBE : Hid ((bytesOf a (k + 1)).length = (bytesOf a k).length) := by unfold Hid; rw [HBS.out, hbit]; simp
                clear HY HN HBS
                go_wp2_with fail
                refine (HH.out _).mono ?_; rintro e w4 ⟨rfl, hb4⟩
                rw [hbit]
                have HG : Hid (OneG a wz u8 (.int .i64 ((bytesOf a k).length : Nat)) (.int .i64 ((k + 1 : Nat) : Int)) w4) :=
                  ⟨k + 1, by omega, by rw [HBE.out], rfl, by rw [HNE.out]; exact HO.out.later hb4, HB.out.trans (hb4.mono hsB)⟩
                clear hb4 g2
                go_wp2
                go_roundw
                case rel => first | exact HG.out | ((repeat apply Exists.intro); exact ⟨HG.out, rfl⟩)
                case measure => simp [intOf]; omega
            · obtain rfl : k = 256 := by omega
              have HSL := Lib.hid (singles_len a)
              have HE : Hid (OneE w a A bn u8 wr) := ⟨hS, HO.out.isRow⟩
              have hsl := singles_length a 256
              clear hS HO HB HO0 HB0 HZ
              generalize (bytesOf a 256).length = NB at *
              cases ht : (~~~a == 0#256) with
              | true =>
                have htn : tailN a = 0 := by unfold tailN; rw [beq_iff_eq] at ht; rw [if_pos ht]
                have HTN := Lib.hid htn
                clear htn
                (try (exfalso; rw [ht] at h1; cases h1; done))
                all_goals
                  go_upto_region 25 with (fail)
                  refine wp_region_stable (S := (OneE w a A bn u8)) (hSt := fun _ _ h hb => h.later hb) (plan := [[(4, none)], [], [(71, some 0), (72, some 1)]]) (by kernel_rfl) (by kernel_rfl) (by kernel_rfl) ?hS ?_
                  rotate_left
                  iterate 3 first
                    | (refine chain_skip (by rfl) (by rfl) ?_)
                    | (apply chain_want (by rfl)
                       · intro act wx hS hr
                         simp at hr
                         have h3 := hS.s.nbox.cells
                         go_simp
                         (try go_ints)
                         first
                           | exact Done.same (v := cls _)
                           | (rw [lit0]; exact Done.same)
                           | exact Done.same
                      )
                  show ∀ w', _ → _
                  intro wz hz
                  simp [Act.put]
                  case hS => exact HE.out
                  have HZZ := Lib.hid hz
                  clear hz HE
                  cases hG : decide (40 < NB) with
                  | true =>
                    rw [decide_eq_true_eq] at hG
                    have hGz : (NB : Int) > 40 := by omega
                    clear hneq hgn heq hge
                    go_wp2
                    go_ret
                    exact ⟨rfl, HZZ.out.s.below⟩
                  | false =>
                    rw [decide_eq_false_iff_not] at hG
                    have hGz : ¬ (NB : Int) > 40 := by omega
                    clear hneq hgn heq hge
                    go_wp2_with fail
                    refine (parts_row (singles a 256) _ _ HZZ.out.r HZZ.out.s.deb (by rw [hsl]; omega)).mono ?_
                    rintro e w6 ⟨v6, rfl, ⟨a6, c6, rfl, hr6⟩, hb6⟩
                    rw [parts_length, HSL.out]
                    have htt := HTN.out
                    (try have hn2 := HN2.out)
                    rw [htt]
                    have hNz : ((NB + 0 : Nat) : Int) = (NB : Int) := by omega
                    have hNb : (((NB + 0 : Nat) : Int) == (NB : Int)) = true := by rw [beq_iff_eq]; exact hNz
                    have HF := Lib.hid (HZZ.out.s.below.trans (hb6.mono HZZ.out.s.below.size))
                    clear hb6 hr6 hNz htt
                    (try clear hn2)
                    go_wp2
                    go_ret
                    exact ⟨rfl, HF.out⟩
              | false =>
                have htn : tailN a = 1 := by unfold tailN; rw [beq_eq_false_iff_ne] at ht; rw [if_neg ht]
                have HTN := Lib.hid htn
                clear htn
                (try (exfalso; rw [ht] at h1; cases h1; done))
                all_goals
                  go_upto_region 25 with (fail)
                  refine wp_region_stable (S := (OneE w a A bn u8)) (hSt := fun _ _ h hb => h.later hb) (plan := [[(4, none)], [], [(71, some 0), (72, some 1)]]) (by kernel_rfl) (by kernel_rfl) (by kernel_rfl) ?hS ?_
                  rotate_left
                  iterate 3 first
                    | (refine chain_skip (by rfl) (by rfl) ?_)
                    | (apply chain_want (by rfl)
                       · intro act wx hS hr
                         simp at hr
                         have h3 := hS.s.nbox.cells
                         go_simp
                         (try go_ints)
                         first
                           | exact Done.same (v := cls _)
                           | (rw [lit0]; exact Done.same)
                           | exact Done.same
                      )
                  show ∀ w', _ → _
                  intro wz hz
                  simp [Act.put]
                  case hS => exact HE.out
                  have HZZ := Lib.hid hz
                  clear hz HE
                  obtain ⟨N1, hN1, hN2⟩ : ∃ N1 : Nat, (NB : Int) + 1 = (N1 : Int) ∧ N1 = NB + 1 := ⟨NB + 1, by omega, rfl⟩
                  have HN2 := Lib.hid hN2
                  clear hN2
                  cases hG : decide (40 < N1) with
                  | true =>
                    rw [decide_eq_true_eq] at hG
                    have hGz : (N1 : Int) > 40 := by omega
                    clear hneq hgn heq hge
                    go_wp2
                    go_ret
                    exact ⟨rfl, HZZ.out.s.below⟩
                  | false =>
                    rw [decide_eq_false_iff_not] at hG
                    have hGz : ¬ (N1 : Int) > 40 := by omega
                    clear hneq hgn heq hge
                    go_wp2_with fail
                    refine (parts_row (singles a 256) _ _ HZZ.out.r HZZ.out.s.deb (by rw [hsl]; omega)).mono ?_
                    rintro e w6 ⟨v6, rfl, ⟨a6, c6, rfl, hr6⟩, hb6⟩
                    rw [parts_length, HSL.out]
                    have htt := HTN.out
                    (try have hn2 := HN2.out)
                    rw [htt]
                    have hNz : ((NB + 1 : Nat) : Int) = (N1 : Int) := by omega
                    have hNb : (((NB + 1 : Nat) : Int) == (N1 : Int)) = true := by rw [beq_iff_eq]; exact hNz
                    have HF := Lib.hid (HZZ.out.s.below.trans (hb6.mono HZZ.out.s.below.size))
                    clear hb6 hr6 hNz htt
                    (try clear hn2)
                    go_wp2
                    go_ret
                    exact ⟨rfl, HF.out⟩
end Go.Proofs.YtjopngcjahdodaaDoor
