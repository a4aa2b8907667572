/- The statement ClassRows of layer 1, walked: rows of bytes, two that touch, a byte added. -/
import Derived.Test.YtmnebddgbkkajaaDoorClassWalks
import Derived.Test.YtmnebddgbkkajaaDoorClassAwake
import Derived.Deep.Cut
namespace Go.Proofs.YtmnebddgbkkajaaDoor
open Go Go.RowKit
set_option linter.unusedVariables false

/-! ### the sets -/
theorem cnt_row (a b : Nat) (h : a ≤ b) : ∀ n, cnt (fun i => decide (a ≤ i ∧ i ≤ b)) n = min n (b + 1) - min n a
  | 0 => by simp [cnt]
  | n + 1 => by
    have ih := cnt_row a b h n
    show cnt _ n + (if decide (a ≤ n ∧ n ≤ b) = true then 1 else 0) = _
    rw [ih]
    by_cases e : a ≤ n ∧ n ≤ b
    · simp [e]; omega
    · simp [e]; omega
theorem cntS_row (a b : Nat) (h : a ≤ b) (hb : b < 256) : cntS (rowB a b) = b + 1 - a := by
  unfold cntS
  rw [cnt_congr (q := fun i => decide (a ≤ i ∧ i ≤ b)) (fun i hi => rowB_bit a b i hi), cnt_row a b h]
  omega
theorem row_none (a b : Nat) (h : b < a) : rowB a b = 0#256 := by
  refine BitVec.eq_of_getLsbD_eq fun n hn => ?_
  rw [rowB_bit _ _ _ hn]; simp; omega
theorem least_row (a b : Nat) (h : a ≤ b) (hb : b < 256) : IsLeast (rowB a b) a :=
  ⟨by omega, by rw [rowB_bit _ _ _ (by omega)]; simp [h], fun j hj => by rw [rowB_bit _ _ _ (by omega)]; simp; omega⟩
theorem row_join (a m b : Nat) (h1 : a ≤ m) (h2 : m < b) (hb : b < 256) : rowB a m ||| rowB (m + 1) b = rowB a b := by
  refine BitVec.eq_of_getLsbD_eq fun n hn => ?_
  rw [BitVec.getLsbD_or, rowB_bit _ _ _ hn, rowB_bit _ _ _ hn, rowB_bit _ _ _ hn, ← Bool.decide_or]
  congr 1; rw [eq_iff_iff]; omega
theorem add_has (s : BitVec 256) (c : Nat) (hc : c < 256) : (s ||| one c).getLsbD c = true := by
  rw [BitVec.getLsbD_or, one_bit _ _ hc]; simp
theorem add_in (s : BitVec 256) (c : Nat) (hc : c < 256) (h : s.getLsbD c = true) : s ||| one c = s := by
  refine BitVec.eq_of_getLsbD_eq fun n hn => ?_
  rw [BitVec.getLsbD_or, one_bit _ _ hn]
  by_cases e : n = c
  · subst e; simp [h]
  · simp [e]
theorem cntS_add (s : BitVec 256) (c : Nat) (hc : c < 256) (h : s.getLsbD c = false) : cntS (s ||| one c) = cntS s + 1 := by
  have h1 := cntS_or_and s (one c)
  have h2 : s &&& one c = 0#256 := by
    refine BitVec.eq_of_getLsbD_eq fun n hn => ?_
    rw [BitVec.getLsbD_and, one_bit _ _ hn]
    by_cases e : n = c
    · subst e; simp [h]
    · simp [e]
  have h3 : cntS (one c) = 1 := by
    have : one c = rowB c c := by
      refine BitVec.eq_of_getLsbD_eq fun n hn => ?_
      rw [one_bit _ _ hn, rowB_bit _ _ _ hn]
      congr 1; rw [eq_iff_iff]; omega
    rw [this, cntS_row _ _ (Nat.le_refl _) hc]; omega
  have h4 : cntS 0#256 = 0 := by decide +kernel
  rw [h2, h3, h4] at h1
  omega
theorem and_add (s : BitVec 256) (c : Nat) : s &&& (s ||| one c) = s := by
  refine BitVec.eq_of_getLsbD_eq fun n hn => ?_
  rw [BitVec.getLsbD_and, BitVec.getLsbD_or]
  cases s.getLsbD n <;> simp

/-! ### rows of bytes just laid -/
def NewRow (l : List Nat) (v : Value) (w : World) : Prop := ∃ b, v = .slice (some ⟨b, 0, none⟩) l.length l.length ∧ Row8 w (some ⟨b, 0, none⟩) l
theorem NewRow.later (l : List Nat) (v : Value) (w w' : World) (h : NewRow l v w) (hb : Below w.heap.size w w') : NewRow l v w' := by
  obtain ⟨b, hv, hr⟩ := h
  exact ⟨b, hv, hr.later hb⟩
theorem NewRow.new (w : World) (l : List Nat) (hl : ∀ c ∈ l, c < 256) (hs : l.length ≤ 9223372036854775807) :
    NewRow l (.slice (some ⟨w.heap.size, 0, none⟩) l.length l.length) (w.alloc (.cells (l.map fun c : Nat => Value.int .u8 (c : Int)).toArray 5)) := by
  refine ⟨_, rfl, hl, hs, fun i hi => ⟨_, 0, rfl, by simp, ?_⟩⟩
  rw [(Blk.new w _ 5).cell]
  simp [hi]
theorem row_nil (w : World) : Row8 w none [] := ⟨by simp, by simp, fun i hi => by simp at hi⟩

structure RowsS (w0 : World) (a : BitVec 256) (w : World) : Prop where
  below : Below w0.heap.size w0 w
  deb : Deb w
  blk : Blk w w0.heap.size (cells4 a) 24
theorem RowsS.later {w0 w w' : World} {a : BitVec 256} (h : RowsS w0 a w) (hb : Below w.heap.size w w') : RowsS w0 a w' :=
  ⟨h.below.trans (hb.mono h.below.size), h.deb.below hb, h.blk.later hb⟩
structure RowsS2 (w0 : World) (a : BitVec 256) (b : Nat) (r : BitVec 256) (w : World) : Prop extends RowsS w0 a w where
  blk2 : Blk w b (cells4 r) 24
theorem RowsS2.later {w0 w w' : World} {a r : BitVec 256} {b : Nat} (h : RowsS2 w0 a b r w) (hb : Below w.heap.size w w') : RowsS2 w0 a b r w' :=
  ⟨h.toRowsS.later hb, h.blk2.later hb⟩

set_option maxRecDepth 100000 in
set_option maxHeartbeats 8000000 in
theorem rows_walk (a : BitVec 256) (f m t c : Nat) (lf : f < 256) (lm : m < 256) (lt : t < 256) (lc : c < 256) (w : World) (hd : Deb w) (x : Bool) (hx : a.getLsbD c = x) :
    Calls Tryd.prog 5 #[cls a, .int .u8 (f : Int), .int .u8 (m : Int), .int .u8 (t : Int), .int .u8 (c : Int)] w (Ans w (.bool true)) := by
  have HD := Lib.hid hd
  have HX := Lib.hid hx
  clear hd hx
  unfold cls
  go_enter Tryd.func5, Tryd.ntmps5
  go_wp2_with fail
  refine (awake_any _ (HD.out.alloc _)).mono ?_; rintro e w1 ⟨rfl, hb⟩
  have h0 : RowsS w a w1 := ⟨((Below.refl _ _).alloc (Nat.le_refl _) _).trans (hb.mono (by simp)), (HD.out.alloc _).below hb, (Blk.new w (cells4 a) 24).later hb⟩
  have f0 : (0 : Int) ≤ f := by omega
  have f1 : (f : Int) ≤ 255 := by omega
  have m0 : (0 : Int) ≤ m := by omega
  have m1 : (m : Int) ≤ 255 := by omega
  have t0 : (0 : Int) ≤ t := by omega
  have t1 : (t : Int) ≤ 255 := by omega
  by_cases hft : f ≤ t
  · have R1 : Hid (cntS (rowB f t) = t + 1 - f) := cntS_row f t hft lt
    have R2 : Hid ((rowB f t).getLsbD t = true) := by unfold Hid; rw [rowB_bit _ _ _ lt]; simp [hft]
    go_wp2_with fail
    refine (of_any f t lf lt _).mono ?_; rintro e w2 ⟨rfl, hb2⟩
    have h2 : RowsS2 w a w2.heap.size (rowB f t) (w2.alloc (.cells (cells4 (rowB f t)) 24)) :=
      ⟨(h0.later hb2).later ((Below.refl _ _).alloc (Nat.le_refl _) _), Blk.new _ _ _⟩
    unfold cls
    go_wp2_with fail
    refine (least_any _ f (least_row f t hft lt) _ h2.deb).mono ?_; rintro e w3 ⟨rfl, hb3⟩
    have h3 := h2.later hb3
    have cntR : ∀ w, Calls Tryd.prog 23 #[cls (rowB f t)] w (Ans w (.int .i64 ((t : Int) - f + 1))) := fun w => by
      have := count_any (rowB f t) w
      rw [R1.out, show ((t + 1 - f : Nat) : Int) = (t : Int) - f + 1 by omega] at this; exact this
    have hasR : ∀ w, Calls Tryd.prog 14 #[cls (rowB f t), .int .u8 (t : Int)] w (Ans w (.bool true)) := fun w => by
      have := has_any (rowB f t) t lt w
      rw [R2.out] at this; exact this
    go_upto_region 6 with (fail)
    refine wp_region_stable (S := (RowsS2 w a w2.heap.size (rowB f t))) (hSt := fun _ _ h hb => h.later hb) (plan := [[(11, none)], [(29, some 0)], [(3, none)], [(31, some 2)], [(1, none)], [(33, some 4)], [(32, some 3), (34, some 5)], [(35, some 6)], [(30, some 1), (36, some 7)], [(37, some 8)], [(13, none)], [(39, some 10)], [(38, some 9), (40, some 11)], [(41, some 12)], [(12, none)], [(1, none)], [(43, some 14), (44, some 15)], [(42, some 13), (45, some 16)], [(46, some 17)], [(11, none)], [(3, none)], [(48, some 19), (49, some 20)], [(50, some 21)], [(47, some 18), (51, some 22)]]) (by kernel_rfl) (by kernel_rfl) (by kernel_rfl) ?hS ?_
    rotate_left
    iterate 24 first
      | (refine chain_skip (by rfl) (by rfl) ?_)
      | (apply chain_want (by rfl)
         · intro act wx hS hr
           simp at hr
           have h1 := hS.blk2.cells
           go_simp
           (try go_ints)
           first
             | exact Done.same (v := cls _)
             | ((with_reducible refine (cntR _).mono ?_); rintro e w' ⟨rfl, hb⟩; exact Done.mk hb)
             | ((with_reducible refine (hasR _).mono ?_); rintro e w' ⟨rfl, hb⟩; exact Done.mk hb)
             | exact Done.same
        )
    show ∀ w', _ → _
    intro wz hz
    simp [Act.put]
    case hS => exact h3
    go_upto_region 8 with (fail)
    have hne := neq_cls
    have hg2 := eqGuard_neq
    have ofm : ∀ w, Calls Tryd.prog 12 #[.int .u8 (f : Int), .int .u8 (m : Int)] w (Ans w (cls (rowB f m))) := fun w => of_any f m lf lm w
    by_cases hfm : f ≤ m
    · by_cases hmt : m < t
      · have ofm1 : ∀ w, Calls Tryd.prog 12 #[.int .u8 ((m : Int) + 1), .int .u8 (t : Int)] w (Ans w (cls (rowB (m + 1) t))) := fun w => of_any (m + 1) t (by omega) lt w
        have jn : ∀ w, Calls Tryd.prog 18 #[cls (rowB f m), cls (rowB (m + 1) t)] w (Ans w (cls (rowB f t))) := fun w => by
          have := join_any (rowB f m) (rowB (m + 1) t) w
          rw [row_join f m t hfm hmt lt] at this; exact this
        refine wp_region_stable (S := (RowsS2 w a w2.heap.size (rowB f t))) (hSt := fun _ _ h hb => h.later hb) (plan := [[(2, none)], [(1, none)], [(53, some 0), (54, some 1)], [(55, some 2)], [(2, none)], [(3, none)], [(57, some 4), (58, some 5)], [(56, some 3), (59, some 6)], [(60, some 7)], [(1, none)], [(2, none)], [(62, some 9), (63, some 10)], [(2, none)], [(65, some 12)], [(3, none)], [(66, some 13), (67, some 14)], [(64, some 11), (68, some 15)], [(11, none)], [(69, some 16), (70, some 17)], [(61, some 8), (71, some 18)]]) (by kernel_rfl) (by kernel_rfl) (by kernel_rfl) ?hS ?_
        rotate_left
        iterate 20 first
          | (refine chain_skip (by rfl) (by rfl) ?_)
          | (apply chain_want (by rfl)
             · intro act wx hS hr
               simp at hr
               have h1 := hS.blk2.cells
               go_simp
               (try go_ints)
               first
                 | exact Done.same (v := cls _)
                 | ((with_reducible refine (ofm _).mono ?_); rintro e w' ⟨rfl, hb⟩; exact Done.mk hb)
                 | ((with_reducible refine (ofm1 _).mono ?_); rintro e w' ⟨rfl, hb⟩; exact Done.mk hb)
                 | ((with_reducible refine (jn _).mono ?_); rintro e w' ⟨rfl, hb⟩; exact Done.mk hb)
                 | exact Done.same
            )
        show ∀ w', _ → _
        intro wz hz
        simp [Act.put]
        case hS => exact hz
        have hT := hz.toRowsS
        clear hz h3 h2 h0 hb hb2 hb3 cntR hasR hne hg2 ofm ofm1 jn
        have HT := Lib.hid hT
        have g1 := hT.blk.cells
        go_wp2_with fail
        refine (add_any a [c] _ _ _ (row_one _ c lc _ _ rfl (Blk.new _ _ _))).mono ?_; rintro e w5 ⟨rfl, hb5⟩
        rw [show cls (addL a [c]) = cls (a ||| one c) from rfl]
        have h5' : RowsS w a w5 := (HT.out.later ((Below.refl _ _).alloc (Nat.le_refl _) _)).later hb5
        have h5 : RowsS2 w a w5.heap.size (a ||| one c) (w5.alloc (.cells (cells4 (a ||| one c)) 24)) :=
          ⟨((HT.out.later ((Below.refl _ _).alloc (Nat.le_refl _) _)).later hb5).later ((Below.refl _ _).alloc (Nat.le_refl _) _), Blk.new _ _ _⟩
        clear g1 hT
        have g1 := h5'.blk.cells
        have n5 := h5'.blk.lt
        unfold cls
        go_wp2_with fail
        refine (has_any a c lc _).mono ?_; rintro e w6 ⟨rfl, hb6⟩
        have h6 := h5.later hb6
        rw [HX.out]
        clear g1
        have cj := add_has a c lc
        have ca := and_add a c
        have heq := eql_cls
        have hg1 := eqGuard_eql
        have cl := cntS_le a
        have cl2 := cntS_le (a ||| one c)
        have add0 : ∀ w, Calls Tryd.prog 16 #[cls a, .slice none 0 0] w (Ans w (cls a)) := fun w => add_any a [] none 0 w (row_nil w)
        have hasc : ∀ w, Calls Tryd.prog 14 #[cls (a ||| one c), .int .u8 (c : Int)] w (Ans w (.bool true)) := fun w => by have := has_any (a ||| one c) c lc w; rw [cj] at this; exact this
        have andc : ∀ w, Calls Tryd.prog 19 #[cls a, cls (a ||| one c)] w (Ans w (cls a)) := fun w => by have := both_any a (a ||| one c) w; rw [ca] at this; exact this
        have cc : addL (a ||| one c) [c, c] = a ||| one c := by show a ||| one c ||| one c ||| one c = _; rw [add_in _ _ lc cj, add_in _ _ lc cj]
        have HN : ∀ w : World, NewRow [c, c] (.slice (some ⟨w.heap.size, 0, none⟩) 2 2) (w.alloc (.cells #[.int .u8 (c : Int), .int .u8 (c : Int)] 5)) := fun w => NewRow.new w [c, c] (by simp [lc]) (by simp)
        have HCC := Lib.hid cc
        clear cc cj ca
        rcases x with _ | _
        all_goals
          obtain ⟨n, hn, hn1, cnta⟩ : ∃ n : Int, (0 ≤ n ∧ n ≤ 256) ∧ n = (cntS a : Int) ∧ ∀ w, Calls Tryd.prog 23 #[cls a] w (Ans w (.int .i64 n)) := ⟨cntS a, by omega, rfl, fun w => count_any a w⟩
          obtain ⟨q, hq, hq1, cntc⟩ : ∃ q : Int, (0 ≤ q ∧ q ≤ 256) ∧ q = (cntS (a ||| one c) : Int) ∧ ∀ w, Calls Tryd.prog 23 #[cls (a ||| one c)] w (Ans w (.int .i64 q)) := ⟨cntS (a ||| one c), by omega, rfl, fun w => count_any (a ||| one c) w⟩
          first
            | (have hqn : q = n + 1 := by rw [hq1, hn1, cntS_add a c lc HX.out]; omega)
            | (have hqn : q = n := by rw [hq1, hn1, add_in a c lc HX.out])
          subst hqn
          clear hq1 hn1
          go_upto_region 16 with (fail)
          refine wp_region_stable (S := (RowsS2 w a w5.heap.size (a ||| one c))) (hSt := fun _ _ h hb => h.later hb) (plan := [[(14, none)], [(4, none)], [(85, some 0), (86, some 1)], [(87, some 2)], [(14, none)], [(89, some 4)], [(5, none)], [(91, some 6)], [(15, none)], [(92, some 7), (93, some 8)], [(90, some 5), (94, some 9)], [(88, some 3), (95, some 10)], [(96, some 11)], [(5, none)], [(14, none)], [(98, some 13), (99, some 14)], [(5, none)], [(100, some 15), (101, some 16)], [(97, some 12), (102, some 17)], [(103, some 18)], [(5, none)], [(105, some 20)], [(5, none)], [(106, some 21), (107, some 22)], [(104, some 19), (108, some 23)], [(109, some 24)], [(14, none)], [(4, none)], [(4, none)], [(112, some 27), (113, some 28)], [(111, some 26), (114, some 29)], [(14, none)], [(115, some 30), (116, some 31)], [(110, some 25), (117, some 32)], [(118, some 33)]]) (by kernel_rfl) (by kernel_rfl) (by kernel_rfl) ?hS ?_
          rotate_left
          iterate 29 first
            | (refine chain_skip (by rfl) (by rfl) ?_)
            | (apply chain_want (by rfl)
               · intro act wx hS hr
                 simp at hr
                 have h1 := hS.blk.cells
                 have h2 := hS.blk2.cells
                 go_simp
                 (try go_ints)
                 first
                   | exact Done.same (v := cls _)
                   | ((with_reducible refine (add0 _).mono ?_); rintro e w' ⟨rfl, hb⟩; exact Done.mk hb)
                   | ((with_reducible refine (hasc _).mono ?_); rintro e w' ⟨rfl, hb⟩; exact Done.mk hb)
                   | ((with_reducible refine (andc _).mono ?_); rintro e w' ⟨rfl, hb⟩; exact Done.mk hb)
                   | ((with_reducible refine (cnta _).mono ?_); rintro e w' ⟨rfl, hb⟩; exact Done.mk hb)
                   | ((with_reducible refine (cntc _).mono ?_); rintro e w' ⟨rfl, hb⟩; exact Done.mk hb)
                   | (obtain ⟨hr1, v, hr2, b, rfl, hrow⟩ := hr; simp only [hr2]; refine (add_any (a ||| one c) [c, c] _ _ _ hrow).mono ?_; rintro e w' ⟨rfl, hb⟩; rw [HCC.out]; exact Done.mk hb)
                   | exact Done.same
              )
          (refine chain_rel (NewRow [c, c]) (NewRow.later [c, c]) (by rfl) ?_ ?_
           · intro act wx hS hr
             simp at hr
             have h1 := hS.blk.cells
             have h2 := hS.blk2.cells
             go_simp
             exact Done.rel ((Below.refl _ _).alloc (Nat.le_refl _) _) (HN _)
          )
          iterate 5 first
            | (refine chain_skip (by rfl) (by rfl) ?_)
            | (apply chain_want (by rfl)
               · intro act wx hS hr
                 simp at hr
                 have h1 := hS.blk.cells
                 have h2 := hS.blk2.cells
                 go_simp
                 (try go_ints)
                 first
                   | exact Done.same (v := cls _)
                   | ((with_reducible refine (add0 _).mono ?_); rintro e w' ⟨rfl, hb⟩; exact Done.mk hb)
                   | ((with_reducible refine (hasc _).mono ?_); rintro e w' ⟨rfl, hb⟩; exact Done.mk hb)
                   | ((with_reducible refine (andc _).mono ?_); rintro e w' ⟨rfl, hb⟩; exact Done.mk hb)
                   | ((with_reducible refine (cnta _).mono ?_); rintro e w' ⟨rfl, hb⟩; exact Done.mk hb)
                   | ((with_reducible refine (cntc _).mono ?_); rintro e w' ⟨rfl, hb⟩; exact Done.mk hb)
                   | (obtain ⟨hr1, v, hr2, b, rfl, hrow⟩ := hr; simp only [hr2]; refine (add_any (a ||| one c) [c, c] _ _ _ hrow).mono ?_; rintro e w' ⟨rfl, hb⟩; rw [HCC.out]; exact Done.mk hb)
                   | exact Done.same
              )
          show ∀ w', _ → _
          intro wz hz
          simp [Act.put]
          case hS => exact h6
          intro v hv
          go_wp2
          go_ret
          exact ⟨rfl, hz.below⟩
      · skip
        refine wp_region_stable (S := (RowsS2 w a w2.heap.size (rowB f t))) (hSt := fun _ _ h hb => h.later hb) (plan := [[(2, none)], [(1, none)], [(53, some 0), (54, some 1)], [(55, some 2)], [(2, none)], [(3, none)], [(57, some 4), (58, some 5)], [(56, some 3), (59, some 6)], [(60, some 7)], [(1, none)], [(2, none)], [(62, some 9), (63, some 10)], [(2, none)], [(65, some 12)], [(3, none)], [(66, some 13), (67, some 14)], [(64, some 11), (68, some 15)], [(11, none)], [(69, some 16), (70, some 17)], [(61, some 8), (71, some 18)]]) (by kernel_rfl) (by kernel_rfl) (by kernel_rfl) ?hS ?_
        rotate_left
        iterate 20 first
          | (refine chain_skip (by rfl) (by rfl) ?_)
          | (apply chain_want (by rfl)
             · intro act wx hS hr
               simp at hr
               go_simp
               (try go_ints)
               first
                 | exact Done.same
            )
        show ∀ w', _ → _
        intro wz hz
        simp [Act.put]
        case hS => exact hz
        have hT := hz.toRowsS
        clear hz h3 h2 h0 hb hb2 hb3 cntR hasR hne hg2 ofm
        have HT := Lib.hid hT
        have g1 := hT.blk.cells
        go_wp2_with fail
        refine (add_any a [c] _ _ _ (row_one _ c lc _ _ rfl (Blk.new _ _ _))).mono ?_; rintro e w5 ⟨rfl, hb5⟩
        rw [show cls (addL a [c]) = cls (a ||| one c) from rfl]
        have h5' : RowsS w a w5 := (HT.out.later ((Below.refl _ _).alloc (Nat.le_refl _) _)).later hb5
        have h5 : RowsS2 w a w5.heap.size (a ||| one c) (w5.alloc (.cells (cells4 (a ||| one c)) 24)) :=
          ⟨((HT.out.later ((Below.refl _ _).alloc (Nat.le_refl _) _)).later hb5).later ((Below.refl _ _).alloc (Nat.le_refl _) _), Blk.new _ _ _⟩
        clear g1 hT
        have g1 := h5'.blk.cells
        have n5 := h5'.blk.lt
        unfold cls
        go_wp2_with fail
        refine (has_any a c lc _).mono ?_; rintro e w6 ⟨rfl, hb6⟩
        have h6 := h5.later hb6
        rw [HX.out]
        clear g1
        have cj := add_has a c lc
        have ca := and_add a c
        have heq := eql_cls
        have hg1 := eqGuard_eql
        have cl := cntS_le a
        have cl2 := cntS_le (a ||| one c)
        have add0 : ∀ w, Calls Tryd.prog 16 #[cls a, .slice none 0 0] w (Ans w (cls a)) := fun w => add_any a [] none 0 w (row_nil w)
        have hasc : ∀ w, Calls Tryd.prog 14 #[cls (a ||| one c), .int .u8 (c : Int)] w (Ans w (.bool true)) := fun w => by have := has_any (a ||| one c) c lc w; rw [cj] at this; exact this
        have andc : ∀ w, Calls Tryd.prog 19 #[cls a, cls (a ||| one c)] w (Ans w (cls a)) := fun w => by have := both_any a (a ||| one c) w; rw [ca] at this; exact this
        have cc : addL (a ||| one c) [c, c] = a ||| one c := by show a ||| one c ||| one c ||| one c = _; rw [add_in _ _ lc cj, add_in _ _ lc cj]
        have HN : ∀ w : World, NewRow [c, c] (.slice (some ⟨w.heap.size, 0, none⟩) 2 2) (w.alloc (.cells #[.int .u8 (c : Int), .int .u8 (c : Int)] 5)) := fun w => NewRow.new w [c, c] (by simp [lc]) (by simp)
        have HCC := Lib.hid cc
        clear cc cj ca
        rcases x with _ | _
        all_goals
          obtain ⟨n, hn, hn1, cnta⟩ : ∃ n : Int, (0 ≤ n ∧ n ≤ 256) ∧ n = (cntS a : Int) ∧ ∀ w, Calls Tryd.prog 23 #[cls a] w (Ans w (.int .i64 n)) := ⟨cntS a, by omega, rfl, fun w => count_any a w⟩
          obtain ⟨q, hq, hq1, cntc⟩ : ∃ q : Int, (0 ≤ q ∧ q ≤ 256) ∧ q = (cntS (a ||| one c) : Int) ∧ ∀ w, Calls Tryd.prog 23 #[cls (a ||| one c)] w (Ans w (.int .i64 q)) := ⟨cntS (a ||| one c), by omega, rfl, fun w => count_any (a ||| one c) w⟩
          first
            | (have hqn : q = n + 1 := by rw [hq1, hn1, cntS_add a c lc HX.out]; omega)
            | (have hqn : q = n := by rw [hq1, hn1, add_in a c lc HX.out])
          subst hqn
          clear hq1 hn1
          go_upto_region 16 with (fail)
          refine wp_region_stable (S := (RowsS2 w a w5.heap.size (a ||| one c))) (hSt := fun _ _ h hb => h.later hb) (plan := [[(14, none)], [(4, none)], [(85, some 0), (86, some 1)], [(87, some 2)], [(14, none)], [(89, some 4)], [(5, none)], [(91, some 6)], [(15, none)], [(92, some 7), (93, some 8)], [(90, some 5), (94, some 9)], [(88, some 3), (95, some 10)], [(96, some 11)], [(5, none)], [(14, none)], [(98, some 13), (99, some 14)], [(5, none)], [(100, some 15), (101, some 16)], [(97, some 12), (102, some 17)], [(103, some 18)], [(5, none)], [(105, some 20)], [(5, none)], [(106, some 21), (107, some 22)], [(104, some 19), (108, some 23)], [(109, some 24)], [(14, none)], [(4, none)], [(4, none)], [(112, some 27), (113, some 28)], [(111, some 26), (114, some 29)], [(14, none)], [(115, some 30), (116, some 31)], [(110, some 25), (117, some 32)], [(118, some 33)]]) (by kernel_rfl) (by kernel_rfl) (by kernel_rfl) ?hS ?_
          rotate_left
          iterate 29 first
            | (refine chain_skip (by rfl) (by rfl) ?_)
            | (apply chain_want (by rfl)
               · intro act wx hS hr
                 simp at hr
                 have h1 := hS.blk.cells
                 have h2 := hS.blk2.cells
                 go_simp
                 (try go_ints)
                 first
                   | exact Done.same (v := cls _)
                   | ((with_reducible refine (add0 _).mono ?_); rintro e w' ⟨rfl, hb⟩; exact Done.mk hb)
                   | ((with_reducible refine (hasc _).mono ?_); rintro e w' ⟨rfl, hb⟩; exact Done.mk hb)
                   | ((with_reducible refine (andc _).mono ?_); rintro e w' ⟨rfl, hb⟩; exact Done.mk hb)
                   | ((with_reducible refine (cnta _).mono ?_); rintro e w' ⟨rfl, hb⟩; exact Done.mk hb)
                   | ((with_reducible refine (cntc _).mono ?_); rintro e w' ⟨rfl, hb⟩; exact Done.mk hb)
                   | (obtain ⟨hr1, v, hr2, b, rfl, hrow⟩ := hr; simp only [hr2]; refine (add_any (a ||| one c) [c, c] _ _ _ hrow).mono ?_; rintro e w' ⟨rfl, hb⟩; rw [HCC.out]; exact Done.mk hb)
                   | exact Done.same
              )
          (refine chain_rel (NewRow [c, c]) (NewRow.later [c, c]) (by rfl) ?_ ?_
           · intro act wx hS hr
             simp at hr
             have h1 := hS.blk.cells
             have h2 := hS.blk2.cells
             go_simp
             exact Done.rel ((Below.refl _ _).alloc (Nat.le_refl _) _) (HN _)
          )
          iterate 5 first
            | (refine chain_skip (by rfl) (by rfl) ?_)
            | (apply chain_want (by rfl)
               · intro act wx hS hr
                 simp at hr
                 have h1 := hS.blk.cells
                 have h2 := hS.blk2.cells
                 go_simp
                 (try go_ints)
                 first
                   | exact Done.same (v := cls _)
                   | ((with_reducible refine (add0 _).mono ?_); rintro e w' ⟨rfl, hb⟩; exact Done.mk hb)
                   | ((with_reducible refine (hasc _).mono ?_); rintro e w' ⟨rfl, hb⟩; exact Done.mk hb)
                   | ((with_reducible refine (andc _).mono ?_); rintro e w' ⟨rfl, hb⟩; exact Done.mk hb)
                   | ((with_reducible refine (cnta _).mono ?_); rintro e w' ⟨rfl, hb⟩; exact Done.mk hb)
                   | ((with_reducible refine (cntc _).mono ?_); rintro e w' ⟨rfl, hb⟩; exact Done.mk hb)
                   | (obtain ⟨hr1, v, hr2, b, rfl, hrow⟩ := hr; simp only [hr2]; refine (add_any (a ||| one c) [c, c] _ _ _ hrow).mono ?_; rintro e w' ⟨rfl, hb⟩; rw [HCC.out]; exact Done.mk hb)
                   | exact Done.same
              )
          show ∀ w', _ → _
          intro wz hz
          simp [Act.put]
          case hS => exact h6
          intro v hv
          go_wp2
          go_ret
          exact ⟨rfl, hz.below⟩
    · skip
      refine wp_region_stable (S := (RowsS2 w a w2.heap.size (rowB f t))) (hSt := fun _ _ h hb => h.later hb) (plan := [[(2, none)], [(1, none)], [(53, some 0), (54, some 1)], [(55, some 2)], [(2, none)], [(3, none)], [(57, some 4), (58, some 5)], [(56, some 3), (59, some 6)], [(60, some 7)], [(1, none)], [(2, none)], [(62, some 9), (63, some 10)], [(2, none)], [(65, some 12)], [(3, none)], [(66, some 13), (67, some 14)], [(64, some 11), (68, some 15)], [(11, none)], [(69, some 16), (70, some 17)], [(61, some 8), (71, some 18)]]) (by kernel_rfl) (by kernel_rfl) (by kernel_rfl) ?hS ?_
      rotate_left
      iterate 20 first
        | (refine chain_skip (by rfl) (by rfl) ?_)
        | (apply chain_want (by rfl)
           · intro act wx hS hr
             simp at hr
             go_simp
             (try go_ints)
             first
               | exact Done.same
          )
      show ∀ w', _ → _
      intro wz hz
      simp [Act.put]
      case hS => exact hz
      have hT := hz.toRowsS
      clear hz h3 h2 h0 hb hb2 hb3 cntR hasR hne hg2 ofm
      have HT := Lib.hid hT
      have g1 := hT.blk.cells
      go_wp2_with fail
      refine (add_any a [c] _ _ _ (row_one _ c lc _ _ rfl (Blk.new _ _ _))).mono ?_; rintro e w5 ⟨rfl, hb5⟩
      rw [show cls (addL a [c]) = cls (a ||| one c) from rfl]
      have h5' : RowsS w a w5 := (HT.out.later ((Below.refl _ _).alloc (Nat.le_refl _) _)).later hb5
      have h5 : RowsS2 w a w5.heap.size (a ||| one c) (w5.alloc (.cells (cells4 (a ||| one c)) 24)) :=
        ⟨((HT.out.later ((Below.refl _ _).alloc (Nat.le_refl _) _)).later hb5).later ((Below.refl _ _).alloc (Nat.le_refl _) _), Blk.new _ _ _⟩
      clear g1 hT
      have g1 := h5'.blk.cells
      have n5 := h5'.blk.lt
      unfold cls
      go_wp2_with fail
      refine (has_any a c lc _).mono ?_; rintro e w6 ⟨rfl, hb6⟩
      have h6 := h5.later hb6
      rw [HX.out]
      clear g1
      have cj := add_has a c lc
      have ca := and_add a c
      have heq := eql_cls
      have hg1 := eqGuard_eql
      have cl := cntS_le a
      have cl2 := cntS_le (a ||| one c)
      have add0 : ∀ w, Calls Tryd.prog 16 #[cls a, .slice none 0 0] w (Ans w (cls a)) := fun w => add_any a [] none 0 w (row_nil w)
      have hasc : ∀ w, Calls Tryd.prog 14 #[cls (a ||| one c), .int .u8 (c : Int)] w (Ans w (.bool true)) := fun w => by have := has_any (a ||| one c) c lc w; rw [cj] at this; exact this
      have andc : ∀ w, Calls Tryd.prog 19 #[cls a, cls (a ||| one c)] w (Ans w (cls a)) := fun w => by have := both_any a (a ||| one c) w; rw [ca] at this; exact this
      have cc : addL (a ||| one c) [c, c] = a ||| one c := by show a ||| one c ||| one c ||| one c = _; rw [add_in _ _ lc cj, add_in _ _ lc cj]
      have HN : ∀ w : World, NewRow [c, c] (.slice (some ⟨w.heap.size, 0, none⟩) 2 2) (w.alloc (.cells #[.int .u8 (c : Int), .int .u8 (c : Int)] 5)) := fun w => NewRow.new w [c, c] (by simp [lc]) (by simp)
      have HCC := Lib.hid cc
      clear cc cj ca
      rcases x with _ | _
      all_goals
        obtain ⟨n, hn, hn1, cnta⟩ : ∃ n : Int, (0 ≤ n ∧ n ≤ 256) ∧ n = (cntS a : Int) ∧ ∀ w, Calls Tryd.prog 23 #[cls a] w (Ans w (.int .i64 n)) := ⟨cntS a, by omega, rfl, fun w => count_any a w⟩
        obtain ⟨q, hq, hq1, cntc⟩ : ∃ q : Int, (0 ≤ q ∧ q ≤ 256) ∧ q = (cntS (a ||| one c) : Int) ∧ ∀ w, Calls Tryd.prog 23 #[cls (a ||| one c)] w (Ans w (.int .i64 q)) := ⟨cntS (a ||| one c), by omega, rfl, fun w => count_any (a ||| one c) w⟩
        first
          | (have hqn : q = n + 1 := by rw [hq1, hn1, cntS_add a c lc HX.out]; omega)
          | (have hqn : q = n := by rw [hq1, hn1, add_in a c lc HX.out])
        subst hqn
        clear hq1 hn1
        go_upto_region 16 with (fail)
        refine wp_region_stable (S := (RowsS2 w a w5.heap.size (a ||| one c))) (hSt := fun _ _ h hb => h.later hb) (plan := [[(14, none)], [(4, none)], [(85, some 0), (86, some 1)], [(87, some 2)], [(14, none)], [(89, some 4)], [(5, none)], [(91, some 6)], [(15, none)], [(92, some 7), (93, some 8)], [(90, some 5), (94, some 9)], [(88, some 3), (95, some 10)], [(96, some 11)], [(5, none)], [(14, none)], [(98, some 13), (99, some 14)], [(5, none)], [(100, some 15), (101, some 16)], [(97, some 12), (102, some 17)], [(103, some 18)], [(5, none)], [(105, some 20)], [(5, none)], [(106, some 21), (107, some 22)], [(104, some 19), (108, some 23)], [(109, some 24)], [(14, none)], [(4, none)], [(4, none)], [(112, some 27), (113, some 28)], [(111, some 26), (114, some 29)], [(14, none)], [(115, some 30), (116, some 31)], [(110, some 25), (117, some 32)], [(118, some 33)]]) (by kernel_rfl) (by kernel_rfl) (by kernel_rfl) ?hS ?_
        rotate_left
        iterate 29 first
          | (refine chain_skip (by rfl) (by rfl) ?_)
          | (apply chain_want (by rfl)
             · intro act wx hS hr
               simp at hr
               have h1 := hS.blk.cells
               have h2 := hS.blk2.cells
               go_simp
               (try go_ints)
               first
                 | exact Done.same (v := cls _)
                 | ((with_reducible refine (add0 _).mono ?_); rintro e w' ⟨rfl, hb⟩; exact Done.mk hb)
                 | ((with_reducible refine (hasc _).mono ?_); rintro e w' ⟨rfl, hb⟩; exact Done.mk hb)
                 | ((with_reducible refine (andc _).mono ?_); rintro e w' ⟨rfl, hb⟩; exact Done.mk hb)
                 | ((with_reducible refine (cnta _).mono ?_); rintro e w' ⟨rfl, hb⟩; exact Done.mk hb)
                 | ((with_reducible refine (cntc _).mono ?_); rintro e w' ⟨rfl, hb⟩; exact Done.mk hb)
                 | (obtain ⟨hr1, v, hr2, b, rfl, hrow⟩ := hr; simp only [hr2]; refine (add_any (a ||| one c) [c, c] _ _ _ hrow).mono ?_; rintro e w' ⟨rfl, hb⟩; rw [HCC.out]; exact Done.mk hb)
                 | exact Done.same
            )
        (refine chain_rel (NewRow [c, c]) (NewRow.later [c, c]) (by rfl) ?_ ?_
         · intro act wx hS hr
           simp at hr
           have h1 := hS.blk.cells
           have h2 := hS.blk2.cells
           go_simp
           exact Done.rel ((Below.refl _ _).alloc (Nat.le_refl _) _) (HN _)
        )
        iterate 5 first
          | (refine chain_skip (by rfl) (by rfl) ?_)
          | (apply chain_want (by rfl)
             · intro act wx hS hr
               simp at hr
               have h1 := hS.blk.cells
               have h2 := hS.blk2.cells
               go_simp
               (try go_ints)
               first
                 | exact Done.same (v := cls _)
                 | ((with_reducible refine (add0 _).mono ?_); rintro e w' ⟨rfl, hb⟩; exact Done.mk hb)
                 | ((with_reducible refine (hasc _).mono ?_); rintro e w' ⟨rfl, hb⟩; exact Done.mk hb)
                 | ((with_reducible refine (andc _).mono ?_); rintro e w' ⟨rfl, hb⟩; exact Done.mk hb)
                 | ((with_reducible refine (cnta _).mono ?_); rintro e w' ⟨rfl, hb⟩; exact Done.mk hb)
                 | ((with_reducible refine (cntc _).mono ?_); rintro e w' ⟨rfl, hb⟩; exact Done.mk hb)
                 | (obtain ⟨hr1, v, hr2, b, rfl, hrow⟩ := hr; simp only [hr2]; refine (add_any (a ||| one c) [c, c] _ _ _ hrow).mono ?_; rintro e w' ⟨rfl, hb⟩; rw [HCC.out]; exact Done.mk hb)
                 | exact Done.same
            )
        show ∀ w', _ → _
        intro wz hz
        simp [Act.put]
        case hS => exact h6
        intro v hv
        go_wp2
        go_ret
        exact ⟨rfl, hz.below⟩
  · have cnt0 : ∀ w, Calls Tryd.prog 23 #[cls (rowB f t)] w (Ans w (.int .i64 0)) := fun w => by
      have := count_any (rowB f t) w
      rw [row_none f t (by omega), show cntS 0#256 = 0 by decide +kernel] at this
      rw [row_none f t (by omega)]; exact this
    go_wp2_with fail
    refine (of_any f t lf lt _).mono ?_; rintro e w2 ⟨rfl, hb2⟩
    go_wp2_with fail
    refine (cnt0 _).mono ?_; rintro e w3 ⟨rfl, hb3⟩
    have hT := (h0.later hb2).later hb3
    clear h0 hb hb2 hb3 cnt0
    have HT := Lib.hid hT
    have g1 := hT.blk.cells
    go_wp2_with fail
    refine (add_any a [c] _ _ _ (row_one _ c lc _ _ rfl (Blk.new _ _ _))).mono ?_; rintro e w5 ⟨rfl, hb5⟩
    rw [show cls (addL a [c]) = cls (a ||| one c) from rfl]
    have h5' : RowsS w a w5 := (HT.out.later ((Below.refl _ _).alloc (Nat.le_refl _) _)).later hb5
    have h5 : RowsS2 w a w5.heap.size (a ||| one c) (w5.alloc (.cells (cells4 (a ||| one c)) 24)) :=
      ⟨((HT.out.later ((Below.refl _ _).alloc (Nat.le_refl _) _)).later hb5).later ((Below.refl _ _).alloc (Nat.le_refl _) _), Blk.new _ _ _⟩
    clear g1 hT
    have g1 := h5'.blk.cells
    have n5 := h5'.blk.lt
    unfold cls
    go_wp2_with fail
    refine (has_any a c lc _).mono ?_; rintro e w6 ⟨rfl, hb6⟩
    have h6 := h5.later hb6
    rw [HX.out]
    clear g1
    have cj := add_has a c lc
    have ca := and_add a c
    have heq := eql_cls
    have hg1 := eqGuard_eql
    have cl := cntS_le a
    have cl2 := cntS_le (a ||| one c)
    have add0 : ∀ w, Calls Tryd.prog 16 #[cls a, .slice none 0 0] w (Ans w (cls a)) := fun w => add_any a [] none 0 w (row_nil w)
    have hasc : ∀ w, Calls Tryd.prog 14 #[cls (a ||| one c), .int .u8 (c : Int)] w (Ans w (.bool true)) := fun w => by have := has_any (a ||| one c) c lc w; rw [cj] at this; exact this
    have andc : ∀ w, Calls Tryd.prog 19 #[cls a, cls (a ||| one c)] w (Ans w (cls a)) := fun w => by have := both_any a (a ||| one c) w; rw [ca] at this; exact this
    have cc : addL (a ||| one c) [c, c] = a ||| one c := by show a ||| one c ||| one c ||| one c = _; rw [add_in _ _ lc cj, add_in _ _ lc cj]
    have HN : ∀ w : World, NewRow [c, c] (.slice (some ⟨w.heap.size, 0, none⟩) 2 2) (w.alloc (.cells #[.int .u8 (c : Int), .int .u8 (c : Int)] 5)) := fun w => NewRow.new w [c, c] (by simp [lc]) (by simp)
    have HCC := Lib.hid cc
    clear cc cj ca
    rcases x with _ | _
    all_goals
      obtain ⟨n, hn, hn1, cnta⟩ : ∃ n : Int, (0 ≤ n ∧ n ≤ 256) ∧ n = (cntS a : Int) ∧ ∀ w, Calls Tryd.prog 23 #[cls a] w (Ans w (.int .i64 n)) := ⟨cntS a, by omega, rfl, fun w => count_any a w⟩
      obtain ⟨q, hq, hq1, cntc⟩ : ∃ q : Int, (0 ≤ q ∧ q ≤ 256) ∧ q = (cntS (a ||| one c) : Int) ∧ ∀ w, Calls Tryd.prog 23 #[cls (a ||| one c)] w (Ans w (.int .i64 q)) := ⟨cntS (a ||| one c), by omega, rfl, fun w => count_any (a ||| one c) w⟩
      first
        | (have hqn : q = n + 1 := by rw [hq1, hn1, cntS_add a c lc HX.out]; omega)
        | (have hqn : q = n := by rw [hq1, hn1, add_in a c lc HX.out])
      subst hqn
      clear hq1 hn1
      go_upto_region 16 with (fail)
      refine wp_region_stable (S := (RowsS2 w a w5.heap.size (a ||| one c))) (hSt := fun _ _ h hb => h.later hb) (plan := [[(14, none)], [(4, none)], [(85, some 0), (86, some 1)], [(87, some 2)], [(14, none)], [(89, some 4)], [(5, none)], [(91, some 6)], [(15, none)], [(92, some 7), (93, some 8)], [(90, some 5), (94, some 9)], [(88, some 3), (95, some 10)], [(96, some 11)], [(5, none)], [(14, none)], [(98, some 13), (99, some 14)], [(5, none)], [(100, some 15), (101, some 16)], [(97, some 12), (102, some 17)], [(103, some 18)], [(5, none)], [(105, some 20)], [(5, none)], [(106, some 21), (107, some 22)], [(104, some 19), (108, some 23)], [(109, some 24)], [(14, none)], [(4, none)], [(4, none)], [(112, some 27), (113, some 28)], [(111, some 26), (114, some 29)], [(14, none)], [(115, some 30), (116, some 31)], [(110, some 25), (117, some 32)], [(118, some 33)]]) (by kernel_rfl) (by kernel_rfl) (by kernel_rfl) ?hS ?_
      rotate_left
      iterate 29 first
        | (refine chain_skip (by rfl) (by rfl) ?_)
        | (apply chain_want (by rfl)
           · intro act wx hS hr
             simp at hr
             have h1 := hS.blk.cells
             have h2 := hS.blk2.cells
             go_simp
             (try go_ints)
             first
               | exact Done.same (v := cls _)
               | ((with_reducible refine (add0 _).mono ?_); rintro e w' ⟨rfl, hb⟩; exact Done.mk hb)
               | ((with_reducible refine (hasc _).mono ?_); rintro e w' ⟨rfl, hb⟩; exact Done.mk hb)
               | ((with_reducible refine (andc _).mono ?_); rintro e w' ⟨rfl, hb⟩; exact Done.mk hb)
               | ((with_reducible refine (cnta _).mono ?_); rintro e w' ⟨rfl, hb⟩; exact Done.mk hb)
               | ((with_reducible refine (cntc _).mono ?_); rintro e w' ⟨rfl, hb⟩; exact Done.mk hb)
               | (obtain ⟨hr1, v, hr2, b, rfl, hrow⟩ := hr; simp only [hr2]; refine (add_any (a ||| one c) [c, c] _ _ _ hrow).mono ?_; rintro e w' ⟨rfl, hb⟩; rw [HCC.out]; exact Done.mk hb)
               | exact Done.same
          )
      (refine chain_rel (NewRow [c, c]) (NewRow.later [c, c]) (by rfl) ?_ ?_
       · intro act wx hS hr
         simp at hr
         have h1 := hS.blk.cells
         have h2 := hS.blk2.cells
         go_simp
         exact Done.rel ((Below.refl _ _).alloc (Nat.le_refl _) _) (HN _)
      )
      iterate 5 first
        | (refine chain_skip (by rfl) (by rfl) ?_)
        | (apply chain_want (by rfl)
           · intro act wx hS hr
             simp at hr
             have h1 := hS.blk.cells
             have h2 := hS.blk2.cells
             go_simp
             (try go_ints)
             first
               | exact Done.same (v := cls _)
               | ((with_reducible refine (add0 _).mono ?_); rintro e w' ⟨rfl, hb⟩; exact Done.mk hb)
               | ((with_reducible refine (hasc _).mono ?_); rintro e w' ⟨rfl, hb⟩; exact Done.mk hb)
               | ((with_reducible refine (andc _).mono ?_); rintro e w' ⟨rfl, hb⟩; exact Done.mk hb)
               | ((with_reducible refine (cnta _).mono ?_); rintro e w' ⟨rfl, hb⟩; exact Done.mk hb)
               | ((with_reducible refine (cntc _).mono ?_); rintro e w' ⟨rfl, hb⟩; exact Done.mk hb)
               | (obtain ⟨hr1, v, hr2, b, rfl, hrow⟩ := hr; simp only [hr2]; refine (add_any (a ||| one c) [c, c] _ _ _ hrow).mono ?_; rintro e w' ⟨rfl, hb⟩; rw [HCC.out]; exact Done.mk hb)
               | exact Done.same
          )
      show ∀ w', _ → _
      intro wz hz
      simp [Act.put]
      case hS => exact h6
      intro v hv
      go_wp2
      go_ret
      exact ⟨rfl, hz.below⟩
end Go.Proofs.YtmnebddgbkkajaaDoor
