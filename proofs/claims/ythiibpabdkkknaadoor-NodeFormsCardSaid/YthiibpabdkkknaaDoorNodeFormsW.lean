/- The statement NodeForms of layer 4, walked. -/
import Derived.Test.YthiibpabdkkknaaDoorNodePartsW
import Derived.Test.YthiibpabdkkknaaDoorNodeRMoved
namespace Go.Proofs.YthiibpabdkkknaaDoor
open Go Go.RowKit
set_option linter.unusedVariables false
set_option linter.unusedSimpArgs false

theorem okN.kind9 {l : List Nd} {i : Nat} {n : Nd} (h : okN l i n) : n.kind ≤ 9 := by
  obtain ⟨_, h⟩ := h; omega
set_option maxHeartbeats 8000000 in
set_option maxRecDepth 100000 in
theorem rsub_any (l : List Nd) (A : Option Addr) (c i : Nat) (hc : l.length ≤ c) (hi : i < l.length) (hlen : l.length ≤ 536870912) (hok : okTo l i) (htx : Txt l) (w : World) (hrow : NRow w A l) :
    Calls Tryd.prog 40 #[.agg #[.slice A l.length c], .int .i64 (i : Int)] w (DPost w (subL l i)) := by
  have HS0 := Lib.hid (SbS.new w A l c hrow)
  have HF : Hid (∀ w', NRow w' A l → Calls Tryd.prog 38 #[.slice A l.length c, .int .i64 (i : Int)] w' (Ans w' (.int .i64 (firstP l i : Int)))) := fun w' h => by
    have := reffirst_any l A c (by omega) htx (i + 1) (by omega) w' h
    rw [refG_ok l i hok] at this
    rwa [show ((i + 1 : Nat) : Int) - 1 = (i : Int) by omega] at this
  obtain ⟨ba, oa, rfl, hbl, -⟩ := hrow i hi
  have HOK := Lib.hid hok
  have HTX := Lib.hid htx
  clear hrow hok htx
  go_enter Tryd.func40, Tryd.ntmps40
  go_upto_region 1 with (fail)
  generalize (w.alloc (.cells #[.slice (some ⟨ba, oa, none⟩) l.length c] 55)).alloc (.cells #[.slice none 0 0] 55) = w1 at *
  have e0 := HS0.out.fst.box.cell 0
  simp at e0
  go_wp2_with fail
  refine (HF.out _ HS0.out.fst.row).mono ?_; rintro e w3 ⟨rfl, hb3⟩
  have HS3 := Lib.hid (HS0.out.later hb3)
  clear hb3 e0
  have e0 := HS3.out.fst.box.cell 0
  simp at e0
  have hfi := firstP_le l i
  have HM : Hid (∀ n ∈ seg l (firstP l i) (i + 1 - firstP l i), MvOk (-(firstP l i : Int)) n ∧ n.kind ≤ 9) := fun n hn => by
    obtain ⟨j, h1, h2, rfl⟩ := mem_seg (by omega) hn
    exact ⟨(HOK.out j (by omega)).mvOk (by omega) (txt_at HTX.out j) (by omega) (by omega), (HOK.out j (by omega)).kind9⟩
  have HSL : Hid (∀ w', NRow w' (some ⟨ba, oa, none⟩) l → NRow w' (some ⟨ba, oa + firstP l i * 10, none⟩) (seg l (firstP l i) (i + 1 - firstP l i))) := fun w' h => h.part (by omega)
  have HLN : Hid ((seg l (firstP l i) (i + 1 - firstP l i)).length = i + 1 - firstP l i) := seg_length (by omega)
  have HSU : Hid (subL l i = (seg l (firstP l i) (i + 1 - firstP l i)).map (mvN (-(firstP l i : Int)))) := rfl
  clear HF
  generalize firstP l i = f at *
  generalize seg l f (i + 1 - f) = m at *
  have hic : (i : Int) + 1 ≤ (c : Int) := by omega
  have hfz : (f : Int) ≤ (i : Int) + 1 := by omega
  have hfc : ¬ (f = c) := by omega
  have LC : Hid (Calls Tryd.prog 67 #[.slice (some ⟨ba, oa + f * 10, none⟩) (i + 1 - f) (c - f), .int .i64 (-(f : Int))] w3 (LaidPost w3 w3.heap.size (subL l i))) := by
    have h := rmoved_any m (-(f : Int)) (some ⟨ba, oa + f * 10, none⟩) (c - f) w3 (HSL.out _ HS3.out.fst.row) (by rw [HLN.out]; omega) HM.out
    rw [HLN.out] at h
    unfold Hid; rw [HSU.out]; exact h
  go_wp2_with fail
  refine LC.out.mono ?_; intro e w4 hp; obtain ⟨s, rfl, ho, hb4⟩ := hp
  obtain ⟨A2, c2, rfl, -⟩ := ho.row
  have HS4 := Lib.hid (HS3.out.later hb4)
  have HO := Lib.hid ho
  have hlow : w.heap.size + 1 < w3.heap.size := HS3.out.res.lt
  clear hb4 ho e0 LC
  have r0 := HS4.out.res.cell 0
  simp at r0
  have rf := HS4.out.res.frozen
  have s0 := HS4.out.res.put10 (o := 0) (by simp)
  go_wp2
  exact bodyPost_ret (v := .agg #[.slice A2 (subL l i).length c2]) (by simp [results, Tryd.results40, go_sem, s0]) rfl ⟨_, rfl, (HO.out.setCell_ne (a := ⟨w.heap.size + 1, 0, none⟩) hlow _).weaken (by omega), HS4.out.fst.bel.setCell (p := ⟨w.heap.size + 1, 0, none⟩) (Nat.le_succ _) _⟩
theorem IsD.rsame {a b : List Nd} {u v : Value} {w : World} (h : IsD a u w) (k : IsD b v w) (h1 : a.length ≤ 1073741824) (h2 : b.length ≤ 1073741824) : Calls Tryd.prog 36 #[u, v] w (Ans w (.bool (decide (a = b)))) := by
  obtain ⟨A, c, _, rfl, hr⟩ := h
  obtain ⟨B, d, _, rfl, hs⟩ := k
  exact refnsame_any a b A B c d w hr hs h1 h2
structure NfS (w0 : World) (A B : Option Addr) (a b : List Nd) (c1 c2 : Nat) (w : World) : Prop where
  s : RsS w0 A B a b c1 c2 w
  u8 : U8T w
theorem NfS.later {w0 w w' : World} {A B : Option Addr} {a b : List Nd} {c1 c2 : Nat} (h : NfS w0 A B a b c1 c2 w) (hb : Below w.heap.size w w') : NfS w0 A B a b c1 c2 w' := ⟨h.s.later hb, h.u8.later hb⟩
set_option maxHeartbeats 64000000 in
set_option maxRecDepth 1000000 in
theorem nodeforms_walk (l m : List Nd) (A B : Option Addr) (c d q : Nat) (hq : q < 65536) (hc1 : l.length ≤ c) (hc2 : m.length ≤ d) (hl : l.length ≤ 9223372036854775807) (hm : m.length ≤ 9223372036854775807) (htx : Txt l) (htm : Txt m) (w : World) (hrow : NRow w A l) (hrm : NRow w B m) (hT : U8T w) :
    Calls Tryd.prog 9 #[.agg #[.slice A l.length c], .agg #[.slice B m.length d], .int .u16 (q : Int)] w (Ans w (.bool true)) := by
  have HS0 : Hid (NfS w A B l m c d ((w.alloc (.cells #[.slice A l.length c] 55)).alloc (.cells #[.slice B m.length d] 55))) := ⟨RsS.new w A B l m c d hrow hrm, hT.later (((Below.refl w.heap.size w).alloc (Nat.le_refl _) _).alloc (by simp) _)⟩
  have HTX := Lib.hid htx
  have HTM := Lib.hid htm
  have AW := Lib.hid (fun w' (h : U8T w') => awake4_any w' h)
  clear hrow hrm hT htx htm
  go_enter Tryd.func9, Tryd.ntmps9
  go_upto_region 1 with (fail)
  generalize (w.alloc (.cells #[.slice A l.length c] 55)).alloc (.cells #[.slice B m.length d] 55) = w1 at *
  have F1 : Hid (∀ w', NfS w A B l m c d w' → Calls Tryd.prog 32 #[.agg #[.slice A l.length c]] w' (Ans w' (.bool (fewB l)))) := fun w' h => few_any l A c hl HTX.out w' h.s.ra
  have F2 : Hid (∀ w', NfS w A B l m c d w' → Calls Tryd.prog 32 #[.agg #[.slice B m.length d]] w' (Ans w' (.bool (fewB m)))) := fun w' h => few_any m B d hm HTM.out w' h.s.rb
  by_cases hfs : fewB l = true ∧ fewB m = true
  · obtain ⟨hf1, hf2⟩ := hfs
    have L1 := Lib.hid (few_txt hf1).1
    have L2 := Lib.hid (few_txt hf2).1
    have F3 : Hid (∀ w', NfS w A B l m c d w' → Calls Tryd.prog 33 #[.agg #[.slice A l.length c]] w' (Ans w' (.bool (formB l)))) := fun w' h => form_any l A c (by have := L1.out; omega) HTX.out w' h.s.ra h.u8
    have F4 : Hid (∀ w', NfS w A B l m c d w' → Calls Tryd.prog 34 #[.agg #[.slice A l.length c]] w' (Ans w' (.bool (formB l)))) := fun w' h => refform_any l A c (by have := L1.out; omega) HTX.out w' h.s.ra
    have F5 : Hid (∀ w', NfS w A B l m c d w' → Calls Tryd.prog 35 #[.agg #[.slice A l.length c], .agg #[.slice B m.length d]] w' (Ans w' (.bool (decide (l = m))))) := fun w' h => nsame_any l m A B c d w' h.s.ra h.s.rb (by have := L1.out; omega) (by have := L2.out; omega)
    have F6 : Hid (∀ w', NfS w A B l m c d w' → Calls Tryd.prog 36 #[.agg #[.slice A l.length c], .agg #[.slice B m.length d]] w' (Ans w' (.bool (decide (l = m))))) := fun w' h => refnsame_any l m A B c d w' h.s.ra h.s.rb (by have := L1.out; omega) (by have := L2.out; omega)
    rw [hf1] at F1
    rw [hf2] at F2
    have hbb : ∀ b : Bool, (b != b) = false := fun b => by cases b <;> rfl
    generalize decide (l = m) = eqv at *
    cases hfo : formB l with
    | false =>
      rw [hfo] at F3 F4
      clear hf1 hf2 hfo
      cases eqv
      ·
        refine wp_region_stable (S := (NfS w A B l m c d)) (hSt := fun _ _ h hb => h.later hb) (plan := [[], [(8, some 0)], [(9, some 1)], [(3, none)], [(11, some 3)], [(12, some 4)], [(10, some 2), (13, some 5)], [(14, some 6)], [(4, none)], [(16, some 8)], [(17, some 9)], [(15, some 7), (18, some 10)], [(19, some 11)], [(3, none)], [(21, some 13)], [(3, none)], [(23, some 15)], [(22, some 14), (24, some 16)], [(20, some 12), (25, some 17)], [(26, some 18)], [(3, none)], [(4, none)], [(28, some 20), (29, some 21)], [(3, none)], [(4, none)], [(31, some 23), (32, some 24)], [(30, some 22), (33, some 25)], [(27, some 19), (34, some 26)]]) (by kernel_rfl) (by kernel_rfl) (by kernel_rfl) ?hS ?_
        rotate_left
        iterate 28 first
          | (refine chain_skip (by rfl) (by rfl) ?_)
          | (apply chain_want (by rfl)
             · intro act wx hS hr
               simp at hr
               have e0 := hS.s.ba.cell 0
               have e1 := hS.s.bb.cell 0
               simp at e0 e1
               go_simp
               (try go_ints)
               first
                 | ((with_reducible refine (AW.out _ hS.u8).mono ?_); rintro e w' ⟨rfl, hb⟩; exact Done.mk hb)
                 | ((with_reducible refine (F1.out _ hS).mono ?_); rintro e w' ⟨rfl, hb⟩; exact Done.mk hb)
                 | ((with_reducible refine (F2.out _ hS).mono ?_); rintro e w' ⟨rfl, hb⟩; exact Done.mk hb)
                 | ((with_reducible refine (F3.out _ hS).mono ?_); rintro e w' ⟨rfl, hb⟩; exact Done.mk hb)
                 | ((with_reducible refine (F4.out _ hS).mono ?_); rintro e w' ⟨rfl, hb⟩; exact Done.mk hb)
                 | ((with_reducible refine (F5.out _ hS).mono ?_); rintro e w' ⟨rfl, hb⟩; exact Done.mk hb)
                 | ((with_reducible refine (F6.out _ hS).mono ?_); rintro e w' ⟨rfl, hb⟩; exact Done.mk hb)
                 | exact Done.same
            )
        show ∀ w', _ → _
        intro wz hz
        simp [Act.put]
        case hS => exact HS0.out
        have HZ := Lib.hid hz
        clear hz
        have e0 := HZ.out.s.ba.cell 0
        simp at e0
        go_wp2_with fail
        refine (F4.out _ HZ.out).mono ?_; rintro e w3 ⟨rfl, hb3⟩
        have HS3 := Lib.hid (HZ.out.later hb3)
        clear hb3 e0
        go_wp2
        go_ret
        exact ⟨rfl, HS3.out.s.bel⟩
      ·
        refine wp_region_stable (S := (NfS w A B l m c d)) (hSt := fun _ _ h hb => h.later hb) (plan := [[], [(8, some 0)], [(9, some 1)], [(3, none)], [(11, some 3)], [(12, some 4)], [(10, some 2), (13, some 5)], [(14, some 6)], [(4, none)], [(16, some 8)], [(17, some 9)], [(15, some 7), (18, some 10)], [(19, some 11)], [(3, none)], [(21, some 13)], [(3, none)], [(23, some 15)], [(22, some 14), (24, some 16)], [(20, some 12), (25, some 17)], [(26, some 18)], [(3, none)], [(4, none)], [(28, some 20), (29, some 21)], [(3, none)], [(4, none)], [(31, some 23), (32, some 24)], [(30, some 22), (33, some 25)], [(27, some 19), (34, some 26)]]) (by kernel_rfl) (by kernel_rfl) (by kernel_rfl) ?hS ?_
        rotate_left
        iterate 28 first
          | (refine chain_skip (by rfl) (by rfl) ?_)
          | (apply chain_want (by rfl)
             · intro act wx hS hr
               simp at hr
               have e0 := hS.s.ba.cell 0
               have e1 := hS.s.bb.cell 0
               simp at e0 e1
               go_simp
               (try go_ints)
               first
                 | ((with_reducible refine (AW.out _ hS.u8).mono ?_); rintro e w' ⟨rfl, hb⟩; exact Done.mk hb)
                 | ((with_reducible refine (F1.out _ hS).mono ?_); rintro e w' ⟨rfl, hb⟩; exact Done.mk hb)
                 | ((with_reducible refine (F2.out _ hS).mono ?_); rintro e w' ⟨rfl, hb⟩; exact Done.mk hb)
                 | ((with_reducible refine (F3.out _ hS).mono ?_); rintro e w' ⟨rfl, hb⟩; exact Done.mk hb)
                 | ((with_reducible refine (F4.out _ hS).mono ?_); rintro e w' ⟨rfl, hb⟩; exact Done.mk hb)
                 | ((with_reducible refine (F5.out _ hS).mono ?_); rintro e w' ⟨rfl, hb⟩; exact Done.mk hb)
                 | ((with_reducible refine (F6.out _ hS).mono ?_); rintro e w' ⟨rfl, hb⟩; exact Done.mk hb)
                 | exact Done.same
            )
        show ∀ w', _ → _
        intro wz hz
        simp [Act.put]
        case hS => exact HS0.out
        have HZ := Lib.hid hz
        clear hz
        have e0 := HZ.out.s.ba.cell 0
        simp at e0
        go_wp2_with fail
        refine (F4.out _ HZ.out).mono ?_; rintro e w3 ⟨rfl, hb3⟩
        have HS3 := Lib.hid (HZ.out.later hb3)
        clear hb3 e0
        go_wp2
        go_ret
        exact ⟨rfl, HS3.out.s.bel⟩
    | true =>
      have HFO := Lib.hid ((formB_iff l).1 hfo)
      rw [hfo] at F3 F4
      clear hf1 hf2 hfo
      cases eqv
      ·
        refine wp_region_stable (S := (NfS w A B l m c d)) (hSt := fun _ _ h hb => h.later hb) (plan := [[], [(8, some 0)], [(9, some 1)], [(3, none)], [(11, some 3)], [(12, some 4)], [(10, some 2), (13, some 5)], [(14, some 6)], [(4, none)], [(16, some 8)], [(17, some 9)], [(15, some 7), (18, some 10)], [(19, some 11)], [(3, none)], [(21, some 13)], [(3, none)], [(23, some 15)], [(22, some 14), (24, some 16)], [(20, some 12), (25, some 17)], [(26, some 18)], [(3, none)], [(4, none)], [(28, some 20), (29, some 21)], [(3, none)], [(4, none)], [(31, some 23), (32, some 24)], [(30, some 22), (33, some 25)], [(27, some 19), (34, some 26)]]) (by kernel_rfl) (by kernel_rfl) (by kernel_rfl) ?hS ?_
        rotate_left
        iterate 28 first
          | (refine chain_skip (by rfl) (by rfl) ?_)
          | (apply chain_want (by rfl)
             · intro act wx hS hr
               simp at hr
               have e0 := hS.s.ba.cell 0
               have e1 := hS.s.bb.cell 0
               simp at e0 e1
               go_simp
               (try go_ints)
               first
                 | ((with_reducible refine (AW.out _ hS.u8).mono ?_); rintro e w' ⟨rfl, hb⟩; exact Done.mk hb)
                 | ((with_reducible refine (F1.out _ hS).mono ?_); rintro e w' ⟨rfl, hb⟩; exact Done.mk hb)
                 | ((with_reducible refine (F2.out _ hS).mono ?_); rintro e w' ⟨rfl, hb⟩; exact Done.mk hb)
                 | ((with_reducible refine (F3.out _ hS).mono ?_); rintro e w' ⟨rfl, hb⟩; exact Done.mk hb)
                 | ((with_reducible refine (F4.out _ hS).mono ?_); rintro e w' ⟨rfl, hb⟩; exact Done.mk hb)
                 | ((with_reducible refine (F5.out _ hS).mono ?_); rintro e w' ⟨rfl, hb⟩; exact Done.mk hb)
                 | ((with_reducible refine (F6.out _ hS).mono ?_); rintro e w' ⟨rfl, hb⟩; exact Done.mk hb)
                 | exact Done.same
            )
        show ∀ w', _ → _
        intro wz hz
        simp [Act.put]
        case hS => exact HS0.out
        have HZ := Lib.hid hz
        clear hz
        have e0 := HZ.out.s.ba.cell 0
        simp at e0
        go_wp2_with fail
        refine (F4.out _ HZ.out).mono ?_; rintro e w3 ⟨rfl, hb3⟩
        have HS3 := Lib.hid (HZ.out.later hb3)
        clear hb3 e0
        have e0 := HS3.out.s.ba.cell 0
        simp at e0
        have hpos := HFO.out.1
        have hlen := L1.out
        have hposz : (0 : Int) < (l.length : Int) := by omega
        have hne : ((l.length : Int) == 0) = false := by rw [beq_eq_false_iff_ne]; omega
        have hmod : (q : Int) % (l.length : Int) = ((q % l.length : Nat) : Int) := by omega
        have hil : q % l.length < l.length := Nat.mod_lt _ hpos
        go_upto_region 6 with (fail)
        generalize hii : q % l.length = i at *
        rw [hmod]
        clear hii hmod hne hposz e0
        have HOK := Lib.hid (HFO.out.okTo hil)
        have C1 : Hid (∀ w', NfS w A B l m c d w' → Calls Tryd.prog 37 #[.agg #[.slice A l.length c], .int .i64 (i : Int)] w' (Ans w' (.int .i64 (firstP l i : Int)))) := fun w' h => first_any l A c i hil w' h.s.ra
        have C2 : Hid (∀ w', NfS w A B l m c d w' → Calls Tryd.prog 38 #[.slice A l.length c, .int .i64 (i : Int)] w' (Ans w' (.int .i64 (firstP l i : Int)))) := fun w' h => by
          have := reffirst_any l A c (by omega) HTX.out (i + 1) (by omega) w' h.s.ra
          rw [refG_ok l i HOK.out] at this
          rwa [show ((i + 1 : Nat) : Int) - 1 = (i : Int) by omega] at this
        have C3 : Hid (∀ w', NfS w A B l m c d w' → Calls Tryd.prog 39 #[.agg #[.slice A l.length c], .int .i64 (i : Int)] w' (DPost w' (subL l i))) := fun w' h => sub_any l A c i hc1 hil (by omega) HOK.out HTX.out w' h.s.ra
        have C4 : Hid (∀ w', NfS w A B l m c d w' → Calls Tryd.prog 40 #[.agg #[.slice A l.length c], .int .i64 (i : Int)] w' (DPost w' (subL l i))) := fun w' h => rsub_any l A c i hc1 hil (by omega) HOK.out HTX.out w' h.s.ra
        have CL : Hid ((subL l i).length ≤ 1073741824) := by unfold Hid; rw [subL_length hil]; omega
        generalize subL l i = M at *
        have hff : ((firstP l i : Int) == (firstP l i : Int)) = true := by simp
        generalize firstP l i = f at *
        refine wp_region_stable (S := (NfS w A B l m c d)) (hSt := fun _ _ h hb => h.later hb) (plan := [[(3, none)], [(7, none)], [(56, some 0), (57, some 1)], [(3, none)], [(59, some 3)], [(7, none)], [(60, some 4), (61, some 5)], [(58, some 2), (62, some 6)], [(63, some 7)], [(3, none)], [(7, none)], [(65, some 9), (66, some 10)], [(3, none)], [(7, none)], [(68, some 12), (69, some 13)], [(67, some 11), (70, some 14)], [(64, some 8), (71, some 15)], [(72, some 16)]]) (by kernel_rfl) (by kernel_rfl) (by kernel_rfl) ?hS ?_
        rotate_left
        iterate 11 first
          | (refine chain_skip (by rfl) (by rfl) ?_)
          | (apply chain_want (by rfl)
             · intro act wx hS hr
               simp at hr
               have e0 := hS.s.ba.cell 0
               simp at e0
               go_simp
               (try go_ints)
               first
                 | ((with_reducible refine (C1.out _ hS).mono ?_); rintro e w' ⟨rfl, hb⟩; exact Done.mk hb)
                 | ((with_reducible refine (C2.out _ hS).mono ?_); rintro e w' ⟨rfl, hb⟩; exact Done.mk hb)
                 | (obtain ⟨⟨u, hr1, hu⟩, v, hr2, hv⟩ := hr; have hf := hu.rsame hv CL.out CL.out; rw [decide_eq_true rfl] at hf; simp only [hr1, hr2, Option.getD_some]; refine hf.mono ?_; rintro e w' ⟨rfl, hb⟩; exact Done.mk (v := .bool true) hb)
                 | exact Done.same
            )
        (refine chain_rel (IsD M) (IsD.later _) (by rfl) ?_ ?_
         · intro act wx hS hr
           simp at hr
           have e0 := hS.s.ba.cell 0
           simp at e0
           all_goals go_simp
           ((with_reducible refine (C3.out _ hS).mono ?_); intro e w' hp; obtain ⟨s, rfl, ho, hb⟩ := hp; exact Done.rel hb ho.isD)
        )
        iterate 2 first
          | (refine chain_skip (by rfl) (by rfl) ?_)
          | (apply chain_want (by rfl)
             · intro act wx hS hr
               simp at hr
               have e0 := hS.s.ba.cell 0
               simp at e0
               go_simp
               (try go_ints)
               first
                 | ((with_reducible refine (C1.out _ hS).mono ?_); rintro e w' ⟨rfl, hb⟩; exact Done.mk hb)
                 | ((with_reducible refine (C2.out _ hS).mono ?_); rintro e w' ⟨rfl, hb⟩; exact Done.mk hb)
                 | (obtain ⟨⟨u, hr1, hu⟩, v, hr2, hv⟩ := hr; have hf := hu.rsame hv CL.out CL.out; rw [decide_eq_true rfl] at hf; simp only [hr1, hr2, Option.getD_some]; refine hf.mono ?_; rintro e w' ⟨rfl, hb⟩; exact Done.mk (v := .bool true) hb)
                 | exact Done.same
            )
        (refine chain_rel (IsD M) (IsD.later _) (by rfl) ?_ ?_
         · intro act wx hS hr
           simp at hr
           have e0 := hS.s.ba.cell 0
           simp at e0
           all_goals go_simp
           ((with_reducible refine (C4.out _ hS).mono ?_); intro e w' hp; obtain ⟨s, rfl, ho, hb⟩ := hp; exact Done.rel hb ho.isD)
        )
        iterate 3 first
          | (refine chain_skip (by rfl) (by rfl) ?_)
          | (apply chain_want (by rfl)
             · intro act wx hS hr
               simp at hr
               have e0 := hS.s.ba.cell 0
               simp at e0
               go_simp
               (try go_ints)
               first
                 | ((with_reducible refine (C1.out _ hS).mono ?_); rintro e w' ⟨rfl, hb⟩; exact Done.mk hb)
                 | ((with_reducible refine (C2.out _ hS).mono ?_); rintro e w' ⟨rfl, hb⟩; exact Done.mk hb)
                 | (obtain ⟨⟨u, hr1, hu⟩, v, hr2, hv⟩ := hr; have hf := hu.rsame hv CL.out CL.out; rw [decide_eq_true rfl] at hf; simp only [hr1, hr2, Option.getD_some]; refine hf.mono ?_; rintro e w' ⟨rfl, hb⟩; exact Done.mk (v := .bool true) hb)
                 | exact Done.same
            )
        show ∀ w', _ → _
        intro wy hy
        simp [Act.put]
        case hS => exact HS3.out
        have HY := Lib.hid hy
        clear hy
        intros
        go_wp2
        go_ret
        exact ⟨rfl, HY.out.s.bel⟩
      ·
        refine wp_region_stable (S := (NfS w A B l m c d)) (hSt := fun _ _ h hb => h.later hb) (plan := [[], [(8, some 0)], [(9, some 1)], [(3, none)], [(11, some 3)], [(12, some 4)], [(10, some 2), (13, some 5)], [(14, some 6)], [(4, none)], [(16, some 8)], [(17, some 9)], [(15, some 7), (18, some 10)], [(19, some 11)], [(3, none)], [(21, some 13)], [(3, none)], [(23, some 15)], [(22, some 14), (24, some 16)], [(20, some 12), (25, some 17)], [(26, some 18)], [(3, none)], [(4, none)], [(28, some 20), (29, some 21)], [(3, none)], [(4, none)], [(31, some 23), (32, some 24)], [(30, some 22), (33, some 25)], [(27, some 19), (34, some 26)]]) (by kernel_rfl) (by kernel_rfl) (by kernel_rfl) ?hS ?_
        rotate_left
        iterate 28 first
          | (refine chain_skip (by rfl) (by rfl) ?_)
          | (apply chain_want (by rfl)
             · intro act wx hS hr
               simp at hr
               have e0 := hS.s.ba.cell 0
               have e1 := hS.s.bb.cell 0
               simp at e0 e1
               go_simp
               (try go_ints)
               first
                 | ((with_reducible refine (AW.out _ hS.u8).mono ?_); rintro e w' ⟨rfl, hb⟩; exact Done.mk hb)
                 | ((with_reducible refine (F1.out _ hS).mono ?_); rintro e w' ⟨rfl, hb⟩; exact Done.mk hb)
                 | ((with_reducible refine (F2.out _ hS).mono ?_); rintro e w' ⟨rfl, hb⟩; exact Done.mk hb)
                 | ((with_reducible refine (F3.out _ hS).mono ?_); rintro e w' ⟨rfl, hb⟩; exact Done.mk hb)
                 | ((with_reducible refine (F4.out _ hS).mono ?_); rintro e w' ⟨rfl, hb⟩; exact Done.mk hb)
                 | ((with_reducible refine (F5.out _ hS).mono ?_); rintro e w' ⟨rfl, hb⟩; exact Done.mk hb)
                 | ((with_reducible refine (F6.out _ hS).mono ?_); rintro e w' ⟨rfl, hb⟩; exact Done.mk hb)
                 | exact Done.same
            )
        show ∀ w', _ → _
        intro wz hz
        simp [Act.put]
        case hS => exact HS0.out
        have HZ := Lib.hid hz
        clear hz
        have e0 := HZ.out.s.ba.cell 0
        simp at e0
        go_wp2_with fail
        refine (F4.out _ HZ.out).mono ?_; rintro e w3 ⟨rfl, hb3⟩
        have HS3 := Lib.hid (HZ.out.later hb3)
        clear hb3 e0
        have e0 := HS3.out.s.ba.cell 0
        simp at e0
        have hpos := HFO.out.1
        have hlen := L1.out
        have hposz : (0 : Int) < (l.length : Int) := by omega
        have hne : ((l.length : Int) == 0) = false := by rw [beq_eq_false_iff_ne]; omega
        have hmod : (q : Int) % (l.length : Int) = ((q % l.length : Nat) : Int) := by omega
        have hil : q % l.length < l.length := Nat.mod_lt _ hpos
        go_upto_region 6 with (fail)
        generalize hii : q % l.length = i at *
        rw [hmod]
        clear hii hmod hne hposz e0
        have HOK := Lib.hid (HFO.out.okTo hil)
        have C1 : Hid (∀ w', NfS w A B l m c d w' → Calls Tryd.prog 37 #[.agg #[.slice A l.length c], .int .i64 (i : Int)] w' (Ans w' (.int .i64 (firstP l i : Int)))) := fun w' h => first_any l A c i hil w' h.s.ra
        have C2 : Hid (∀ w', NfS w A B l m c d w' → Calls Tryd.prog 38 #[.slice A l.length c, .int .i64 (i : Int)] w' (Ans w' (.int .i64 (firstP l i : Int)))) := fun w' h => by
          have := reffirst_any l A c (by omega) HTX.out (i + 1) (by omega) w' h.s.ra
          rw [refG_ok l i HOK.out] at this
          rwa [show ((i + 1 : Nat) : Int) - 1 = (i : Int) by omega] at this
        have C3 : Hid (∀ w', NfS w A B l m c d w' → Calls Tryd.prog 39 #[.agg #[.slice A l.length c], .int .i64 (i : Int)] w' (DPost w' (subL l i))) := fun w' h => sub_any l A c i hc1 hil (by omega) HOK.out HTX.out w' h.s.ra
        have C4 : Hid (∀ w', NfS w A B l m c d w' → Calls Tryd.prog 40 #[.agg #[.slice A l.length c], .int .i64 (i : Int)] w' (DPost w' (subL l i))) := fun w' h => rsub_any l A c i hc1 hil (by omega) HOK.out HTX.out w' h.s.ra
        have CL : Hid ((subL l i).length ≤ 1073741824) := by unfold Hid; rw [subL_length hil]; omega
        generalize subL l i = M at *
        have hff : ((firstP l i : Int) == (firstP l i : Int)) = true := by simp
        generalize firstP l i = f at *
        refine wp_region_stable (S := (NfS w A B l m c d)) (hSt := fun _ _ h hb => h.later hb) (plan := [[(3, none)], [(7, none)], [(56, some 0), (57, some 1)], [(3, none)], [(59, some 3)], [(7, none)], [(60, some 4), (61, some 5)], [(58, some 2), (62, some 6)], [(63, some 7)], [(3, none)], [(7, none)], [(65, some 9), (66, some 10)], [(3, none)], [(7, none)], [(68, some 12), (69, some 13)], [(67, some 11), (70, some 14)], [(64, some 8), (71, some 15)], [(72, some 16)]]) (by kernel_rfl) (by kernel_rfl) (by kernel_rfl) ?hS ?_
        rotate_left
        iterate 11 first
          | (refine chain_skip (by rfl) (by rfl) ?_)
          | (apply chain_want (by rfl)
             · intro act wx hS hr
               simp at hr
               have e0 := hS.s.ba.cell 0
               simp at e0
               go_simp
               (try go_ints)
               first
                 | ((with_reducible refine (C1.out _ hS).mono ?_); rintro e w' ⟨rfl, hb⟩; exact Done.mk hb)
                 | ((with_reducible refine (C2.out _ hS).mono ?_); rintro e w' ⟨rfl, hb⟩; exact Done.mk hb)
                 | (obtain ⟨⟨u, hr1, hu⟩, v, hr2, hv⟩ := hr; have hf := hu.rsame hv CL.out CL.out; rw [decide_eq_true rfl] at hf; simp only [hr1, hr2, Option.getD_some]; refine hf.mono ?_; rintro e w' ⟨rfl, hb⟩; exact Done.mk (v := .bool true) hb)
                 | exact Done.same
            )
        (refine chain_rel (IsD M) (IsD.later _) (by rfl) ?_ ?_
         · intro act wx hS hr
           simp at hr
           have e0 := hS.s.ba.cell 0
           simp at e0
           all_goals go_simp
           ((with_reducible refine (C3.out _ hS).mono ?_); intro e w' hp; obtain ⟨s, rfl, ho, hb⟩ := hp; exact Done.rel hb ho.isD)
        )
        iterate 2 first
          | (refine chain_skip (by rfl) (by rfl) ?_)
          | (apply chain_want (by rfl)
             · intro act wx hS hr
               simp at hr
               have e0 := hS.s.ba.cell 0
               simp at e0
               go_simp
               (try go_ints)
               first
                 | ((with_reducible refine (C1.out _ hS).mono ?_); rintro e w' ⟨rfl, hb⟩; exact Done.mk hb)
                 | ((with_reducible refine (C2.out _ hS).mono ?_); rintro e w' ⟨rfl, hb⟩; exact Done.mk hb)
                 | (obtain ⟨⟨u, hr1, hu⟩, v, hr2, hv⟩ := hr; have hf := hu.rsame hv CL.out CL.out; rw [decide_eq_true rfl] at hf; simp only [hr1, hr2, Option.getD_some]; refine hf.mono ?_; rintro e w' ⟨rfl, hb⟩; exact Done.mk (v := .bool true) hb)
                 | exact Done.same
            )
        (refine chain_rel (IsD M) (IsD.later _) (by rfl) ?_ ?_
         · intro act wx hS hr
           simp at hr
           have e0 := hS.s.ba.cell 0
           simp at e0
           all_goals go_simp
           ((with_reducible refine (C4.out _ hS).mono ?_); intro e w' hp; obtain ⟨s, rfl, ho, hb⟩ := hp; exact Done.rel hb ho.isD)
        )
        iterate 3 first
          | (refine chain_skip (by rfl) (by rfl) ?_)
          | (apply chain_want (by rfl)
             · intro act wx hS hr
               simp at hr
               have e0 := hS.s.ba.cell 0
               simp at e0
               go_simp
               (try go_ints)
               first
                 | ((with_reducible refine (C1.out _ hS).mono ?_); rintro e w' ⟨rfl, hb⟩; exact Done.mk hb)
                 | ((with_reducible refine (C2.out _ hS).mono ?_); rintro e w' ⟨rfl, hb⟩; exact Done.mk hb)
                 | (obtain ⟨⟨u, hr1, hu⟩, v, hr2, hv⟩ := hr; have hf := hu.rsame hv CL.out CL.out; rw [decide_eq_true rfl] at hf; simp only [hr1, hr2, Option.getD_some]; refine hf.mono ?_; rintro e w' ⟨rfl, hb⟩; exact Done.mk (v := .bool true) hb)
                 | exact Done.same
            )
        show ∀ w', _ → _
        intro wy hy
        simp [Act.put]
        case hS => exact HS3.out
        have HY := Lib.hid hy
        clear hy
        intros
        go_wp2
        go_ret
        exact ⟨rfl, HY.out.s.bel⟩
  · have F3 : Hid (∀ w', NfS w A B l m c d w' → True) := fun _ _ => trivial
    have F4 := F3
    have F5 := F3
    have F6 := F3
    by_cases hf1 : fewB l = true
    · have hf2 : fewB m = false := by cases h : fewB m with | false => rfl | true => exact absurd ⟨hf1, h⟩ hfs
      rw [hf1] at F1
      rw [hf2] at F2
      clear hf1 hf2 hfs
      refine wp_region_stable (S := (NfS w A B l m c d)) (hSt := fun _ _ h hb => h.later hb) (plan := [[], [(8, some 0)], [(9, some 1)], [(3, none)], [(11, some 3)], [(12, some 4)], [(10, some 2), (13, some 5)], [(14, some 6)], [(4, none)], [(16, some 8)], [(17, some 9)], [(15, some 7), (18, some 10)], [(19, some 11)], [(3, none)], [(21, some 13)], [(3, none)], [(23, some 15)], [(22, some 14), (24, some 16)], [(20, some 12), (25, some 17)], [(26, some 18)], [(3, none)], [(4, none)], [(28, some 20), (29, some 21)], [(3, none)], [(4, none)], [(31, some 23), (32, some 24)], [(30, some 22), (33, some 25)], [(27, some 19), (34, some 26)]]) (by kernel_rfl) (by kernel_rfl) (by kernel_rfl) ?hS ?_
      rotate_left
      iterate 28 first
        | (refine chain_skip (by rfl) (by rfl) ?_)
        | (apply chain_want (by rfl)
           · intro act wx hS hr
             simp at hr
             have e0 := hS.s.ba.cell 0
             have e1 := hS.s.bb.cell 0
             simp at e0 e1
             go_simp
             (try go_ints)
             first
               | ((with_reducible refine (AW.out _ hS.u8).mono ?_); rintro e w' ⟨rfl, hb⟩; exact Done.mk hb)
               | ((with_reducible refine (F1.out _ hS).mono ?_); rintro e w' ⟨rfl, hb⟩; exact Done.mk hb)
               | ((with_reducible refine (F2.out _ hS).mono ?_); rintro e w' ⟨rfl, hb⟩; exact Done.mk hb)
               | ((with_reducible refine (F3.out _ hS).mono ?_); rintro e w' ⟨rfl, hb⟩; exact Done.mk hb)
               | ((with_reducible refine (F4.out _ hS).mono ?_); rintro e w' ⟨rfl, hb⟩; exact Done.mk hb)
               | ((with_reducible refine (F5.out _ hS).mono ?_); rintro e w' ⟨rfl, hb⟩; exact Done.mk hb)
               | ((with_reducible refine (F6.out _ hS).mono ?_); rintro e w' ⟨rfl, hb⟩; exact Done.mk hb)
               | exact Done.same
          )
      show ∀ w', _ → _
      intro wz hz
      simp [Act.put]
      case hS => exact HS0.out
      have HZ := Lib.hid hz
      clear hz
      go_wp2_with fail
      refine (AW.out _ HZ.out.u8).mono ?_; rintro e w3 ⟨rfl, hb3⟩
      have HS3 := Lib.hid (HZ.out.later hb3)
      clear hb3
      have e0 := HS3.out.s.ba.cell 0
      simp at e0
      go_wp2_with fail
      refine (F1.out _ HS3.out).mono ?_; rintro e w4 ⟨rfl, hb4⟩
      have HS4 := Lib.hid (HS3.out.later hb4)
      clear hb4 e0
      have e1 := HS4.out.s.bb.cell 0
      simp at e1
      go_wp2_with fail
      refine (F2.out _ HS4.out).mono ?_; rintro e w5 ⟨rfl, hb5⟩
      have HS5 := Lib.hid (HS4.out.later hb5)
      clear hb5 e1
      go_wp2
      go_ret
      exact ⟨rfl, HS5.out.s.bel⟩
    · have hf2 : fewB l = false := by cases h : fewB l with | false => rfl | true => exact absurd h hf1
      rw [hf2] at F1
      clear hf1 hf2 hfs
      refine wp_region_stable (S := (NfS w A B l m c d)) (hSt := fun _ _ h hb => h.later hb) (plan := [[], [(8, some 0)], [(9, some 1)], [(3, none)], [(11, some 3)], [(12, some 4)], [(10, some 2), (13, some 5)], [(14, some 6)], [(4, none)], [(16, some 8)], [(17, some 9)], [(15, some 7), (18, some 10)], [(19, some 11)], [(3, none)], [(21, some 13)], [(3, none)], [(23, some 15)], [(22, some 14), (24, some 16)], [(20, some 12), (25, some 17)], [(26, some 18)], [(3, none)], [(4, none)], [(28, some 20), (29, some 21)], [(3, none)], [(4, none)], [(31, some 23), (32, some 24)], [(30, some 22), (33, some 25)], [(27, some 19), (34, some 26)]]) (by kernel_rfl) (by kernel_rfl) (by kernel_rfl) ?hS ?_
      rotate_left
      iterate 28 first
        | (refine chain_skip (by rfl) (by rfl) ?_)
        | (apply chain_want (by rfl)
           · intro act wx hS hr
             simp at hr
             have e0 := hS.s.ba.cell 0
             have e1 := hS.s.bb.cell 0
             simp at e0 e1
             go_simp
             (try go_ints)
             first
               | ((with_reducible refine (AW.out _ hS.u8).mono ?_); rintro e w' ⟨rfl, hb⟩; exact Done.mk hb)
               | ((with_reducible refine (F1.out _ hS).mono ?_); rintro e w' ⟨rfl, hb⟩; exact Done.mk hb)
               | ((with_reducible refine (F2.out _ hS).mono ?_); rintro e w' ⟨rfl, hb⟩; exact Done.mk hb)
               | ((with_reducible refine (F3.out _ hS).mono ?_); rintro e w' ⟨rfl, hb⟩; exact Done.mk hb)
               | ((with_reducible refine (F4.out _ hS).mono ?_); rintro e w' ⟨rfl, hb⟩; exact Done.mk hb)
               | ((with_reducible refine (F5.out _ hS).mono ?_); rintro e w' ⟨rfl, hb⟩; exact Done.mk hb)
               | ((with_reducible refine (F6.out _ hS).mono ?_); rintro e w' ⟨rfl, hb⟩; exact Done.mk hb)
               | exact Done.same
          )
      show ∀ w', _ → _
      intro wz hz
      simp [Act.put]
      case hS => exact HS0.out
      have HZ := Lib.hid hz
      clear hz
      go_wp2_with fail
      refine (AW.out _ HZ.out.u8).mono ?_; rintro e w3 ⟨rfl, hb3⟩
      have HS3 := Lib.hid (HZ.out.later hb3)
      clear hb3
      have e0 := HS3.out.s.ba.cell 0
      simp at e0
      go_wp2_with fail
      refine (F1.out _ HS3.out).mono ?_; rintro e w4 ⟨rfl, hb4⟩
      have HS4 := Lib.hid (HS3.out.later hb4)
      clear hb4 e0
      go_wp2
      go_ret
      exact ⟨rfl, HS4.out.s.bel⟩
end Go.Proofs.YthiibpabdkkknaaDoor
