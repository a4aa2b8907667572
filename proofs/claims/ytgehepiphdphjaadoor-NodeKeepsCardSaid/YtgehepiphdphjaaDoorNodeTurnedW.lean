/- The statement NodeTurned of layer 4, walked. -/
import Derived.Test.YtgehepiphdphjaaDoorNodePartsW
import Derived.Test.YtgehepiphdphjaaDoorNodeAppend
namespace Go.Proofs.YtgehepiphdphjaaDoor
open Go Go.RowKit
set_option linter.unusedVariables false
set_option linter.unusedSimpArgs false

theorem okN.abound {l : List Nd} {i : Nat} {n : Nd} (hn : atN l i = n) (h : okN l i n) : 0 ≤ n.a ∧ n.a ≤ (i : Int) := by
  have c := h.cs hn
  cases c with
  | leaf hk hf =>
    have b2 := (h.leafs hk).1
    have a1 : n.a = 0 := by
      rw [← b2]; unfold backN; rcases hk with hk | hk | hk <;> simp [hk]
    omega
  | one hk hi ha => omega
  | two hk hi hb ha hf0 => have := firstP_le l (i - 1); omega
theorem NRow.take {w : World} {A : Option Addr} {l : List Nd} (h : NRow w A l) (n : Nat) : NRow w A (l.take n) := fun i hi => by
  rw [List.length_take] at hi
  have e : (l.take n).getD i nd0 = l.getD i nd0 := by
    rw [List.getD_eq_getElem?_getD, List.getD_eq_getElem?_getD, List.getElem?_take, if_pos (by omega)]
  rw [e]; exact h i (by omega)
theorem Txt.take {l : List Nd} (h : Txt l) (n : Nat) : Txt (l.take n) := fun x hx => h x (List.mem_of_mem_take hx)
theorem Txt.setA {l : List Nd} (h : Txt l) (i : Nat) (x : Int) : Txt (l.set i { l.getD i nd0 with a := x }) := fun n hn => by
  rcases List.mem_or_eq_of_mem_set hn with h1 | rfl
  · exact h n h1
  · exact txt_at h i
theorem Txt.app1 {l : List Nd} (h : Txt l) (i : Nat) : Txt (l ++ [l.getD i nd0]) := fun n hn => by
  rw [List.mem_append] at hn
  rcases hn with h1 | h1
  · exact h n h1
  · rw [List.mem_singleton] at h1; subst h1; exact txt_at h i
/-- A new empty row. -/
def NewE10 (v : Value) (w : World) : Prop := ∃ b, v = .slice (some ⟨b, 0, none⟩) 0 0 ∧ Blk w b #[] 59
theorem NewE10.later (v : Value) (w w' : World) (h : NewE10 v w) (hb : Below w.heap.size w w') : NewE10 v w' := by obtain ⟨b, h1, h2⟩ := h; exact ⟨b, h1, h2.later hb⟩
def OwnB (base : Nat) (l : List Nd) (v : Value) (w : World) : Prop := OwnN w base v l ∧ base ≤ w.heap.size
theorem OwnB.later (base : Nat) (l : List Nd) (v : Value) (w w' : World) (h : OwnB base l v w) (hb : Below w.heap.size w w') : OwnB base l v w' := ⟨h.1.later hb, Nat.le_trans h.2 hb.size⟩
def New10 (n : Nd) (v : Value) (w : World) : Prop := ∃ b, v = .slice (some ⟨b, 0, none⟩) 1 1 ∧ Blk w b (ndC n) 59
theorem New10.later (n : Nd) (v : Value) (w w' : World) (h : New10 n v w) (hb : Below w.heap.size w w') : New10 n v w' := by obtain ⟨b, h1, h2⟩ := h; exact ⟨b, h1, h2.later hb⟩
theorem OwnN.base {w : World} {b b' : Nat} {v : Value} {l : List Nd} (h : OwnN w b v l) (hb : b' ≤ b) : OwnN w b' v l := by
  obtain ⟨h0, ⟨hv, hn⟩ | ⟨g, cap, cur, hv, hg, hr⟩⟩ := h
  · exact ⟨h0, .inl ⟨hv, hn⟩⟩
  · exact ⟨h0, .inr ⟨g, cap, cur, hv, Nat.le_trans hb hg, hr⟩⟩
set_option maxHeartbeats 64000000 in
set_option maxRecDepth 1000000 in
theorem nodeturned_walk (l : List Nd) (A : Option Addr) (c q : Nat) (y : Int) (p : Nat) (hq : q < 65536) (hy : -128 ≤ y ∧ y ≤ 127) (hp : p < 65536) (hc2 : l.length ≤ c) (hl : l.length ≤ 9223372036854775807) (htx : Txt l) (w : World) (hrow : NRow w A l) (hT : U8T w) :
    Calls Tryd.prog 8 #[.agg #[.slice A l.length c], .int .u16 (q : Int), .int .i8 y, .int .u16 (p : Int)] w (Ans w (.bool true)) := by
  have HB := (Below.refl w.heap.size w).alloc (Nat.le_refl _) (.cells #[.slice A l.length c] 49)
  have HS0 : Hid (NpS w A l c (w.alloc (.cells #[.slice A l.length c] 49))) := ⟨⟨HB, hrow.later HB, Blk.new _ _ _⟩, hT.later HB⟩
  have HTX := Lib.hid htx
  have HT0 := Lib.hid hT
  clear hrow hT HB htx
  go_enter Tryd.func8, Tryd.ntmps8
  go_upto_region 1 with (fail)
  generalize w.alloc (.cells #[.slice A l.length c] 49) = w1 at *
  have e0 := HS0.out.fst.box.cell 0
  simp at e0
  go_wp2_with fail
  refine (awake4_any _ HS0.out.u8).mono ?_; rintro e w2 ⟨rfl, hb2⟩
  have HS2 := Lib.hid (HS0.out.later hb2)
  clear hb2 e0 HS0
  have e0 := HS2.out.fst.box.cell 0
  simp at e0
  have HF := Lib.hid (few_any l A c hl HTX.out _ HS2.out.fst.row)
  cases hf : fewB l with
  | false =>
    rw [hf] at HF
    clear hf
    go_wp2_with fail
    refine HF.out.mono ?_; rintro e w3 ⟨rfl, hba⟩
    have HSA := Lib.hid (HS2.out.later hba)
    clear hba e0
    go_wp2_with fail
    refine (awake4_any _ HSA.out.u8).mono ?_; rintro e w4 ⟨rfl, hbb⟩
    have HSB := Lib.hid (HSA.out.later hbb)
    clear hbb
    go_wp2
    go_ret
    exact ⟨rfl, HSB.out.fst.bel⟩
  | true =>
    rw [hf] at HF
    have HFW := Lib.hid (few_txt hf)
    have hlen : l.length ≤ 100 := HFW.out.1
    clear hf
    go_wp2_with fail
    refine HF.out.mono ?_; rintro e w3 ⟨rfl, hb3⟩
    have HS3 := Lib.hid (HS2.out.later hb3)
    clear hb3 e0 HS2 HF
    have e0 := HS3.out.fst.box.cell 0
    simp at e0
    have HF := Lib.hid (refform_any l A c (by omega) HTX.out _ HS3.out.fst.row)
    cases hf : formB l with
    | false =>
      rw [hf] at HF
      clear hf
      go_wp2_with fail
      refine HF.out.mono ?_; rintro e w4 ⟨rfl, hba⟩
      have HSA := Lib.hid (HS3.out.later hba)
      clear hba e0
      go_wp2_with fail
      refine (awake4_any _ HSA.out.u8).mono ?_; rintro e w5 ⟨rfl, hbb⟩
      have HSB := Lib.hid (HSA.out.later hbb)
      clear hbb
      go_wp2
      go_ret
      exact ⟨rfl, HSB.out.fst.bel⟩
    | true =>
      rw [hf] at HF
      have HFO := Lib.hid ((formB_iff l).1 hf)
      clear hf
      by_cases hy0 : y = 0
      · have hyz : (y == 0) = true := by rw [hy0]; rfl
        go_wp2_with fail
        refine HF.out.mono ?_; rintro e w4 ⟨rfl, hba⟩
        have HSA := Lib.hid (HS3.out.later hba)
        clear hba e0
        go_wp2_with fail
        refine (awake4_any _ HSA.out.u8).mono ?_; rintro e w5 ⟨rfl, hbb⟩
        have HSB := Lib.hid (HSA.out.later hbb)
        clear hbb
        go_wp2
        go_ret
        exact ⟨rfl, HSB.out.fst.bel⟩
      · have hyz : (y == 0) = false := by rw [beq_eq_false_iff_ne]; exact hy0
        have HY0 := Lib.hid hy0
        clear hy0
        have hpos := HFO.out.1
        obtain ⟨ba, oa, rfl, -, -⟩ := HS3.out.fst.row 0 hpos
        go_wp2_with fail
        refine HF.out.mono ?_; rintro e w4 ⟨rfl, hb4⟩
        have HS4 := Lib.hid (HS3.out.later hb4)
        clear hb4 e0 HS3 HF
        have e0 := HS4.out.fst.box.cell 0
        simp at e0
        have hposz : (0 : Int) < (l.length : Int) := by omega
        have hne : ((l.length : Int) == 0) = false := by rw [beq_eq_false_iff_ne]; omega
        have hmod : (q : Int) % (l.length : Int) = ((q % l.length : Nat) : Int) := by omega
        have hmod2 : (p : Int) % (l.length : Int) = ((p % l.length : Nat) : Int) := by omega
        have hil : q % l.length < l.length := Nat.mod_lt _ hpos
        have hkl : p % l.length < l.length := Nat.mod_lt _ hpos
        have hba := (Below.refl w4.heap.size w4).alloc (Nat.le_refl _) (.cells #[] 59)
        have HS5 := Lib.hid (HS4.out.later hba)
        have HE := Lib.hid (OwnN.empty (Blk.new w4 #[] 59) (Nat.le_refl w4.heap.size))
        have hlen2 : ([] : List Nd).length + l.length < 1073741824 := by simp; omega
        have hlow := hba.size
        have e0' := HS5.out.fst.box.cell 0
        simp at e0'
        go_upto_region 4 with (at_builtin; refine wpList_append_nrow rfl _ _ rfl w4.heap.size _ _ rfl HE.out ba oa _ l rfl HS5.out.fst.row hlen2 hlow ?_; intro v' w7 ho7 hb7; have HO7 : Hid (OwnN w7 w4.heap.size v' l) := ho7; have HB7 := Lib.hid (hba.trans (hb7 _ (Nat.le_refl _))); clear ho7 hb7)
        obtain ⟨g, cap, cur, rfl, hcap, hbg, hk7, hsz7, hcur7⟩ := HO7.out.blk hpos
        have HK7 := Lib.hid hk7
        have HSZ7 := Lib.hid hsz7
        have HCUR7 := Lib.hid hcur7
        have HS7 := Lib.hid (HS4.out.later HB7.out)
        have hr7 : NRow w7 (some ⟨g, 0, none⟩) l := by
          obtain ⟨a', c', e', h'⟩ := HO7.out.row
          cases e'; exact h'
        clear hk7 hsz7 hcur7 e0 e0' hba HE hlen2 hlow HS5
        go_upto_region 5 with (fail)
        have HAT : Hid (atN l (q % l.length) = l.getD (q % l.length) nd0) := rfl
        have HIL := Lib.hid hil
        have HOK := Lib.hid (HFO.out.2.1 _ hil)
        have hab := okN.abound rfl HOK.out
        have gA : At10 w7 g (0 + (q % l.length) * 10) (l.getD (q % l.length) nd0) := hr7.at hil rfl
        generalize hii : q % l.length = i at *
        rw [hmod]
        clear hii hmod hne hr7
        have hiz : (i : Int) < (l.length : Int) := by omega
        have HTN := Lib.hid (turned_not HFO.out hil HY0.out)
        rw [HAT.out] at HTN hab
        have HNR := Lib.hid (NRow.setA HK7.out HSZ7.out HCUR7.out hil ((l.getD i nd0).a + y))
        have HTX2 := Lib.hid (HTX.out.setA i ((l.getD i nd0).a + y))
        have HLS : Hid ((l.set i { l.getD i nd0 with a := (l.getD i nd0).a + y }).length = l.length) := List.length_set
        unfold At10 at gA
        obtain ⟨-, g1, -⟩ := gA
        have gf := HK7.out.frozen
        generalize l.set i { l.getD i nd0 with a := (l.getD i nd0).a + y } = L2 at *
        generalize (l.getD i nd0).a = na at *
        have hna : na ≤ 100 := by omega
        simp only [Nat.zero_add] at g1
        go_upto_region 6 with (fail)
        have HS8 : Hid (NpS w (some ⟨ba, oa, none⟩) l c (w7.setCell ⟨g, i * 10 + 1, none⟩ (.int .i64 (na + y)))) := HS4.out.later (HB7.out.setCell (p := ⟨g, i * 10 + 1, none⟩) hbg _)
        have HF2 : Hid (∀ w', NRow w' (some ⟨g, 0, none⟩) L2 → U8T w' → Calls Tryd.prog 31 #[.agg #[.slice (some ⟨g, 0, none⟩) l.length cap]] w' (Ans w' (.bool false))) := fun w' h hT => by
          have := form_any L2 (some ⟨g, 0, none⟩) cap (by rw [HLS.out]; omega) HTX2.out w' h hT
          rwa [formB_not HTN.out, HLS.out] at this
        generalize w7.setCell ⟨g, i * 10 + 1, none⟩ (.int .i64 (na + y)) = w8 at *
        clear g1 gf hab hna HK7 HSZ7 HCUR7 HS7 HO7 HB7 hbg hcap hiz HAT HIL HOK hil HS4 HTX2 HLS HTN
        go_wp2_with fail
        refine (HF2.out _ HNR.out HS8.out.u8).mono ?_; rintro e w9 ⟨rfl, hb9⟩
        have HS9 := Lib.hid (HS8.out.later hb9)
        clear hb9 HNR HF2 HS8
        have e0 := HS9.out.fst.box.cell 0
        simp at e0
        have hne : ((l.length : Int) == 0) = false := by rw [beq_eq_false_iff_ne]; omega
        go_upto_region 9 with (fail)
        generalize hkk : p % l.length = k at *
        rw [hmod2]
        clear hkk hmod2 hne hposz
        have HFI := Lib.hid (first_any l _ c k hkl _ HS9.out.fst.row)
        have HCF := Lib.hid (cut_form HFO.out hkl)
        obtain ⟨b, hb⟩ : ∃ b : Bool, b = decide (firstP l k = 0) := ⟨_, rfl⟩
        have HBB : Hid (((firstP l k : Int) == 0) = b) := by
          unfold Hid; rw [hb]
          by_cases hf : firstP l k = 0
          · rw [hf]; rfl
          · rw [decide_eq_false hf, beq_eq_false_iff_ne]; omega
        have HFT : Hid (formB (l.take (k + 1)) = b) := by
          unfold Hid; rw [hb]
          by_cases hf : firstP l k = 0
          · rw [decide_eq_true hf]; exact formB_eq (HCF.out.2 hf)
          · rw [decide_eq_false hf]; exact formB_not fun h => hf (HCF.out.1 h)
        clear hb
        go_wp2_with fail
        refine HFI.out.mono ?_; rintro e w10 ⟨rfl, hb10⟩
        have HS10 := Lib.hid (HS9.out.later hb10)
        clear hb10 HS9 HFI e0
        generalize (firstP l k : Int) = fz at *
        go_upto_region 10 with (fail)
        rw [HBB.out]
        have htl : (l.take (k + 1)).length = k + 1 := by rw [List.length_take]; omega
        have FT : Hid (∀ w', NpS w (some ⟨ba, oa, none⟩) l c w' → Calls Tryd.prog 31 #[.agg #[.slice (some ⟨ba, oa, none⟩) (k + 1) c]] w' (Ans w' (.bool b))) := fun w' h => by
          have := form_any (l.take (k + 1)) (some ⟨ba, oa, none⟩) c (by rw [htl]; omega) (HTX.out.take (k + 1)) w' (h.fst.row.take (k + 1)) h.u8
          rwa [HFT.out, htl] at this
        have hk1 : (k : Int) + 1 ≤ (c : Int) := by omega
        have hk2 : (k : Int) + 1 ≤ 101 := by omega
        have FA : Hid (∀ w', NRow w' (some ⟨ba, oa, none⟩) l → At10 w' ba (oa + 0 * 10) (l.getD 0 nd0)) := fun w' h => h.at hpos rfl
        have HMN := Lib.hid (more_not HFO.out)
        have HMT : Hid (Txt (l ++ [l.getD 0 nd0])) := HTX.out.app1 0
        have hlen3 : l.length < 536870912 := by omega
        have HML : Hid ((l ++ [l.getD 0 nd0]).length = l.length + 1) := by unfold Hid; simp
        have HM0 : Hid (formB (l ++ [l.getD 0 nd0]) = false) := formB_not HMN.out
        clear HMN htl HFT HCF HBB
        have hlow10 : w.heap.size ≤ w10.heap.size := HS10.out.fst.bel.size
        generalize l.getD 0 nd0 = n0 at *
        obtain ⟨kk, na, nb, nlo, nhi, ncls, ntext⟩ := n0
        refine wp_region_stable_tail 19 (S := (NpS w (some ⟨ba, oa, none⟩) l c)) (hSt := fun _ _ h hb => h.later hb) (plan := [[(4, none)], [(64, some 0)], [(11, none)], [(66, some 2)], [(65, some 1), (67, some 3)], [(68, some 4)], [(69, some 5)], [(12, none)], [(70, some 6), (71, some 7)], [(72, some 8)], [], [(4, none)], [(75, some 11)], [(74, some 10), (76, some 12)], [(4, none)], [(78, some 14)], [(79, some 15)], [(80, some 16)], [(81, some 17)]]) rfl rfl (by kernel_rfl) (by kernel_rfl) (by kernel_rfl) (by kernel_rfl) ?hS ?_
        rotate_left
        iterate 10 first
          | (refine chain_skip (by rfl) (by rfl) ?_)
          | (apply chain_want (by rfl)
             · intro act wx hS hr
               simp at hr
               have e0 := hS.fst.box.cell 0
               simp at e0
               have g := FA.out _ hS.fst.row
               unfold At10 at g
               simp only [Nat.zero_mul, Nat.add_zero] at g
               obtain ⟨g0, g1, g2, g3, g4, g5, g6, g7, g8, g9⟩ := g
               go_simp
               (try go_ints)
               first
                 | ((with_reducible refine (FT.out _ hS).mono ?_); rintro e w' ⟨rfl, hb⟩; exact Done.mk hb)
                 | exact Done.same
            )
        (refine chain_rel (NewE10) (NewE10.later) (by rfl) ?_ ?_
         · intro act wx hS hr
           simp at hr
           have e0 := hS.fst.box.cell 0
           simp at e0
           have g := FA.out _ hS.fst.row
           unfold At10 at g
           simp only [Nat.zero_mul, Nat.add_zero] at g
           obtain ⟨g0, g1, g2, g3, g4, g5, g6, g7, g8, g9⟩ := g
           all_goals go_simp
           exact Done.rel ((Below.refl _ _).alloc (Nat.le_refl _) _) ⟨_, rfl, Blk.new _ _ _⟩
        )
        iterate 2 first
          | (refine chain_skip (by rfl) (by rfl) ?_)
          | (apply chain_want (by rfl)
             · intro act wx hS hr
               simp at hr
               have e0 := hS.fst.box.cell 0
               simp at e0
               have g := FA.out _ hS.fst.row
               unfold At10 at g
               simp only [Nat.zero_mul, Nat.add_zero] at g
               obtain ⟨g0, g1, g2, g3, g4, g5, g6, g7, g8, g9⟩ := g
               go_simp
               (try go_ints)
               first
                 | ((with_reducible refine (FT.out _ hS).mono ?_); rintro e w' ⟨rfl, hb⟩; exact Done.mk hb)
                 | exact Done.same
            )
        (refine chain_rel (OwnB w.heap.size l) (OwnB.later w.heap.size l) (by rfl) ?_ ?_
         · intro act wx hS hr
           simp at hr
           have e0 := hS.fst.box.cell 0
           simp at e0
           have g := FA.out _ hS.fst.row
           unfold At10 at g
           simp only [Nat.zero_mul, Nat.add_zero] at g
           obtain ⟨g0, g1, g2, g3, g4, g5, g6, g7, g8, g9⟩ := g
           obtain ⟨⟨v, hr2, bb, rfl, hk⟩, hr3⟩ := hr
           refine wp_append_freshN (.tmp 74) (.tmp 76) rfl bb (by simp [Act.eval, hr2]) hk l (some ⟨ba, oa, none⟩) c (by simp [Act.eval, hr3]) hS.fst.row hpos hlen3 ?_
           intro v' w' q1 q2
           exact Done.rel q2 ⟨q1.base hS.fst.bel.size, Nat.le_trans hS.fst.bel.size q2.size⟩
           all_goals go_simp
        )
        iterate 4 first
          | (refine chain_skip (by rfl) (by rfl) ?_)
          | (apply chain_want (by rfl)
             · intro act wx hS hr
               simp at hr
               have e0 := hS.fst.box.cell 0
               simp at e0
               have g := FA.out _ hS.fst.row
               unfold At10 at g
               simp only [Nat.zero_mul, Nat.add_zero] at g
               obtain ⟨g0, g1, g2, g3, g4, g5, g6, g7, g8, g9⟩ := g
               go_simp
               (try go_ints)
               first
                 | ((with_reducible refine (FT.out _ hS).mono ?_); rintro e w' ⟨rfl, hb⟩; exact Done.mk hb)
                 | exact Done.same
            )
        (refine chain_rel (New10 (⟨kk, na, nb, nlo, nhi, ncls, ntext⟩ : Nd)) (New10.later _) (by rfl) ?_ ?_
         · intro act wx hS hr
           simp at hr
           have e0 := hS.fst.box.cell 0
           simp at e0
           have g := FA.out _ hS.fst.row
           unfold At10 at g
           simp only [Nat.zero_mul, Nat.add_zero] at g
           obtain ⟨g0, g1, g2, g3, g4, g5, g6, g7, g8, g9⟩ := g
           all_goals go_simp
           exact Done.rel ((Below.refl _ _).alloc (Nat.le_refl _) _) ⟨_, rfl, Blk.new _ _ _⟩
        )
        show ∀ w', _ → _
        intro wz hz
        simp [Act.put]
        case hS => exact HS10.out
        clear hk1 hk2 FT FA
        intro v0 _ v2 hv2 v7 hv7
        obtain ⟨bn, rfl, hbk⟩ := hv7
        (try simp only [beq_self_eq_true])
        have hl30 : l.length < 1073741824 := by omega
        refine BigFrame.wpList_want (by first | rfl | kernel_rfl) fun K hK => ?_
        refine wp_append_nd (.tmp 77) (.tmp 82) rfl w.heap.size v2 l rfl hv2.1 bn ⟨kk, na, nb, nlo, nhi, ncls, ntext⟩ rfl hbk hl30 hv2.2 ?_
        intro v' w' q1 q2
        refine hK _ _ ?_
        have hbz : Below w.heap.size wz w' := q2 _ (Nat.le_refl _)
        have HBZ := Lib.hid (hz.fst.bel.trans hbz)
        have HU := Lib.hid (HT0.out.later HBZ.out)
        obtain ⟨a', c', hv', hr'⟩ := q1.row
        subst hv'
        rw [HML.out]
        have FM := Lib.hid (form_any _ a' c' (by rw [HML.out]; omega) HMT.out w' hr' HU.out)
        rw [HM0.out, HML.out] at FM
        clear q1 q2 hbz hz hv2 hbk hK hr'
        simp [Act.put]
        go_simp
        go_wp2_with fail
        refine FM.out.mono ?_; rintro e w12 ⟨rfl, hb12⟩
        have HF := Lib.hid (HBZ.out.trans (hb12.mono HBZ.out.size))
        clear hb12
        go_wp2
        go_ret
        exact ⟨by first | rfl | simp, HF.out⟩
end Go.Proofs.YtgehepiphdphjaaDoor
