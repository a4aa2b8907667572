/- The statement ValueBuilt of layer 11, walked, of a program that writes values as it should. -/
import Derived.Test.YtgdlbahfmddkaaaM31
import Derived.Test.YtgdlbahfmddkaaaM32
namespace Go.Proofs.Ytgdlbahfmddkaaa
open Go Go.RowKit
set_option linter.unusedVariables false
set_option linter.unusedSimpArgs false

/-- Two descriptions, two values, and words. -/
structure VbS (w0 : World) (A B : Option Addr) (l m : List Nd) (c1 c2 : Nat) (v u : Vl) (P Q : Option Addr) (cv cu : Nat) (X : List (Wd × Value)) (w : World) : Prop where
  bel : Below w0.heap.size w0 w
  ra : NRow w A l
  rb : NRow w B m
  ba : Blk w w0.heap.size #[.slice A l.length c1] 24
  bb : Blk w (w0.heap.size + 1) #[.slice B m.length c2] 24
  bv : Blk w (w0.heap.size + 2) (vlC v P cv) 27
  bu : Blk w (w0.heap.size + 3) (vlC u Q cu) 27
  rv : VRow w P 0 v.kids
  ru : VRow w Q 0 u.kids
  ws : ∀ p ∈ X, IsW p.1 p.2 w
theorem VbS.later {w0 w w' : World} {A B : Option Addr} {l m : List Nd} {c1 c2 : Nat} {v u : Vl} {P Q : Option Addr} {cv cu : Nat} {X : List (Wd × Value)} (h : VbS w0 A B l m c1 c2 v u P Q cv cu X w) (hb : Below w.heap.size w w') : VbS w0 A B l m c1 c2 v u P Q cv cu X w' :=
  ⟨h.bel.trans (hb.mono h.bel.size), h.ra.later hb, h.rb.later hb, h.ba.later hb, h.bb.later hb, h.bv.later hb, h.bu.later hb, h.rv.later hb, h.ru.later hb, fun p hp => (h.ws p hp).later hb⟩
theorem VbS.more {w0 w : World} {A B : Option Addr} {l m : List Nd} {c1 c2 : Nat} {v u : Vl} {P Q : Option Addr} {cv cu : Nat} {X : List (Wd × Value)} (h : VbS w0 A B l m c1 c2 v u P Q cv cu X w) {W : Wd} {x : Value} (hx : IsW W x w) : VbS w0 A B l m c1 c2 v u P Q cv cu ((W, x) :: X) w :=
  ⟨h.bel, h.ra, h.rb, h.ba, h.bb, h.bv, h.bu, h.rv, h.ru, fun p hp => by
    rcases List.mem_cons.1 hp with e | e
    · rw [e]; exact hx
    · exact h.ws p e⟩
theorem VbS.new (w : World) (A B : Option Addr) (l m : List Nd) (c1 c2 : Nat) (v u : Vl) (P Q : Option Addr) (cv cu : Nat) (h1 : NRow w A l) (h2 : NRow w B m) (h3 : VRow w P 0 v.kids) (h4 : VRow w Q 0 u.kids) :
    VbS w A B l m c1 c2 v u P Q cv cu [] ((((w.alloc (.cells #[.slice A l.length c1] 24)).alloc (.cells #[.slice B m.length c2] 24)).alloc (.cells (vlC v P cv) 27)).alloc (.cells (vlC u Q cu) 27)) := by
  have HB := ((((Below.refl w.heap.size w).alloc (Nat.le_refl _) (.cells #[.slice A l.length c1] 24)).alloc (by simp) (.cells #[.slice B m.length c2] 24)).alloc (by simp; omega) (.cells (vlC v P cv) 27)).alloc (by simp; omega) (.cells (vlC u Q cu) 27)
  exact ⟨HB, h1.later HB, h2.later HB, (((Blk.new w _ _).alloc _).alloc _).alloc _, ((Blk.new' (by simp) _ _).alloc _).alloc _, (Blk.new' (by simp) _ _).alloc _, Blk.new' (by simp) _ _, h3.later HB, h4.later HB, fun p hp => by cases hp⟩
theorem IsW.le {W : Wd} {x : Value} {w : World} (h : IsW W x w) : W.length ≤ 1073741824 := by
  rcases h with ⟨-, rfl⟩ | ⟨b, off, cap, -, -, h5, -⟩
  · exact Nat.zero_le _
  · exact h5
def RowVs (s : Vs) (n : Nat) (v : Value) (w : World) : Prop := ∃ g, v = .slice (some ⟨g, 0, none⟩) n n ∧ VRow w (some ⟨g, 0, none⟩) 0 s
theorem RowVs.later (s : Vs) (n : Nat) : ∀ v w w', RowVs s n v w → Below w.heap.size w w' → RowVs s n v w' := fun v w w' ⟨g, h1, h2⟩ hb => ⟨g, h1, h2.later hb⟩
theorem pair_tx {l m : List Nd} (h : ∀ n ∈ l, n.text.length ≤ 2000) (k : ∀ n ∈ m, n.text.length ≤ 2000) (kind : Int) : ∀ n ∈ pairL kind l m, n.text.length ≤ 2000 := fun n hn => by
  unfold pairL at hn
  rcases List.mem_append.1 hn with h1 | h1
  · rcases List.mem_append.1 h1 with h2 | h2
    · exact h n h2
    · obtain ⟨q, hq, rfl⟩ := List.mem_map.1 h2
      have e : (mvN (l.length : Int) q).text = q.text := by unfold mvN; (repeat' split) <;> rfl
      rw [e]; exact k q hq
  · rw [List.mem_singleton.1 h1]; simp
theorem cnt_one (k : Int) (p : Int) (v : Vl) : cntV ⟨k, 0, [], p, Vs.of [v]⟩ = 1 + cntV v := by unfold cntV; simp only; rw [Vs.of, cntVs, Vs.of, cntVs]; omega
theorem cnt_two (k : Int) (v u : Vl) : cntV ⟨k, 0, [], 0, Vs.of [v, u]⟩ = 1 + cntV v + cntV u := by unfold cntV; simp only; rw [Vs.of, cntVs, Vs.of, cntVs, Vs.of, cntVs]; omega
set_option maxHeartbeats 64000000 in
set_option maxRecDepth 1000000 in
theorem valuebuilt_walk (HWR : WriteC) (HAW : Awake11) (l m : List Nd) (A B : Option Addr) (c1 c2 : Nat) (v u : Vl) (x y : Value) (hc1 : l.length ≤ c1) (hc2 : m.length ≤ c2) (hl : l.length ≤ 9223372036854775807) (hm : m.length ≤ 9223372036854775807) (htx : Txt l) (htm : Txt m) (hv : cntV v ≤ 1048576) (hu : cntV u ≤ 1048576) (w : World) (hrow : NRow w A l) (hrm : NRow w B m) (hx : IsV w x v) (hy : IsV w y u) :
    Calls Try.prog 6 #[.agg #[.slice A l.length c1], .agg #[.slice B m.length c2], x, y] w (Ans w (.bool true)) := by
  obtain ⟨P, cv, hcv, rfl, hkv⟩ := hx
  obtain ⟨Q, cu, hcu, rfl, hku⟩ := hy
  have HS0 := Lib.hid (VbS.new w A B l m c1 c2 v u P Q cv cu hrow hrm hkv hku)
  have HTX := Lib.hid htx
  have HTM := Lib.hid htm
  have FV : Hid (∀ w', VbS w A B l m c1 c2 v u P Q cv cu [] w' → Calls Try.prog 10 #[.agg (vlC v P cv)] w' (Ans w' (.bool (fewV v)))) := fun w' h => rfewv_any v (by omega) _ w' ⟨P, cv, hcv, rfl, h.rv⟩
  have FU : Hid (∀ w', VbS w A B l m c1 c2 v u P Q cv cu [] w' → Calls Try.prog 10 #[.agg (vlC u Q cu)] w' (Ans w' (.bool (fewV u)))) := fun w' h => rfewv_any u (by omega) _ w' ⟨Q, cu, hcu, rfl, h.ru⟩
  have HCN : Hid (fewV v = true → fewV u = true → cntV v ≤ 400 ∧ cntV u ≤ 400) := fun h1 h2 => by unfold fewV at h1 h2; simp at h1 h2; omega
  have HCV := Lib.hid hcv
  have HCU := Lib.hid hcu
  have HIV : Hid (∀ X w', VbS w A B l m c1 c2 v u P Q cv cu X w' → IsV w' (.agg (vlC v P cv)) v) := fun X w' h => ⟨P, cv, hcv, rfl, h.rv⟩
  have HIU : Hid (∀ X w', VbS w A B l m c1 c2 v u P Q cv cu X w' → IsV w' (.agg (vlC u Q cu)) u) := fun X w' h => ⟨Q, cu, hcu, rfl, h.ru⟩
  generalize fewV v = fv at *
  generalize fewV u = fu at *
  clear hrow hrm hkv hku htx htm hv hu
  obtain ⟨vk, vb, vt, vp, ks⟩ := v
  obtain ⟨uk, ub, ut, up, us⟩ := u
  simp only [vlC_five] at HS0 FV FU HIV HIU ⊢
  simp only at HCV HCU hcv hcu
  go_enter Try.func6, Try.ntmps6
  go_upto_region 1 with (fail)
  generalize (((w.alloc (.cells #[.slice A l.length c1] 24)).alloc (.cells #[.slice B m.length c2] 24)).alloc (.cells #[.int .i64 vk, .int .u8 ((vb.toNat : Nat) : Int), .string (bs vt), .int .i64 vp, .slice P ks.len cv] 27)).alloc (.cells #[.int .i64 uk, .int .u8 ((ub.toNat : Nat) : Int), .string (bs ut), .int .i64 up, .slice Q us.len cu] 27) = w1 at *
  go_wp2_with fail
  refine (HAW _).mono ?_; rintro e w2 ⟨rfl, hb⟩
  have HS2 := Lib.hid (HS0.out.later hb)
  clear hb HS0
  have e0 := HS2.out.ba.cell 0
  have e1 := HS2.out.bb.cell 0
  simp at e0 e1
  obtain ⟨b0, b1, b2, b3, b4⟩ := vl_cells HS2.out.bv
  obtain ⟨c0, c1', c2', c3, c4⟩ := vl_cells HS2.out.bu
  have HF := Lib.hid (few_any l A c1 hl HTX.out _ HS2.out.ra)
  cases hf : fewB l with
  | false =>
    rw [hf] at HF
    clear hf
    go_wp2_with fail
    refine HF.out.mono ?_; rintro e wa ⟨rfl, hb⟩
    have HSZ := Lib.hid (HS2.out.later hb)
    clear hb e0 e1 b0 b1 b2 b3 b4 c0 c1' c2' c3 c4 HF HS2
    go_wp2_with fail
    refine (HAW _).mono ?_; rintro e WN ⟨rfl, hb⟩
    have HSY := Lib.hid (HSZ.out.later hb)
    clear hb
    go_wp2
    go_ret
    exact ⟨rfl, HSY.out.bel⟩
  | true =>
    rw [hf] at HF
    have KF := Lib.hid hf
    clear hf
    go_wp2_with fail
    refine HF.out.mono ?_; rintro e w3 ⟨rfl, hb⟩
    have HS3 := Lib.hid (HS2.out.later hb)
    clear hb e0 e1 b0 b1 b2 b3 b4 c0 c1' c2' c3 c4 HF HS2
    have e0 := HS3.out.ba.cell 0
    have e1 := HS3.out.bb.cell 0
    simp at e0 e1
    obtain ⟨b0, b1, b2, b3, b4⟩ := vl_cells HS3.out.bv
    obtain ⟨c0, c1', c2', c3, c4⟩ := vl_cells HS3.out.bu
    have HF := Lib.hid (few_any m B c2 hm HTM.out _ HS3.out.rb)
    cases hf : fewB m with
    | false =>
      rw [hf] at HF
      clear hf
      go_wp2_with fail
      refine HF.out.mono ?_; rintro e wa ⟨rfl, hb⟩
      have HSZ := Lib.hid (HS3.out.later hb)
      clear hb e0 e1 b0 b1 b2 b3 b4 c0 c1' c2' c3 c4 HF HS3
      go_wp2_with fail
      refine (HAW _).mono ?_; rintro e WN ⟨rfl, hb⟩
      have HSY := Lib.hid (HSZ.out.later hb)
      clear hb
      go_wp2
      go_ret
      exact ⟨rfl, HSY.out.bel⟩
    | true =>
      rw [hf] at HF
      have KG := Lib.hid hf
      clear hf
      go_wp2_with fail
      refine HF.out.mono ?_; rintro e w4 ⟨rfl, hb⟩
      have HS4 := Lib.hid (HS3.out.later hb)
      clear hb e0 e1 b0 b1 b2 b3 b4 c0 c1' c2' c3 c4 HF HS3
      have e0 := HS4.out.ba.cell 0
      have e1 := HS4.out.bb.cell 0
      simp at e0 e1
      obtain ⟨b0, b1, b2, b3, b4⟩ := vl_cells HS4.out.bv
      obtain ⟨c0, c1', c2', c3, c4⟩ := vl_cells HS4.out.bu
      have HF := Lib.hid (rright_any l A c1 hc1 (by have := (few_txt KF.out).1; omega) HTX.out _ HS4.out.ra)
      cases hf : rgB l with
      | false =>
        rw [hf] at HF
        clear hf
        go_wp2_with fail
        refine HF.out.mono ?_; rintro e wa ⟨rfl, hb⟩
        have HSZ := Lib.hid (HS4.out.later hb)
        clear hb e0 e1 b0 b1 b2 b3 b4 c0 c1' c2' c3 c4 HF HS4
        go_wp2_with fail
        refine (HAW _).mono ?_; rintro e WN ⟨rfl, hb⟩
        have HSY := Lib.hid (HSZ.out.later hb)
        clear hb
        go_wp2
        go_ret
        exact ⟨rfl, HSY.out.bel⟩
      | true =>
        rw [hf] at HF
        have KR := Lib.hid hf
        clear hf
        go_wp2_with fail
        refine HF.out.mono ?_; rintro e w5 ⟨rfl, hb⟩
        have HS5 := Lib.hid (HS4.out.later hb)
        clear hb e0 e1 b0 b1 b2 b3 b4 c0 c1' c2' c3 c4 HF HS4
        have e0 := HS5.out.ba.cell 0
        have e1 := HS5.out.bb.cell 0
        simp at e0 e1
        obtain ⟨b0, b1, b2, b3, b4⟩ := vl_cells HS5.out.bv
        obtain ⟨c0, c1', c2', c3, c4⟩ := vl_cells HS5.out.bu
        have HF := Lib.hid (rright_any m B c2 hc2 (by have := (few_txt KG.out).1; omega) HTM.out _ HS5.out.rb)
        cases hf : rgB m with
        | false =>
          rw [hf] at HF
          clear hf
          go_wp2_with fail
          refine HF.out.mono ?_; rintro e wa ⟨rfl, hb⟩
          have HSZ := Lib.hid (HS5.out.later hb)
          clear hb e0 e1 b0 b1 b2 b3 b4 c0 c1' c2' c3 c4 HF HS5
          go_wp2_with fail
          refine (HAW _).mono ?_; rintro e WN ⟨rfl, hb⟩
          have HSY := Lib.hid (HSZ.out.later hb)
          clear hb
          go_wp2
          go_ret
          exact ⟨rfl, HSY.out.bel⟩
        | true =>
          rw [hf] at HF
          have KS := Lib.hid hf
          clear hf
          go_wp2_with fail
          refine HF.out.mono ?_; rintro e w6 ⟨rfl, hb⟩
          have HS6 := Lib.hid (HS5.out.later hb)
          clear hb e0 e1 b0 b1 b2 b3 b4 c0 c1' c2' c3 c4 HF HS5
          have e0 := HS6.out.ba.cell 0
          have e1 := HS6.out.bb.cell 0
          simp at e0 e1
          obtain ⟨b0, b1, b2, b3, b4⟩ := vl_cells HS6.out.bv
          obtain ⟨c0, c1', c2', c3, c4⟩ := vl_cells HS6.out.bu
          have HF := Lib.hid (FV.out _ HS6.out)
          cases hf : fv with
          | false =>
            rw [hf] at HF
            clear hf
            go_wp2_with fail
            refine HF.out.mono ?_; rintro e wa ⟨rfl, hb⟩
            have HSZ := Lib.hid (HS6.out.later hb)
            clear hb e0 e1 b0 b1 b2 b3 b4 c0 c1' c2' c3 c4 HF HS6
            go_wp2_with fail
            refine (HAW _).mono ?_; rintro e WN ⟨rfl, hb⟩
            have HSY := Lib.hid (HSZ.out.later hb)
            clear hb
            go_wp2
            go_ret
            exact ⟨rfl, HSY.out.bel⟩
          | true =>
            rw [hf] at HF
            have KV := Lib.hid hf
            clear hf
            go_wp2_with fail
            refine HF.out.mono ?_; rintro e w7 ⟨rfl, hb⟩
            have HS7 := Lib.hid (HS6.out.later hb)
            clear hb e0 e1 b0 b1 b2 b3 b4 c0 c1' c2' c3 c4 HF HS6
            have e0 := HS7.out.ba.cell 0
            have e1 := HS7.out.bb.cell 0
            simp at e0 e1
            obtain ⟨b0, b1, b2, b3, b4⟩ := vl_cells HS7.out.bv
            obtain ⟨c0, c1', c2', c3, c4⟩ := vl_cells HS7.out.bu
            have HF := Lib.hid (FU.out _ HS7.out)
            cases hf : fu with
            | false =>
              rw [hf] at HF
              clear hf
              go_wp2_with fail
              refine HF.out.mono ?_; rintro e wa ⟨rfl, hb⟩
              have HSZ := Lib.hid (HS7.out.later hb)
              clear hb e0 e1 b0 b1 b2 b3 b4 c0 c1' c2' c3 c4 HF HS7
              go_wp2_with fail
              refine (HAW _).mono ?_; rintro e WN ⟨rfl, hb⟩
              have HSY := Lib.hid (HSZ.out.later hb)
              clear hb
              go_wp2
              go_ret
              exact ⟨rfl, HSY.out.bel⟩
            | true =>
              rw [hf] at HF
              have KU := Lib.hid hf
              clear hf
              go_wp2_with fail
              refine HF.out.mono ?_; rintro e w8 ⟨rfl, hb⟩
              have HS8 := Lib.hid (HS7.out.later hb)
              clear hb e0 e1 b0 b1 b2 b3 b4 c0 c1' c2' c3 c4 HF HS7
              have e0 := HS8.out.ba.cell 0
              have e1 := HS8.out.bb.cell 0
              simp at e0 e1
              obtain ⟨b0, b1, b2, b3, b4⟩ := vl_cells HS8.out.bv
              obtain ⟨c0, c1', c2', c3, c4⟩ := vl_cells HS8.out.bu
              have HT1 : Hid (∀ n ∈ l, n.text.length ≤ 2000) := (few_txt KF.out).2
              have HT2 : Hid (∀ n ∈ m, n.text.length ≤ 2000) := (few_txt KG.out).2
              have hln := (few_txt KF.out).1
              have hmn := (few_txt KG.out).1
              have HSP := Lib.hid (few_sp KF.out ((rgB_iff l).1 KR.out).1)
              have HSQ := Lib.hid (few_sp KG.out ((rgB_iff m).1 KS.out).1)
              have HCN := Lib.hid (HCN.out KV.out KU.out)
              have HIA : Hid (∀ X w', VbS w A B l m c1 c2 ⟨vk, vb, vt, vp, ks⟩ ⟨uk, ub, ut, up, us⟩ P Q cv cu X w' → IsD l (.agg #[.slice A l.length c1]) w') := fun X w' h => ⟨A, c1, hc1, rfl, h.ra⟩
              have HIB : Hid (∀ X w', VbS w A B l m c1 c2 ⟨vk, vb, vt, vp, ks⟩ ⟨uk, ub, ut, up, us⟩ P Q cv cu X w' → IsD m (.agg #[.slice B m.length c2]) w') := fun X w' h => ⟨B, c2, hc2, rfl, h.rb⟩
              have CA : Hid (∀ X w', VbS w A B l m c1 c2 ⟨vk, vb, vt, vp, ks⟩ ⟨uk, ub, ut, up, us⟩ P Q cv cu X w' → Calls Try.prog 11 #[.agg #[.slice A l.length c1], .agg #[.int .i64 vk, .int .u8 ((vb.toNat : Nat) : Int), .string (bs vt), .int .i64 vp, .slice P ks.len cv]] w' (PrV w' (wrD l ⟨vk, vb, vt, vp, ks⟩))) := fun X w' h => HWR.isD (HIA.out X w' h) HSP.out HT1.out (by have := HCN.out; omega) (HIV.out X w' h) rfl
              have CB : Hid (∀ X w', VbS w A B l m c1 c2 ⟨vk, vb, vt, vp, ks⟩ ⟨uk, ub, ut, up, us⟩ P Q cv cu X w' → Calls Try.prog 11 #[.agg #[.slice B m.length c2], .agg #[.int .i64 uk, .int .u8 ((ub.toNat : Nat) : Int), .string (bs ut), .int .i64 up, .slice Q us.len cu]] w' (PrV w' (wrD m ⟨uk, ub, ut, up, us⟩))) := fun X w' h => HWR.isD (HIB.out X w' h) HSQ.out HT2.out (by have := HCN.out; omega) (HIU.out X w' h) rfl
              have HSEQ := Lib.hid (built_seq HSP.out.sm.form HSQ.out.sm.form ⟨vk, vb, vt, vp, ks⟩ ⟨uk, ub, ut, up, us⟩)
              have HOR1 := Lib.hid (built_or HSP.out.sm.form HSQ.out.sm.form ⟨vk, vb, vt, vp, ks⟩).1
              have HOR2 := Lib.hid (built_or HSP.out.sm.form HSQ.out.sm.form ⟨uk, ub, ut, up, us⟩).2
              have HFRM := Lib.hid (built_frame HSP.out.sm.form ⟨vk, vb, vt, vp, ks⟩)
              have HLN : Hid (∀ W, wrD l ⟨vk, vb, vt, vp, ks⟩ = some W → W.length ≤ 1000000) := fun W h => by
                have h1 := wrV_len HT1.out _ _ _ h
                have h3 := HCN.out.1
                have : (2000 + 2) * cntV ⟨vk, vb, vt, vp, ks⟩ ≤ (2000 + 2) * 400 := Nat.mul_le_mul_left _ h3
                omega
              generalize hr : wrD l ⟨vk, vb, vt, vp, ks⟩ = r at *
              generalize hs : wrD m ⟨uk, ub, ut, up, us⟩ = s at *
              clear hr hs FV FU HAW
              go_wp2_with fail
              refine (CA.out _ _ HS8.out).mono ?_; rintro e w9 ⟨x9, rfl, ⟨s9, rfl, hx9⟩, hb⟩
              have HS9 := Lib.hid ((HS8.out.later hb).more hx9)
              obtain ⟨A9, q9, hs9, -⟩ := hx9.len
              subst hs9
              clear hb hx9 CA HS8 e0 e1 b0 b1 b2 b3 b4 c0 c1' c2' c3 c4
              have e0 := HS9.out.ba.cell 0
              have e1 := HS9.out.bb.cell 0
              simp at e0 e1
              obtain ⟨b0, b1, b2, b3, b4⟩ := vl_cells HS9.out.bv
              obtain ⟨c0, c1', c2', c3, c4⟩ := vl_cells HS9.out.bu
              go_wp2_with fail
              refine (CB.out _ _ HS9.out).mono ?_; rintro e w10 ⟨x10, rfl, ⟨s10, rfl, hx10⟩, hb⟩
              have HS10 := Lib.hid ((HS9.out.later hb).more hx10)
              obtain ⟨A10, q10, hs10, -⟩ := hx10.len
              subst hs10
              clear hb hx10 CB HS9 e0 e1 b0 b1 b2 b3 b4 c0 c1' c2' c3 c4
              go_upto_region 5 with (fail)
              refine wp_region_stable (S := (VbS w A B l m c1 c2 ⟨vk, vb, vt, vp, ks⟩ ⟨uk, ub, ut, up, us⟩ P Q cv cu [(s.getD [], .slice A10 (s.getD []).length q10), (r.getD [], .slice A9 (r.getD []).length q9)])) (hSt := fun _ _ h hb => h.later hb) (plan := [[(4, none)], [(5, none)], [(67, some 0), (68, some 1)], [(6, none)], [(7, none)], [(70, some 3), (71, some 4)], [(72, some 5)], [(69, some 2), (73, some 6)], [(74, some 7)], [(66, some 8)], [(66, some 8)], [(75, some 9)], [(76, some 10)]]) (by kernel_rfl) (by kernel_rfl) (by kernel_rfl) ?hS ?_
              rotate_left
              iterate 2 first
                | (refine chain_skip (by rfl) (by rfl) ?_)
                | (apply chain_want (by rfl)
                   · intro act wx hS hr
                     simp at hr
                     have e0 := hS.ba.cell 0
                     have e1 := hS.bb.cell 0
                     simp at e0 e1
                     obtain ⟨b0, b1, b2, b3, b4⟩ := vl_cells hS.bv
                     obtain ⟨c0, c1', c2', c3, c4⟩ := vl_cells hS.bu
                     go_simp
                     (try go_ints)
                     first
                       | (obtain ⟨x, hr1, sv, rfl, hx⟩ := hr; simp only [hr1, Option.getD_some]; go_simp; exact Done.same)
                       | exact Done.same
                  )
              (refine chain_rel (IsD (pairL 4 l m)) (IsD.later _) (by rfl) ?_ ?_
               · intro act wx hS hr
                 simp at hr
                 have e0 := hS.ba.cell 0
                 have e1 := hS.bb.cell 0
                 simp at e0 e1
                 obtain ⟨b0, b1, b2, b3, b4⟩ := vl_cells hS.bv
                 obtain ⟨c0, c1', c2', c3, c4⟩ := vl_cells hS.bu
                 all_goals go_simp
                 ((with_reducible refine ((HIA.out _ _ hS).rpair (HIB.out _ _ hS) HSP.out.sm HSQ.out.sm 4).mono ?_); intro e w' hp; obtain ⟨sv, rfl, ho, hb⟩ := hp; exact Done.rel hb ho.isD)
              )
              iterate 2 first
                | (refine chain_skip (by rfl) (by rfl) ?_)
                | (apply chain_want (by rfl)
                   · intro act wx hS hr
                     simp at hr
                     have e0 := hS.ba.cell 0
                     have e1 := hS.bb.cell 0
                     simp at e0 e1
                     obtain ⟨b0, b1, b2, b3, b4⟩ := vl_cells hS.bv
                     obtain ⟨c0, c1', c2', c3, c4⟩ := vl_cells hS.bu
                     go_simp
                     (try go_ints)
                     first
                       | (obtain ⟨x, hr1, sv, rfl, hx⟩ := hr; simp only [hr1, Option.getD_some]; go_simp; exact Done.same)
                       | exact Done.same
                  )
              (refine chain_rel (RowVs (Vs.of [⟨vk, vb, vt, vp, ks⟩, ⟨uk, ub, ut, up, us⟩]) 2) (RowVs.later _ _) (by rfl) ?_ ?_
               · intro act wx hS hr
                 simp at hr
                 have e0 := hS.ba.cell 0
                 have e1 := hS.bb.cell 0
                 simp at e0 e1
                 obtain ⟨b0, b1, b2, b3, b4⟩ := vl_cells hS.bv
                 obtain ⟨c0, c1', c2', c3, c4⟩ := vl_cells hS.bu
                 all_goals go_simp
                 exact Done.rel ((Below.refl _ _).alloc (Nat.le_refl _) _) ⟨_, rfl, vrow2 (v := ⟨vk, vb, vt, vp, ks⟩) (u := ⟨uk, ub, ut, up, us⟩) (B := P) (D := Q) (c := cv) (d := cu) (Blk.new wx _ _) HCV.out HCU.out (hS.rv.later ((Below.refl _ _).alloc (Nat.le_refl _) _)) (hS.ru.later ((Below.refl _ _).alloc (Nat.le_refl _) _))⟩
              )
              (refine chain_rel (IsVp ⟨4, 0, [], 0, Vs.of [⟨vk, vb, vt, vp, ks⟩, ⟨uk, ub, ut, up, us⟩]⟩) (IsVp.later _) (by rfl) ?_ ?_
               · intro act wx hS hr
                 simp at hr
                 have e0 := hS.ba.cell 0
                 have e1 := hS.bb.cell 0
                 simp at e0 e1
                 obtain ⟨b0, b1, b2, b3, b4⟩ := vl_cells hS.bv
                 obtain ⟨c0, c1', c2', c3, c4⟩ := vl_cells hS.bu
                 obtain ⟨x, hr1, g, rfl, hg⟩ := hr
                 all_goals go_simp
                 exact Done.rel (Below.refl _ _) ⟨_, 2, Nat.le_refl _, rfl, hg⟩
              )
              (refine chain_rel (TupV (joinW r s)) (TupV.later _) (by rfl) ?_ ?_
               · intro act wx hS hr
                 simp at hr
                 have e0 := hS.ba.cell 0
                 have e1 := hS.bb.cell 0
                 simp at e0 e1
                 obtain ⟨b0, b1, b2, b3, b4⟩ := vl_cells hS.bv
                 obtain ⟨c0, c1', c2', c3, c4⟩ := vl_cells hS.bu
                 obtain ⟨⟨x, hr1, hx⟩, y, hr2, hy⟩ := hr
                 all_goals go_simp
                 (refine (HWR.isD hx ((HSP.out.pair HSQ.out (by omega) (.inl rfl))) (pair_tx HT1.out HT2.out _) (by rw [cnt_two]; have := HCN.out; omega) hy HSEQ.out).mono ?_; rintro e w' ⟨x, rfl, hx, hb⟩; exact Done.rel hb hx)
              )
              (refine chain_rel (TupV (joinW r s)) (TupV.later _) (by rfl) ?_ ?_
               · intro act wx hS hr
                 simp at hr
                 have e0 := hS.ba.cell 0
                 have e1 := hS.bb.cell 0
                 simp at e0 e1
                 obtain ⟨b0, b1, b2, b3, b4⟩ := vl_cells hS.bv
                 obtain ⟨c0, c1', c2', c3, c4⟩ := vl_cells hS.bu
                 obtain ⟨x, hr1, hx⟩ := hr
                 all_goals go_simp
                 exact Done.rel (Below.refl _ _) hx
              )
              (refine chain_rel (IsWp ((joinW r s).getD [])) (IsWp.later _) (by rfl) ?_ ?_
               · intro act wx hS hr
                 simp at hr
                 have e0 := hS.ba.cell 0
                 have e1 := hS.bb.cell 0
                 simp at e0 e1
                 obtain ⟨b0, b1, b2, b3, b4⟩ := vl_cells hS.bv
                 obtain ⟨c0, c1', c2', c3, c4⟩ := vl_cells hS.bu
                 obtain ⟨x, hr1, sv, rfl, hx⟩ := hr
                 all_goals go_simp
                 exact Done.rel (Below.refl _ _) hx
              )
              iterate 1 first
                | (refine chain_skip (by rfl) (by rfl) ?_)
                | (apply chain_want (by rfl)
                   · intro act wx hS hr
                     simp at hr
                     have e0 := hS.ba.cell 0
                     have e1 := hS.bb.cell 0
                     simp at e0 e1
                     obtain ⟨b0, b1, b2, b3, b4⟩ := vl_cells hS.bv
                     obtain ⟨c0, c1', c2', c3, c4⟩ := vl_cells hS.bu
                     go_simp
                     (try go_ints)
                     first
                       | (obtain ⟨x, hr1, sv, rfl, hx⟩ := hr; simp only [hr1, Option.getD_some]; go_simp; exact Done.same)
                       | exact Done.same
                  )
              (refine chain_rel (IsWp ((joinW r s).getD [])) (IsWp.later _) (by rfl) ?_ ?_
               · intro act wx hS hr
                 simp at hr
                 have e0 := hS.ba.cell 0
                 have e1 := hS.bb.cell 0
                 simp at e0 e1
                 obtain ⟨b0, b1, b2, b3, b4⟩ := vl_cells hS.bv
                 obtain ⟨c0, c1', c2', c3, c4⟩ := vl_cells hS.bu
                 obtain ⟨x, hr1, hx⟩ := hr
                 all_goals go_simp
                 exact Done.rel (Below.refl _ _) hx
              )
              iterate 1 first
                | (refine chain_skip (by rfl) (by rfl) ?_)
                | (apply chain_want (by rfl)
                   · intro act wx hS hr
                     simp at hr
                     have e0 := hS.ba.cell 0
                     have e1 := hS.bb.cell 0
                     simp at e0 e1
                     obtain ⟨b0, b1, b2, b3, b4⟩ := vl_cells hS.bv
                     obtain ⟨c0, c1', c2', c3, c4⟩ := vl_cells hS.bu
                     go_simp
                     (try go_ints)
                     first
                       | (obtain ⟨x, hr1, sv, rfl, hx⟩ := hr; simp only [hr1, Option.getD_some]; go_simp; exact Done.same)
                       | exact Done.same
                  )
              show ∀ w', _ → _
              intro w11 hw11
              simp [Act.put]
              case hS => exact HS10.out
              intro p1 _ p2 _ p3 _ p4 _ p5 _ p6 _ y13 hy13
              have hy13 : IsW ((joinW r s).getD []) y13 w11 := hy13
              obtain ⟨Ay13, qy13, hsv, -⟩ := hy13.len
              subst hsv
              have HS11 := Lib.hid (hw11.more hy13)
              clear hw11 hy13 HS10
              go_upto_region 6 with (fail)
              refine wp_region_stable (S := (VbS w A B l m c1 c2 ⟨vk, vb, vt, vp, ks⟩ ⟨uk, ub, ut, up, us⟩ P Q cv cu [((joinW r s).getD [], .slice Ay13 ((joinW r s).getD []).length qy13), (s.getD [], .slice A10 (s.getD []).length q10), (r.getD [], .slice A9 (r.getD []).length q9)])) (hSt := fun _ _ h hb => h.later hb) (plan := [[(4, none)], [(5, none)], [(78, some 0), (79, some 1)], [(6, none)], [(81, some 3)], [(82, some 4)], [(80, some 2), (83, some 5)], [(84, some 6)], [(77, some 7)], [(77, some 7)], [(85, some 8)], [(86, some 9)]]) (by kernel_rfl) (by kernel_rfl) (by kernel_rfl) ?hS ?_
              rotate_left
              iterate 2 first
                | (refine chain_skip (by rfl) (by rfl) ?_)
                | (apply chain_want (by rfl)
                   · intro act wx hS hr
                     simp at hr
                     have e0 := hS.ba.cell 0
                     have e1 := hS.bb.cell 0
                     simp at e0 e1
                     obtain ⟨b0, b1, b2, b3, b4⟩ := vl_cells hS.bv
                     obtain ⟨c0, c1', c2', c3, c4⟩ := vl_cells hS.bu
                     go_simp
                     (try go_ints)
                     first
                       | (obtain ⟨x, hr1, sv, rfl, hx⟩ := hr; simp only [hr1, Option.getD_some]; go_simp; exact Done.same)
                       | exact Done.same
                  )
              (refine chain_rel (IsD (pairL 5 l m)) (IsD.later _) (by rfl) ?_ ?_
               · intro act wx hS hr
                 simp at hr
                 have e0 := hS.ba.cell 0
                 have e1 := hS.bb.cell 0
                 simp at e0 e1
                 obtain ⟨b0, b1, b2, b3, b4⟩ := vl_cells hS.bv
                 obtain ⟨c0, c1', c2', c3, c4⟩ := vl_cells hS.bu
                 all_goals go_simp
                 ((with_reducible refine ((HIA.out _ _ hS).rpair (HIB.out _ _ hS) HSP.out.sm HSQ.out.sm 5).mono ?_); intro e w' hp; obtain ⟨sv, rfl, ho, hb⟩ := hp; exact Done.rel hb ho.isD)
              )
              iterate 1 first
                | (refine chain_skip (by rfl) (by rfl) ?_)
                | (apply chain_want (by rfl)
                   · intro act wx hS hr
                     simp at hr
                     have e0 := hS.ba.cell 0
                     have e1 := hS.bb.cell 0
                     simp at e0 e1
                     obtain ⟨b0, b1, b2, b3, b4⟩ := vl_cells hS.bv
                     obtain ⟨c0, c1', c2', c3, c4⟩ := vl_cells hS.bu
                     go_simp
                     (try go_ints)
                     first
                       | (obtain ⟨x, hr1, sv, rfl, hx⟩ := hr; simp only [hr1, Option.getD_some]; go_simp; exact Done.same)
                       | exact Done.same
                  )
              (refine chain_rel (RowVs (Vs.of [⟨vk, vb, vt, vp, ks⟩]) 1) (RowVs.later _ _) (by rfl) ?_ ?_
               · intro act wx hS hr
                 simp at hr
                 have e0 := hS.ba.cell 0
                 have e1 := hS.bb.cell 0
                 simp at e0 e1
                 obtain ⟨b0, b1, b2, b3, b4⟩ := vl_cells hS.bv
                 obtain ⟨c0, c1', c2', c3, c4⟩ := vl_cells hS.bu
                 all_goals go_simp
                 exact Done.rel ((Below.refl _ _).alloc (Nat.le_refl _) _) ⟨_, rfl, vrow1 (v := ⟨vk, vb, vt, vp, ks⟩) (B := P) (c := cv) (Blk.new wx _ _) HCV.out (hS.rv.later ((Below.refl _ _).alloc (Nat.le_refl _) _))⟩
              )
              (refine chain_rel (IsVp ⟨5, 0, [], 0, Vs.of [⟨vk, vb, vt, vp, ks⟩]⟩) (IsVp.later _) (by rfl) ?_ ?_
               · intro act wx hS hr
                 simp at hr
                 have e0 := hS.ba.cell 0
                 have e1 := hS.bb.cell 0
                 simp at e0 e1
                 obtain ⟨b0, b1, b2, b3, b4⟩ := vl_cells hS.bv
                 obtain ⟨c0, c1', c2', c3, c4⟩ := vl_cells hS.bu
                 obtain ⟨x, hr1, g, rfl, hg⟩ := hr
                 all_goals go_simp
                 exact Done.rel (Below.refl _ _) ⟨_, 1, Nat.le_refl _, rfl, hg⟩
              )
              (refine chain_rel (TupV (r)) (TupV.later _) (by rfl) ?_ ?_
               · intro act wx hS hr
                 simp at hr
                 have e0 := hS.ba.cell 0
                 have e1 := hS.bb.cell 0
                 simp at e0 e1
                 obtain ⟨b0, b1, b2, b3, b4⟩ := vl_cells hS.bv
                 obtain ⟨c0, c1', c2', c3, c4⟩ := vl_cells hS.bu
                 obtain ⟨⟨x, hr1, hx⟩, y, hr2, hy⟩ := hr
                 all_goals go_simp
                 (refine (HWR.isD hx ((HSP.out.pair HSQ.out (by omega) (.inr rfl))) (pair_tx HT1.out HT2.out _) (by rw [cnt_one]; have := HCN.out; omega) hy HOR1.out).mono ?_; rintro e w' ⟨x, rfl, hx, hb⟩; exact Done.rel hb hx)
              )
              (refine chain_rel (TupV (r)) (TupV.later _) (by rfl) ?_ ?_
               · intro act wx hS hr
                 simp at hr
                 have e0 := hS.ba.cell 0
                 have e1 := hS.bb.cell 0
                 simp at e0 e1
                 obtain ⟨b0, b1, b2, b3, b4⟩ := vl_cells hS.bv
                 obtain ⟨c0, c1', c2', c3, c4⟩ := vl_cells hS.bu
                 obtain ⟨x, hr1, hx⟩ := hr
                 all_goals go_simp
                 exact Done.rel (Below.refl _ _) hx
              )
              (refine chain_rel (IsWp ((r).getD [])) (IsWp.later _) (by rfl) ?_ ?_
               · intro act wx hS hr
                 simp at hr
                 have e0 := hS.ba.cell 0
                 have e1 := hS.bb.cell 0
                 simp at e0 e1
                 obtain ⟨b0, b1, b2, b3, b4⟩ := vl_cells hS.bv
                 obtain ⟨c0, c1', c2', c3, c4⟩ := vl_cells hS.bu
                 obtain ⟨x, hr1, sv, rfl, hx⟩ := hr
                 all_goals go_simp
                 exact Done.rel (Below.refl _ _) hx
              )
              iterate 1 first
                | (refine chain_skip (by rfl) (by rfl) ?_)
                | (apply chain_want (by rfl)
                   · intro act wx hS hr
                     simp at hr
                     have e0 := hS.ba.cell 0
                     have e1 := hS.bb.cell 0
                     simp at e0 e1
                     obtain ⟨b0, b1, b2, b3, b4⟩ := vl_cells hS.bv
                     obtain ⟨c0, c1', c2', c3, c4⟩ := vl_cells hS.bu
                     go_simp
                     (try go_ints)
                     first
                       | (obtain ⟨x, hr1, sv, rfl, hx⟩ := hr; simp only [hr1, Option.getD_some]; go_simp; exact Done.same)
                       | exact Done.same
                  )
              (refine chain_rel (IsWp ((r).getD [])) (IsWp.later _) (by rfl) ?_ ?_
               · intro act wx hS hr
                 simp at hr
                 have e0 := hS.ba.cell 0
                 have e1 := hS.bb.cell 0
                 simp at e0 e1
                 obtain ⟨b0, b1, b2, b3, b4⟩ := vl_cells hS.bv
                 obtain ⟨c0, c1', c2', c3, c4⟩ := vl_cells hS.bu
                 obtain ⟨x, hr1, hx⟩ := hr
                 all_goals go_simp
                 exact Done.rel (Below.refl _ _) hx
              )
              iterate 1 first
                | (refine chain_skip (by rfl) (by rfl) ?_)
                | (apply chain_want (by rfl)
                   · intro act wx hS hr
                     simp at hr
                     have e0 := hS.ba.cell 0
                     have e1 := hS.bb.cell 0
                     simp at e0 e1
                     obtain ⟨b0, b1, b2, b3, b4⟩ := vl_cells hS.bv
                     obtain ⟨c0, c1', c2', c3, c4⟩ := vl_cells hS.bu
                     go_simp
                     (try go_ints)
                     first
                       | (obtain ⟨x, hr1, sv, rfl, hx⟩ := hr; simp only [hr1, Option.getD_some]; go_simp; exact Done.same)
                       | exact Done.same
                  )
              show ∀ w', _ → _
              intro w12 hw12
              simp [Act.put]
              case hS => exact HS11.out
              intro p1 _ p2 _ p3 _ p4 _ p5 _ p6 _ y15 hy15
              have hy15 : IsW ((r).getD []) y15 w12 := hy15
              obtain ⟨Ay15, qy15, hsv, -⟩ := hy15.len
              subst hsv
              have HS12 := Lib.hid (hw12.more hy15)
              clear hw12 hy15 HS11
              go_upto_region 7 with (fail)
              refine wp_region_stable (S := (VbS w A B l m c1 c2 ⟨vk, vb, vt, vp, ks⟩ ⟨uk, ub, ut, up, us⟩ P Q cv cu [(r.getD [], .slice Ay15 (r.getD []).length qy15), ((joinW r s).getD [], .slice Ay13 ((joinW r s).getD []).length qy13), (s.getD [], .slice A10 (s.getD []).length q10), (r.getD [], .slice A9 (r.getD []).length q9)])) (hSt := fun _ _ h hb => h.later hb) (plan := [[(4, none)], [(5, none)], [(88, some 0), (89, some 1)], [(7, none)], [(91, some 3)], [(92, some 4)], [(90, some 2), (93, some 5)], [(94, some 6)], [(87, some 7)], [(87, some 7)], [(95, some 8)], [(96, some 9)]]) (by kernel_rfl) (by kernel_rfl) (by kernel_rfl) ?hS ?_
              rotate_left
              iterate 2 first
                | (refine chain_skip (by rfl) (by rfl) ?_)
                | (apply chain_want (by rfl)
                   · intro act wx hS hr
                     simp at hr
                     have e0 := hS.ba.cell 0
                     have e1 := hS.bb.cell 0
                     simp at e0 e1
                     obtain ⟨b0, b1, b2, b3, b4⟩ := vl_cells hS.bv
                     obtain ⟨c0, c1', c2', c3, c4⟩ := vl_cells hS.bu
                     go_simp
                     (try go_ints)
                     first
                       | (obtain ⟨x, hr1, sv, rfl, hx⟩ := hr; simp only [hr1, Option.getD_some]; go_simp; exact Done.same)
                       | exact Done.same
                  )
              (refine chain_rel (IsD (pairL 5 l m)) (IsD.later _) (by rfl) ?_ ?_
               · intro act wx hS hr
                 simp at hr
                 have e0 := hS.ba.cell 0
                 have e1 := hS.bb.cell 0
                 simp at e0 e1
                 obtain ⟨b0, b1, b2, b3, b4⟩ := vl_cells hS.bv
                 obtain ⟨c0, c1', c2', c3, c4⟩ := vl_cells hS.bu
                 all_goals go_simp
                 ((with_reducible refine ((HIA.out _ _ hS).rpair (HIB.out _ _ hS) HSP.out.sm HSQ.out.sm 5).mono ?_); intro e w' hp; obtain ⟨sv, rfl, ho, hb⟩ := hp; exact Done.rel hb ho.isD)
              )
              iterate 1 first
                | (refine chain_skip (by rfl) (by rfl) ?_)
                | (apply chain_want (by rfl)
                   · intro act wx hS hr
                     simp at hr
                     have e0 := hS.ba.cell 0
                     have e1 := hS.bb.cell 0
                     simp at e0 e1
                     obtain ⟨b0, b1, b2, b3, b4⟩ := vl_cells hS.bv
                     obtain ⟨c0, c1', c2', c3, c4⟩ := vl_cells hS.bu
                     go_simp
                     (try go_ints)
                     first
                       | (obtain ⟨x, hr1, sv, rfl, hx⟩ := hr; simp only [hr1, Option.getD_some]; go_simp; exact Done.same)
                       | exact Done.same
                  )
              (refine chain_rel (RowVs (Vs.of [⟨uk, ub, ut, up, us⟩]) 1) (RowVs.later _ _) (by rfl) ?_ ?_
               · intro act wx hS hr
                 simp at hr
                 have e0 := hS.ba.cell 0
                 have e1 := hS.bb.cell 0
                 simp at e0 e1
                 obtain ⟨b0, b1, b2, b3, b4⟩ := vl_cells hS.bv
                 obtain ⟨c0, c1', c2', c3, c4⟩ := vl_cells hS.bu
                 all_goals go_simp
                 exact Done.rel ((Below.refl _ _).alloc (Nat.le_refl _) _) ⟨_, rfl, vrow1 (v := ⟨uk, ub, ut, up, us⟩) (B := Q) (c := cu) (Blk.new wx _ _) HCU.out (hS.ru.later ((Below.refl _ _).alloc (Nat.le_refl _) _))⟩
              )
              (refine chain_rel (IsVp ⟨5, 0, [], 1, Vs.of [⟨uk, ub, ut, up, us⟩]⟩) (IsVp.later _) (by rfl) ?_ ?_
               · intro act wx hS hr
                 simp at hr
                 have e0 := hS.ba.cell 0
                 have e1 := hS.bb.cell 0
                 simp at e0 e1
                 obtain ⟨b0, b1, b2, b3, b4⟩ := vl_cells hS.bv
                 obtain ⟨c0, c1', c2', c3, c4⟩ := vl_cells hS.bu
                 obtain ⟨x, hr1, g, rfl, hg⟩ := hr
                 all_goals go_simp
                 exact Done.rel (Below.refl _ _) ⟨_, 1, Nat.le_refl _, rfl, hg⟩
              )
              (refine chain_rel (TupV (s)) (TupV.later _) (by rfl) ?_ ?_
               · intro act wx hS hr
                 simp at hr
                 have e0 := hS.ba.cell 0
                 have e1 := hS.bb.cell 0
                 simp at e0 e1
                 obtain ⟨b0, b1, b2, b3, b4⟩ := vl_cells hS.bv
                 obtain ⟨c0, c1', c2', c3, c4⟩ := vl_cells hS.bu
                 obtain ⟨⟨x, hr1, hx⟩, y, hr2, hy⟩ := hr
                 all_goals go_simp
                 (refine (HWR.isD hx ((HSP.out.pair HSQ.out (by omega) (.inr rfl))) (pair_tx HT1.out HT2.out _) (by rw [cnt_one]; have := HCN.out; omega) hy HOR2.out).mono ?_; rintro e w' ⟨x, rfl, hx, hb⟩; exact Done.rel hb hx)
              )
              (refine chain_rel (TupV (s)) (TupV.later _) (by rfl) ?_ ?_
               · intro act wx hS hr
                 simp at hr
                 have e0 := hS.ba.cell 0
                 have e1 := hS.bb.cell 0
                 simp at e0 e1
                 obtain ⟨b0, b1, b2, b3, b4⟩ := vl_cells hS.bv
                 obtain ⟨c0, c1', c2', c3, c4⟩ := vl_cells hS.bu
                 obtain ⟨x, hr1, hx⟩ := hr
                 all_goals go_simp
                 exact Done.rel (Below.refl _ _) hx
              )
              (refine chain_rel (IsWp ((s).getD [])) (IsWp.later _) (by rfl) ?_ ?_
               · intro act wx hS hr
                 simp at hr
                 have e0 := hS.ba.cell 0
                 have e1 := hS.bb.cell 0
                 simp at e0 e1
                 obtain ⟨b0, b1, b2, b3, b4⟩ := vl_cells hS.bv
                 obtain ⟨c0, c1', c2', c3, c4⟩ := vl_cells hS.bu
                 obtain ⟨x, hr1, sv, rfl, hx⟩ := hr
                 all_goals go_simp
                 exact Done.rel (Below.refl _ _) hx
              )
              iterate 1 first
                | (refine chain_skip (by rfl) (by rfl) ?_)
                | (apply chain_want (by rfl)
                   · intro act wx hS hr
                     simp at hr
                     have e0 := hS.ba.cell 0
                     have e1 := hS.bb.cell 0
                     simp at e0 e1
                     obtain ⟨b0, b1, b2, b3, b4⟩ := vl_cells hS.bv
                     obtain ⟨c0, c1', c2', c3, c4⟩ := vl_cells hS.bu
                     go_simp
                     (try go_ints)
                     first
                       | (obtain ⟨x, hr1, sv, rfl, hx⟩ := hr; simp only [hr1, Option.getD_some]; go_simp; exact Done.same)
                       | exact Done.same
                  )
              (refine chain_rel (IsWp ((s).getD [])) (IsWp.later _) (by rfl) ?_ ?_
               · intro act wx hS hr
                 simp at hr
                 have e0 := hS.ba.cell 0
                 have e1 := hS.bb.cell 0
                 simp at e0 e1
                 obtain ⟨b0, b1, b2, b3, b4⟩ := vl_cells hS.bv
                 obtain ⟨c0, c1', c2', c3, c4⟩ := vl_cells hS.bu
                 obtain ⟨x, hr1, hx⟩ := hr
                 all_goals go_simp
                 exact Done.rel (Below.refl _ _) hx
              )
              iterate 1 first
                | (refine chain_skip (by rfl) (by rfl) ?_)
                | (apply chain_want (by rfl)
                   · intro act wx hS hr
                     simp at hr
                     have e0 := hS.ba.cell 0
                     have e1 := hS.bb.cell 0
                     simp at e0 e1
                     obtain ⟨b0, b1, b2, b3, b4⟩ := vl_cells hS.bv
                     obtain ⟨c0, c1', c2', c3, c4⟩ := vl_cells hS.bu
                     go_simp
                     (try go_ints)
                     first
                       | (obtain ⟨x, hr1, sv, rfl, hx⟩ := hr; simp only [hr1, Option.getD_some]; go_simp; exact Done.same)
                       | exact Done.same
                  )
              show ∀ w', _ → _
              intro w13 hw13
              simp [Act.put]
              case hS => exact HS12.out
              intro p1 _ p2 _ p3 _ p4 _ p5 _ p6 _ y17 hy17
              have hy17 : IsW ((s).getD []) y17 w13 := hy17
              obtain ⟨Ay17, qy17, hsv, -⟩ := hy17.len
              subst hsv
              have HS13 := Lib.hid (hw13.more hy17)
              clear hw13 hy17 HS12
              go_upto_region 8 with (fail)
              refine wp_region_stable (S := (VbS w A B l m c1 c2 ⟨vk, vb, vt, vp, ks⟩ ⟨uk, ub, ut, up, us⟩ P Q cv cu [(s.getD [], .slice Ay17 (s.getD []).length qy17), (r.getD [], .slice Ay15 (r.getD []).length qy15), ((joinW r s).getD [], .slice Ay13 ((joinW r s).getD []).length qy13), (s.getD [], .slice A10 (s.getD []).length q10), (r.getD [], .slice A9 (r.getD []).length q9)])) (hSt := fun _ _ h hb => h.later hb) (plan := [[(4, none)], [(98, some 0)], [(6, none)], [(100, some 2)], [(101, some 3)], [(99, some 1), (102, some 4)], [(103, some 5)], [(97, some 6)], [(97, some 6)], [(104, some 7)], [(105, some 8)]]) (by kernel_rfl) (by kernel_rfl) (by kernel_rfl) ?hS ?_
              rotate_left
              iterate 1 first
                | (refine chain_skip (by rfl) (by rfl) ?_)
                | (apply chain_want (by rfl)
                   · intro act wx hS hr
                     simp at hr
                     have e0 := hS.ba.cell 0
                     have e1 := hS.bb.cell 0
                     simp at e0 e1
                     obtain ⟨b0, b1, b2, b3, b4⟩ := vl_cells hS.bv
                     obtain ⟨c0, c1', c2', c3, c4⟩ := vl_cells hS.bu
                     go_simp
                     (try go_ints)
                     first
                       | (obtain ⟨x, hr1, sv, rfl, hx⟩ := hr; simp only [hr1, Option.getD_some]; go_simp; exact Done.same)
                       | exact Done.same
                  )
              (refine chain_rel (IsD (wrapL 8 0 0 l)) (IsD.later _) (by rfl) ?_ ?_
               · intro act wx hS hr
                 simp at hr
                 have e0 := hS.ba.cell 0
                 have e1 := hS.bb.cell 0
                 simp at e0 e1
                 obtain ⟨b0, b1, b2, b3, b4⟩ := vl_cells hS.bv
                 obtain ⟨c0, c1', c2', c3, c4⟩ := vl_cells hS.bu
                 all_goals go_simp
                 ((with_reducible refine ((HIA.out _ _ hS).rwrap HSP.out.sm 8 0 0).mono ?_); intro e w' hp; obtain ⟨sv, rfl, ho, hb⟩ := hp; exact Done.rel hb ho.isD)
              )
              iterate 1 first
                | (refine chain_skip (by rfl) (by rfl) ?_)
                | (apply chain_want (by rfl)
                   · intro act wx hS hr
                     simp at hr
                     have e0 := hS.ba.cell 0
                     have e1 := hS.bb.cell 0
                     simp at e0 e1
                     obtain ⟨b0, b1, b2, b3, b4⟩ := vl_cells hS.bv
                     obtain ⟨c0, c1', c2', c3, c4⟩ := vl_cells hS.bu
                     go_simp
                     (try go_ints)
                     first
                       | (obtain ⟨x, hr1, sv, rfl, hx⟩ := hr; simp only [hr1, Option.getD_some]; go_simp; exact Done.same)
                       | exact Done.same
                  )
              (refine chain_rel (RowVs (Vs.of [⟨vk, vb, vt, vp, ks⟩]) 1) (RowVs.later _ _) (by rfl) ?_ ?_
               · intro act wx hS hr
                 simp at hr
                 have e0 := hS.ba.cell 0
                 have e1 := hS.bb.cell 0
                 simp at e0 e1
                 obtain ⟨b0, b1, b2, b3, b4⟩ := vl_cells hS.bv
                 obtain ⟨c0, c1', c2', c3, c4⟩ := vl_cells hS.bu
                 all_goals go_simp
                 exact Done.rel ((Below.refl _ _).alloc (Nat.le_refl _) _) ⟨_, rfl, vrow1 (v := ⟨vk, vb, vt, vp, ks⟩) (B := P) (c := cv) (Blk.new wx _ _) HCV.out (hS.rv.later ((Below.refl _ _).alloc (Nat.le_refl _) _))⟩
              )
              (refine chain_rel (IsVp ⟨8, 0, [], 0, Vs.of [⟨vk, vb, vt, vp, ks⟩]⟩) (IsVp.later _) (by rfl) ?_ ?_
               · intro act wx hS hr
                 simp at hr
                 have e0 := hS.ba.cell 0
                 have e1 := hS.bb.cell 0
                 simp at e0 e1
                 obtain ⟨b0, b1, b2, b3, b4⟩ := vl_cells hS.bv
                 obtain ⟨c0, c1', c2', c3, c4⟩ := vl_cells hS.bu
                 obtain ⟨x, hr1, g, rfl, hg⟩ := hr
                 all_goals go_simp
                 exact Done.rel (Below.refl _ _) ⟨_, 1, Nat.le_refl _, rfl, hg⟩
              )
              (refine chain_rel (TupV (frmW 8 r)) (TupV.later _) (by rfl) ?_ ?_
               · intro act wx hS hr
                 simp at hr
                 have e0 := hS.ba.cell 0
                 have e1 := hS.bb.cell 0
                 simp at e0 e1
                 obtain ⟨b0, b1, b2, b3, b4⟩ := vl_cells hS.bv
                 obtain ⟨c0, c1', c2', c3, c4⟩ := vl_cells hS.bu
                 obtain ⟨⟨x, hr1, hx⟩, y, hr2, hy⟩ := hr
                 all_goals go_simp
                 (refine (HWR.isD hx ((HSP.out.wrap (by omega) (.inr (.inl rfl)))) (wrap_tx HT1.out) (by rw [cnt_one]; have := HCN.out; omega) hy HFRM.out).mono ?_; rintro e w' ⟨x, rfl, hx, hb⟩; exact Done.rel hb hx)
              )
              (refine chain_rel (TupV (frmW 8 r)) (TupV.later _) (by rfl) ?_ ?_
               · intro act wx hS hr
                 simp at hr
                 have e0 := hS.ba.cell 0
                 have e1 := hS.bb.cell 0
                 simp at e0 e1
                 obtain ⟨b0, b1, b2, b3, b4⟩ := vl_cells hS.bv
                 obtain ⟨c0, c1', c2', c3, c4⟩ := vl_cells hS.bu
                 obtain ⟨x, hr1, hx⟩ := hr
                 all_goals go_simp
                 exact Done.rel (Below.refl _ _) hx
              )
              (refine chain_rel (IsWp ((frmW 8 r).getD [])) (IsWp.later _) (by rfl) ?_ ?_
               · intro act wx hS hr
                 simp at hr
                 have e0 := hS.ba.cell 0
                 have e1 := hS.bb.cell 0
                 simp at e0 e1
                 obtain ⟨b0, b1, b2, b3, b4⟩ := vl_cells hS.bv
                 obtain ⟨c0, c1', c2', c3, c4⟩ := vl_cells hS.bu
                 obtain ⟨x, hr1, sv, rfl, hx⟩ := hr
                 all_goals go_simp
                 exact Done.rel (Below.refl _ _) hx
              )
              iterate 1 first
                | (refine chain_skip (by rfl) (by rfl) ?_)
                | (apply chain_want (by rfl)
                   · intro act wx hS hr
                     simp at hr
                     have e0 := hS.ba.cell 0
                     have e1 := hS.bb.cell 0
                     simp at e0 e1
                     obtain ⟨b0, b1, b2, b3, b4⟩ := vl_cells hS.bv
                     obtain ⟨c0, c1', c2', c3, c4⟩ := vl_cells hS.bu
                     go_simp
                     (try go_ints)
                     first
                       | (obtain ⟨x, hr1, sv, rfl, hx⟩ := hr; simp only [hr1, Option.getD_some]; go_simp; exact Done.same)
                       | exact Done.same
                  )
              (refine chain_rel (IsWp ((frmW 8 r).getD [])) (IsWp.later _) (by rfl) ?_ ?_
               · intro act wx hS hr
                 simp at hr
                 have e0 := hS.ba.cell 0
                 have e1 := hS.bb.cell 0
                 simp at e0 e1
                 obtain ⟨b0, b1, b2, b3, b4⟩ := vl_cells hS.bv
                 obtain ⟨c0, c1', c2', c3, c4⟩ := vl_cells hS.bu
                 obtain ⟨x, hr1, hx⟩ := hr
                 all_goals go_simp
                 exact Done.rel (Below.refl _ _) hx
              )
              iterate 1 first
                | (refine chain_skip (by rfl) (by rfl) ?_)
                | (apply chain_want (by rfl)
                   · intro act wx hS hr
                     simp at hr
                     have e0 := hS.ba.cell 0
                     have e1 := hS.bb.cell 0
                     simp at e0 e1
                     obtain ⟨b0, b1, b2, b3, b4⟩ := vl_cells hS.bv
                     obtain ⟨c0, c1', c2', c3, c4⟩ := vl_cells hS.bu
                     go_simp
                     (try go_ints)
                     first
                       | (obtain ⟨x, hr1, sv, rfl, hx⟩ := hr; simp only [hr1, Option.getD_some]; go_simp; exact Done.same)
                       | exact Done.same
                  )
              show ∀ w', _ → _
              intro w14 hw14
              simp [Act.put]
              case hS => exact HS13.out
              intro p1 _ p2 _ p3 _ p4 _ p5 _ p6 _ y19 hy19
              have hy19 : IsW ((frmW 8 r).getD []) y19 w14 := hy19
              obtain ⟨Ay19, qy19, hsv, -⟩ := hy19.len
              subst hsv
              have HS14 := Lib.hid (hw14.more hy19)
              clear hw14 hy19 HS13
              have key : ∃ T : World → Prop, T w14 ∧ (∀ a b, T a → Below a.heap.size a b → T b) ∧ (∀ a, T a → Below w.heap.size w a) ∧ (∀ a, T a → IsW (r.getD []) (.slice A9 (r.getD []).length q9) a) ∧ (∀ a, T a → IsW (s.getD []) (.slice A10 (s.getD []).length q10) a) ∧
                  (∀ a, T a → IsW ((joinW r s).getD []) (.slice Ay13 ((joinW r s).getD []).length qy13) a) ∧ (∀ a, T a → IsW (r.getD []) (.slice Ay15 (r.getD []).length qy15) a) ∧ (∀ a, T a → IsW (s.getD []) (.slice Ay17 (s.getD []).length qy17) a) ∧ (∀ a, T a → IsW ((frmW 8 r).getD []) (.slice Ay19 ((frmW 8 r).getD []).length qy19) a) :=
                ⟨_, HS14.out, fun a b h k => h.later k, fun a h => h.bel, fun a h => h.ws _ (.tail _ (.tail _ (.tail _ (.tail _ (.tail _ (.head _)))))), fun a h => h.ws _ (.tail _ (.tail _ (.tail _ (.tail _ (.head _))))), fun a h => h.ws _ (.tail _ (.tail _ (.tail _ (.head _)))), fun a h => h.ws _ (.tail _ (.tail _ (.head _))), fun a h => h.ws _ (.tail _ (.head _)), fun a h => h.ws _ (.head _)⟩
              obtain ⟨T, hT, hTL, hTB, t9, t10, t13, t15, t17, t19⟩ := key
              have HT := Lib.hid hT
              have HTL := Lib.hid hTL
              have HTB := Lib.hid hTB
              clear hT hTL hTB HS14 HSEQ HOR1 HOR2 HFRM HIA HIB HIV HIU HTX HTM HT1 HT2 HSP HSQ HCN KF KG KR KS KV KU
              cases r with
              | none =>
                clear t9 t13 t15 t19 HLN
                simp only [joinW, frmW] at *
                cases s with
                | none =>
                  simp only [Option.getD_none, Option.isSome_none, List.length_nil] at *
                  clear t10 t17
                  go_upto_region 13 with (fail)
                  refine wp_region_stable (S := T) (hSt := fun _ _ h hb => HTL.out _ _ h hb) (plan := [[(20, none)], [(163, some 0)], [(164, some 1)], [(19, none)], [(166, some 3)], [(9, none)], [(168, some 5)], [(169, some 6)], [(167, some 4), (170, some 7)], [(171, some 8)], [(19, none)], [(173, some 10)], [(174, some 11)], [(175, some 12)], [(9, none)], [(177, some 14)], [(176, some 13), (178, some 15)], [(172, some 9), (179, some 16)], [(180, some 17)], [(19, none)], [(182, some 19)], [(183, some 20)], [(9, none)], [(185, some 22)], [(184, some 21), (186, some 23)], [(181, some 18), (187, some 24)], [(165, some 2), (188, some 25)], [(189, some 26)]]) (by kernel_rfl) (by kernel_rfl) (by kernel_rfl) ?hS ?_
                  rotate_left
                  iterate 28 first
                    | (refine chain_skip (by rfl) (by rfl) ?_)
                    | (apply chain_want (by rfl)
                       · intro act wx hS hr
                         simp at hr
                         go_simp
                         (try go_ints)
                         first
                           | exact Done.same
                      )
                  show ∀ w', _ → _
                  intro wz hz
                  simp [Act.put]
                  case hS => exact HT.out
                  have HBZ := Lib.hid (HTB.out _ hz)
                  clear hz
                  go_wp2
                  go_ret
                  exact ⟨rfl, HBZ.out⟩
                | some S =>
                  simp only [Option.getD_none, Option.getD_some, Option.isSome_none, Option.isSome_some, List.length_nil] at *
                  have k1 := conv_word (t10 _ HT.out)
                  have k2 := conv_word (t17 _ HT.out)
                  clear t10 t17
                  go_upto_region 13 with (fail)
                  refine wp_region_stable (S := T) (hSt := fun _ _ h hb => HTL.out _ _ h hb) (plan := [[(20, none)], [(163, some 0)], [(164, some 1)], [(19, none)], [(166, some 3)], [(9, none)], [(168, some 5)], [(169, some 6)], [(167, some 4), (170, some 7)], [(171, some 8)], [(19, none)], [(173, some 10)], [(174, some 11)], [(175, some 12)], [(9, none)], [(177, some 14)], [(176, some 13), (178, some 15)], [(172, some 9), (179, some 16)], [(180, some 17)], [(19, none)], [(182, some 19)], [(183, some 20)], [(9, none)], [(185, some 22)], [(184, some 21), (186, some 23)], [(181, some 18), (187, some 24)], [(165, some 2), (188, some 25)], [(189, some 26)]]) (by kernel_rfl) (by kernel_rfl) (by kernel_rfl) ?hS ?_
                  rotate_left
                  iterate 28 first
                    | (refine chain_skip (by rfl) (by rfl) ?_)
                    | (apply chain_want (by rfl)
                       · intro act wx hS hr
                         simp at hr
                         go_simp
                         (try go_ints)
                         first
                           | exact Done.same
                      )
                  show ∀ w', _ → _
                  intro wz hz
                  simp [Act.put]
                  case hS => exact HT.out
                  have HBZ := Lib.hid (HTB.out _ hz)
                  clear hz
                  go_wp2
                  go_ret
                  exact ⟨rfl, HBZ.out⟩
              | some R =>
                have hRl := HLN.out R rfl
                clear HLN
                by_cases hle : R.length ≤ 255
                · have ef : frmW 8 (some R) = some (byU R.length :: R) := by unfold frmW; simp [hle]
                  rw [ef] at t19 ⊢
                  clear ef
                  have hby : (byU R.length).toNat = R.length := by unfold byU; simp; omega
                  have hlez : (R.length : Int) ≤ 255 := by omega
                  have hled : decide ((R.length : Int) ≤ 255) = true := decide_eq_true hlez
                  cases s with
                  | none =>
                    have ej : joinW (some R) none = none := rfl
                    rw [ej]
                    clear ej t10 t13 t17
                    simp only [Option.getD_none, Option.getD_some, Option.isSome_none, Option.isSome_some, List.length_nil, List.length_cons] at *
                    have k1 := conv_word (t9 _ HT.out)
                    have k2 := conv_word (t15 _ HT.out)
                    clear t15
                    have h19 := t19 _ HT.out
                    rcases h19 with ⟨h19, -⟩ | ⟨b19, o19, cc, hv19, -⟩
                    · cases h19
                    simp only [Value.slice.injEq, List.length_cons, true_and] at hv19
                    obtain ⟨rfl, rfl⟩ := hv19
                    have HW9 := Lib.hid t9
                    have HW19 := Lib.hid t19
                    have hcap := (t19 _ HT.out).tail.2.1
                    have hone : (1 : Int) ≤ (R.length : Int) + 1 := by omega
                    clear t9 t19
                    go_upto_region 13 with (fail)
                    clear k1 k2
                    by_cases hq1 : qy19 = 1
                    · have hR0 : R = [] := List.length_eq_zero_iff.1 (by omega)
                      subst hR0
                      subst hq1
                      simp only [List.length_nil] at *
                      clear hcap hone hRl hle hlez hled
                      refine wp_region_stable (S := T) (hSt := fun _ _ h hb => HTL.out _ _ h hb) (plan := [[(20, none)], [(163, some 0)], [(164, some 1)], [(19, none)], [(166, some 3)], [(9, none)], [(168, some 5)], [(169, some 6)], [(167, some 4), (170, some 7)], [(171, some 8)], [(19, none)], [(173, some 10)], [(174, some 11)], [(175, some 12)], [(9, none)], [(177, some 14)], [(176, some 13), (178, some 15)], [(172, some 9), (179, some 16)], [(180, some 17)], [(19, none)], [(182, some 19)], [(183, some 20)], [(9, none)], [(185, some 22)], [(184, some 21), (186, some 23)], [(181, some 18), (187, some 24)], [(165, some 2), (188, some 25)], [(189, some 26)]]) (by kernel_rfl) (by kernel_rfl) (by kernel_rfl) ?hS ?_
                      rotate_left
                      iterate 28 first
                        | (refine chain_skip (by rfl) (by rfl) ?_)
                        | (apply chain_want (by rfl)
                           · intro act wx hS hr
                             simp at hr
                             obtain ⟨f1, f2, f3⟩ := (HW19.out _ hS).tail
                             have f6 : IsW [] (.slice (some ⟨b19, o19, none⟩) 0 0) wx := .inr ⟨b19, o19, 0, rfl, Nat.le_refl _, Nat.zero_le _, World.block_lt_of_cell? wx _ f3, fun i hi => absurd hi (Nat.not_lt_zero i)⟩
                             have f4 := conv_word f6
                             have f5 := conv_word (HW9.out _ hS)
                             clear f1 f6
                             go_simp
                             (try go_ints)
                             first
                               | exact Done.same
                          )
                      show ∀ w', _ → _
                      intro wz hz
                      simp [Act.put]
                      case hS => exact HT.out
                      have HBZ := Lib.hid (HTB.out _ hz)
                      clear hz
                      go_wp2
                      go_ret
                      exact ⟨rfl, HBZ.out⟩
                    · clear hcap
                      refine wp_region_stable (S := T) (hSt := fun _ _ h hb => HTL.out _ _ h hb) (plan := [[(20, none)], [(163, some 0)], [(164, some 1)], [(19, none)], [(166, some 3)], [(9, none)], [(168, some 5)], [(169, some 6)], [(167, some 4), (170, some 7)], [(171, some 8)], [(19, none)], [(173, some 10)], [(174, some 11)], [(175, some 12)], [(9, none)], [(177, some 14)], [(176, some 13), (178, some 15)], [(172, some 9), (179, some 16)], [(180, some 17)], [(19, none)], [(182, some 19)], [(183, some 20)], [(9, none)], [(185, some 22)], [(184, some 21), (186, some 23)], [(181, some 18), (187, some 24)], [(165, some 2), (188, some 25)], [(189, some 26)]]) (by kernel_rfl) (by kernel_rfl) (by kernel_rfl) ?hS ?_
                      rotate_left
                      iterate 28 first
                        | (refine chain_skip (by rfl) (by rfl) ?_)
                        | (apply chain_want (by rfl)
                           · intro act wx hS hr
                             simp at hr
                             obtain ⟨f1, f2, f3⟩ := (HW19.out _ hS).tail
                             have f4 := conv_word f1
                             have f5 := conv_word (HW9.out _ hS)
                             clear f1
                             go_simp
                             (try go_ints)
                             first
                               | exact Done.same
                          )
                      show ∀ w', _ → _
                      intro wz hz
                      simp [Act.put]
                      case hS => exact HT.out
                      have HBZ := Lib.hid (HTB.out _ hz)
                      clear hz
                      go_wp2
                      go_ret
                      exact ⟨rfl, HBZ.out⟩
                  | some S =>
                    have ej : joinW (some R) (some S) = some (R ++ S) := rfl
                    rw [ej] at t13 ⊢
                    clear ej
                    simp only [Option.getD_none, Option.getD_some, Option.isSome_none, Option.isSome_some, List.length_nil, List.length_cons] at *
                    have k1 := conv_word (t9 _ HT.out)
                    have k2 := conv_word (t15 _ HT.out)
                    have k3 := conv_word (t10 _ HT.out)
                    have k4 := conv_word (t17 _ HT.out)
                    have k5 := conv_word (t13 _ HT.out)
                    rw [List.length_append] at k5
                    have k6 : bs R ++ bs S = bs (R ++ S) := bs_append R S
                    have k7 : ¬ 9223372036854775807 < (bs R).size + (bs S).size := by
                      have h1 := (t9 _ HT.out).le
                      have h2 := (t10 _ HT.out).le
                      rw [bs_size, bs_size]; omega
                    clear t15 t10 t17 t13
                    have h19 := t19 _ HT.out
                    rcases h19 with ⟨h19, -⟩ | ⟨b19, o19, cc, hv19, -⟩
                    · cases h19
                    simp only [Value.slice.injEq, List.length_cons, true_and] at hv19
                    obtain ⟨rfl, rfl⟩ := hv19
                    have HW9 := Lib.hid t9
                    have HW19 := Lib.hid t19
                    have hcap := (t19 _ HT.out).tail.2.1
                    have hone : (1 : Int) ≤ (R.length : Int) + 1 := by omega
                    clear t9 t19
                    go_upto_region 13 with (fail)
                    clear k1 k2
                    by_cases hq1 : qy19 = 1
                    · have hR0 : R = [] := List.length_eq_zero_iff.1 (by omega)
                      subst hR0
                      subst hq1
                      simp only [List.length_nil] at *
                      clear hcap hone hRl hle hlez hled
                      refine wp_region_stable (S := T) (hSt := fun _ _ h hb => HTL.out _ _ h hb) (plan := [[(20, none)], [(163, some 0)], [(164, some 1)], [(19, none)], [(166, some 3)], [(9, none)], [(168, some 5)], [(169, some 6)], [(167, some 4), (170, some 7)], [(171, some 8)], [(19, none)], [(173, some 10)], [(174, some 11)], [(175, some 12)], [(9, none)], [(177, some 14)], [(176, some 13), (178, some 15)], [(172, some 9), (179, some 16)], [(180, some 17)], [(19, none)], [(182, some 19)], [(183, some 20)], [(9, none)], [(185, some 22)], [(184, some 21), (186, some 23)], [(181, some 18), (187, some 24)], [(165, some 2), (188, some 25)], [(189, some 26)]]) (by kernel_rfl) (by kernel_rfl) (by kernel_rfl) ?hS ?_
                      rotate_left
                      iterate 28 first
                        | (refine chain_skip (by rfl) (by rfl) ?_)
                        | (apply chain_want (by rfl)
                           · intro act wx hS hr
                             simp at hr
                             obtain ⟨f1, f2, f3⟩ := (HW19.out _ hS).tail
                             have f6 : IsW [] (.slice (some ⟨b19, o19, none⟩) 0 0) wx := .inr ⟨b19, o19, 0, rfl, Nat.le_refl _, Nat.zero_le _, World.block_lt_of_cell? wx _ f3, fun i hi => absurd hi (Nat.not_lt_zero i)⟩
                             have f4 := conv_word f6
                             have f5 := conv_word (HW9.out _ hS)
                             clear f1 f6
                             go_simp
                             (try go_ints)
                             first
                               | exact Done.same
                          )
                      show ∀ w', _ → _
                      intro wz hz
                      simp [Act.put]
                      case hS => exact HT.out
                      have HBZ := Lib.hid (HTB.out _ hz)
                      clear hz
                      go_wp2
                      go_ret
                      exact ⟨rfl, HBZ.out⟩
                    · clear hcap
                      refine wp_region_stable (S := T) (hSt := fun _ _ h hb => HTL.out _ _ h hb) (plan := [[(20, none)], [(163, some 0)], [(164, some 1)], [(19, none)], [(166, some 3)], [(9, none)], [(168, some 5)], [(169, some 6)], [(167, some 4), (170, some 7)], [(171, some 8)], [(19, none)], [(173, some 10)], [(174, some 11)], [(175, some 12)], [(9, none)], [(177, some 14)], [(176, some 13), (178, some 15)], [(172, some 9), (179, some 16)], [(180, some 17)], [(19, none)], [(182, some 19)], [(183, some 20)], [(9, none)], [(185, some 22)], [(184, some 21), (186, some 23)], [(181, some 18), (187, some 24)], [(165, some 2), (188, some 25)], [(189, some 26)]]) (by kernel_rfl) (by kernel_rfl) (by kernel_rfl) ?hS ?_
                      rotate_left
                      iterate 28 first
                        | (refine chain_skip (by rfl) (by rfl) ?_)
                        | (apply chain_want (by rfl)
                           · intro act wx hS hr
                             simp at hr
                             obtain ⟨f1, f2, f3⟩ := (HW19.out _ hS).tail
                             have f4 := conv_word f1
                             have f5 := conv_word (HW9.out _ hS)
                             clear f1
                             go_simp
                             (try go_ints)
                             first
                               | exact Done.same
                          )
                      show ∀ w', _ → _
                      intro wz hz
                      simp [Act.put]
                      case hS => exact HT.out
                      have HBZ := Lib.hid (HTB.out _ hz)
                      clear hz
                      go_wp2
                      go_ret
                      exact ⟨rfl, HBZ.out⟩
                · have ef : frmW 8 (some R) = none := by unfold frmW; simp [hle]
                  rw [ef]
                  clear ef t19
                  have hlez : ¬ (R.length : Int) ≤ 255 := by omega
                  have hled : decide ((R.length : Int) ≤ 255) = false := decide_eq_false hlez
                  cases s with
                  | none =>
                    have ej : joinW (some R) none = none := rfl
                    rw [ej]
                    clear ej t10 t13 t17
                    simp only [Option.getD_none, Option.getD_some, Option.isSome_none, Option.isSome_some, List.length_nil] at *
                    have k1 := conv_word (t9 _ HT.out)
                    have k2 := conv_word (t15 _ HT.out)
                    clear t9 t15
                    go_upto_region 13 with (fail)
                    refine wp_region_stable (S := T) (hSt := fun _ _ h hb => HTL.out _ _ h hb) (plan := [[(20, none)], [(163, some 0)], [(164, some 1)], [(19, none)], [(166, some 3)], [(9, none)], [(168, some 5)], [(169, some 6)], [(167, some 4), (170, some 7)], [(171, some 8)], [(19, none)], [(173, some 10)], [(174, some 11)], [(175, some 12)], [(9, none)], [(177, some 14)], [(176, some 13), (178, some 15)], [(172, some 9), (179, some 16)], [(180, some 17)], [(19, none)], [(182, some 19)], [(183, some 20)], [(9, none)], [(185, some 22)], [(184, some 21), (186, some 23)], [(181, some 18), (187, some 24)], [(165, some 2), (188, some 25)], [(189, some 26)]]) (by kernel_rfl) (by kernel_rfl) (by kernel_rfl) ?hS ?_
                    rotate_left
                    iterate 28 first
                      | (refine chain_skip (by rfl) (by rfl) ?_)
                      | (apply chain_want (by rfl)
                         · intro act wx hS hr
                           simp at hr
                           go_simp
                           (try go_ints)
                           first
                             | exact Done.same
                        )
                    show ∀ w', _ → _
                    intro wz hz
                    simp [Act.put]
                    case hS => exact HT.out
                    have HBZ := Lib.hid (HTB.out _ hz)
                    clear hz
                    go_wp2
                    go_ret
                    exact ⟨rfl, HBZ.out⟩
                  | some S =>
                    have ej : joinW (some R) (some S) = some (R ++ S) := rfl
                    rw [ej] at t13 ⊢
                    clear ej
                    simp only [Option.getD_none, Option.getD_some, Option.isSome_none, Option.isSome_some, List.length_nil] at *
                    have k1 := conv_word (t9 _ HT.out)
                    have k2 := conv_word (t15 _ HT.out)
                    have k3 := conv_word (t10 _ HT.out)
                    have k4 := conv_word (t17 _ HT.out)
                    have k5 := conv_word (t13 _ HT.out)
                    rw [List.length_append] at k5
                    have k6 : bs R ++ bs S = bs (R ++ S) := bs_append R S
                    have k7 : ¬ 9223372036854775807 < (bs R).size + (bs S).size := by
                      have h1 := (t9 _ HT.out).le
                      have h2 := (t10 _ HT.out).le
                      rw [bs_size, bs_size]; omega
                    clear t9 t15 t10 t17 t13
                    go_upto_region 13 with (fail)
                    refine wp_region_stable (S := T) (hSt := fun _ _ h hb => HTL.out _ _ h hb) (plan := [[(20, none)], [(163, some 0)], [(164, some 1)], [(19, none)], [(166, some 3)], [(9, none)], [(168, some 5)], [(169, some 6)], [(167, some 4), (170, some 7)], [(171, some 8)], [(19, none)], [(173, some 10)], [(174, some 11)], [(175, some 12)], [(9, none)], [(177, some 14)], [(176, some 13), (178, some 15)], [(172, some 9), (179, some 16)], [(180, some 17)], [(19, none)], [(182, some 19)], [(183, some 20)], [(9, none)], [(185, some 22)], [(184, some 21), (186, some 23)], [(181, some 18), (187, some 24)], [(165, some 2), (188, some 25)], [(189, some 26)]]) (by kernel_rfl) (by kernel_rfl) (by kernel_rfl) ?hS ?_
                    rotate_left
                    iterate 28 first
                      | (refine chain_skip (by rfl) (by rfl) ?_)
                      | (apply chain_want (by rfl)
                         · intro act wx hS hr
                           simp at hr
                           go_simp
                           (try go_ints)
                           first
                             | exact Done.same
                        )
                    show ∀ w', _ → _
                    intro wz hz
                    simp [Act.put]
                    case hS => exact HT.out
                    have HBZ := Lib.hid (HTB.out _ hz)
                    clear hz
                    go_wp2
                    go_ret
                    exact ⟨rfl, HBZ.out⟩
end Go.Proofs.Ytgdlbahfmddkaaa
