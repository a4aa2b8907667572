/- The statement ValueWrites of layer 11, walked, of a program that writes and compares values as it should. -/
import Derived.Test.YtgdlbahfmddkaaaM30
import Derived.Test.YtgdlbahfmddkaaaM31
import Derived.Test.YtgdlbahfmddkaaaM34
namespace Go.Proofs.Ytgdlbahfmddkaaa
open Go Go.RowKit
set_option linter.unusedVariables false
set_option linter.unusedSimpArgs false

theorem sub_tx {l : List Nd} (h : ∀ n ∈ l, n.text.length ≤ 2000) (i : Nat) : ∀ n ∈ subL l i, n.text.length ≤ 2000 := fun n hn => by
  unfold subL at hn
  obtain ⟨q, hq, rfl⟩ := List.mem_map.1 hn
  have e : (mvN (-(firstP l i : Int)) q).text = q.text := by unfold mvN; (repeat' split) <;> rfl
  rw [e]
  unfold seg at hq
  exact h q (List.mem_of_mem_drop (List.mem_of_mem_take hq))
theorem cells5 {w : World} {g : Nat} {a b c d e : Value} {t : TypeId} (h : Blk w g #[a, b, c, d, e] t) : w.cell? ⟨g, 0, none⟩ = some a ∧ w.cell? ⟨g, 1, none⟩ = some b ∧ w.cell? ⟨g, 2, none⟩ = some c ∧ w.cell? ⟨g, 3, none⟩ = some d ∧ w.cell? ⟨g, 4, none⟩ = some e := ⟨h.cell 0, h.cell 1, h.cell 2, h.cell 3, h.cell 4⟩
theorem IsW.short {W : Wd} {x : Value} {w : World} (h : IsW W x w) : W.length ≤ 1073741824 := by
  rcases h with ⟨-, rfl⟩ | ⟨b, off, cap, -, -, h5, -⟩
  · exact Nat.zero_le _
  · exact h5
/-- The node at hand. -/
structure VnS (w0 : World) (A : Option Addr) (l : List Nd) (c : Nat) (v : Vl) (B : Option Addr) (cv : Nat) (W : Wd) (x : Value) (bn : Nat) (n : Nd) (w : World) : Prop where
  s : WvS w0 A l c v B cv w
  x : IsW W x w
  nd : Blk w bn (ndC n) 44
theorem VnS.later {w0 w w' : World} {A : Option Addr} {l : List Nd} {c : Nat} {v : Vl} {B : Option Addr} {cv : Nat} {W : Wd} {x : Value} {bn : Nat} {n : Nd} (h : VnS w0 A l c v B cv W x bn n w) (hb : Below w.heap.size w w') : VnS w0 A l c v B cv W x bn n w' := ⟨h.s.later hb, h.x.later hb, h.nd.later hb⟩
def ViL (w14 : World) (H m : Nat) (ws : List Wd) (x13 x14 : Value) (w : World) : Prop :=
  ∃ k : Nat, k ≤ m ∧ x14 = .int .i64 (k : Int) ∧ Own8 w H x13 (nats (ws.take k).flatten) ∧ Below H w14 w
structure VkS (w0 : World) (A : Option Addr) (l : List Nd) (c : Nat) (v : Vl) (B : Option Addr) (cv : Nat) (W : Wd) (x : Value) (bn : Nat) (n : Nd) (w1 w : World) : Prop where
  bel : Below w1.heap.size w1 w
  v : VnS w0 A l c v B cv W x bn n w
theorem VkS.later {w0 : World} {A : Option Addr} {l : List Nd} {c : Nat} {v : Vl} {B : Option Addr} {cv : Nat} {W : Wd} {x : Value} {bn : Nat} {n : Nd} {w1 w w' : World} (h : VkS w0 A l c v B cv W x bn n w1 w) (hb : Below w.heap.size w w') : VkS w0 A l c v B cv W x bn n w1 w' := ⟨h.bel.trans (hb.mono h.bel.size), h.v.later hb⟩
set_option maxHeartbeats 64000000 in
set_option maxRecDepth 1000000 in
theorem valuewrites_walk (HWR : WriteC) (HSM : SameC) (HAW : Awake11) (l : List Nd) (A : Option Addr) (c : Nat) (v : Vl) (x : Value) (hc1 : l.length ≤ c) (hl : l.length ≤ 9223372036854775807) (htx : Txt l) (hv : cntV v ≤ 1048576) (w : World) (hrow : NRow w A l) (hx : IsV w x v) :
    Calls Try.prog 4 #[.agg #[.slice A l.length c], x] w (Ans w (.bool true)) := by
  obtain ⟨B, cv, hcv, rfl, hkv⟩ := hx
  have HS0 := Lib.hid (WvS.new w A l c v B cv hrow hkv)
  have HTX := Lib.hid htx
  have FV : Hid (∀ w', WvS w A l c v B cv w' → Calls Try.prog 10 #[.agg (vlC v B cv)] w' (Ans w' (.bool (fewV v)))) := fun w' h => rfewv_any v (by omega) _ w' ⟨B, cv, hcv, rfl, h.kids⟩
  have CW : Hid (∀ (t : Vl) (B' : Option Addr) (c' : Nat) (w' : World), Sp l → (∀ n ∈ l, n.text.length ≤ 2000) → NRow w' A l → cntV t ≤ 1000 → t.kids.len ≤ c' → VRow w' B' 0 t.kids → Calls Try.prog 11 #[.agg #[.slice A l.length c], .agg (vlC t B' c')] w' (PrV w' (wrD l t))) :=
    fun t B' c' w' h1 h2 h h3 h4 h5 => HWR l A c t _ w' h1.sm.form hc1 (by have := h1.sm.len; omega) h2 (by omega) h ⟨B', c', h4, rfl, h5⟩
  have CS : Hid (∀ w', WvS w A l c v B cv w' → Calls Try.prog 14 #[.agg (vlC v B cv), .agg (vlC v B cv)] w' (Ans w' (.bool (sameV v v)))) := fun w' h => HSM v v _ _ w' (by omega) (by omega) ⟨B, cv, hcv, rfl, h.kids⟩ ⟨B, cv, hcv, rfl, h.kids⟩
  have CT : Hid (∀ w', WvS w A l c v B cv w' → Calls Try.prog 14 #[.agg (vlC { v with pick := v.pick + 1 } B cv), .agg (vlC v B cv)] w' (Ans w' (.bool (sameV { v with pick := v.pick + 1 } v)))) := fun w' h => HSM { v with pick := v.pick + 1 } v _ _ w' (by unfold cntV at *; simp only; omega) (by omega) ⟨B, cv, hcv, rfl, h.kids⟩ ⟨B, cv, hcv, rfl, h.kids⟩
  have hs1 : sameV v v = true := sameV_t rfl
  have hs2 : sameV { v with pick := v.pick + 1 } v = false := sameV_f (fun e => by have := congrArg Vl.pick e; simp only at this; omega)
  rw [hs1] at CS
  rw [hs2] at CT
  have HCN : Hid (fewV v = true → cntV v ≤ 400) := fun h1 => by unfold fewV at h1; simp at h1; omega
  have HCV := Lib.hid hcv
  generalize fewV v = fv at *
  clear hrow hkv htx hv HSM hs1 hs2
  obtain ⟨vk, vb, vt, vp, ks⟩ := v
  simp only [vlC_five] at HS0 FV CS CT ⊢
  simp only at HCV hcv
  go_enter Try.func4, Try.ntmps4
  go_upto_region 1 with (fail)
  generalize (w.alloc (.cells #[.slice A l.length c] 24)).alloc (.cells #[.int .i64 vk, .int .u8 ((vb.toNat : Nat) : Int), .string (bs vt), .int .i64 vp, .slice B ks.len cv] 27) = w1 at *
  go_wp2_with fail
  refine (HAW _).mono ?_; rintro e w2 ⟨rfl, hb⟩
  have HS2 := Lib.hid (HS0.out.later hb)
  clear hb HS0
  have d0 := HS2.out.box.cell 0
  simp at d0
  obtain ⟨b0, b1, b2, b3, b4⟩ := vl_cells HS2.out.bv
  have HF := Lib.hid (few_any l A c hl HTX.out _ HS2.out.row)
  cases hf : fewB l with
  | false =>
    rw [hf] at HF
    clear hf
    go_wp2_with fail
    refine HF.out.mono ?_; rintro e wa ⟨rfl, hb⟩
    have HSZ := Lib.hid (HS2.out.later hb)
    clear hb d0 b0 b1 b2 b3 b4 HF HS2
    go_wp2_with fail
    refine (HAW _).mono ?_; rintro e WN ⟨rfl, hb⟩
    have HSY := Lib.hid (HSZ.out.later hb)
    clear hb
    go_wp2
    go_ret
    exact ⟨rfl, HSY.out.bel⟩
  | true =>
    rw [hf] at HF
    have KF := Lib.hid hf
    clear hf
    go_wp2_with fail
    refine HF.out.mono ?_; rintro e w3 ⟨rfl, hb⟩
    have HS3 := Lib.hid (HS2.out.later hb)
    clear hb d0 b0 b1 b2 b3 b4 HF HS2
    have d0 := HS3.out.box.cell 0
    simp at d0
    obtain ⟨b0, b1, b2, b3, b4⟩ := vl_cells HS3.out.bv
    have HF := Lib.hid (rright_any l A c hc1 (by have := (few_txt KF.out).1; omega) HTX.out _ HS3.out.row)
    cases hf : rgB l with
    | false =>
      rw [hf] at HF
      clear hf
      go_wp2_with fail
      refine HF.out.mono ?_; rintro e wa ⟨rfl, hb⟩
      have HSZ := Lib.hid (HS3.out.later hb)
      clear hb d0 b0 b1 b2 b3 b4 HF HS3
      go_wp2_with fail
      refine (HAW _).mono ?_; rintro e WN ⟨rfl, hb⟩
      have HSY := Lib.hid (HSZ.out.later hb)
      clear hb
      go_wp2
      go_ret
      exact ⟨rfl, HSY.out.bel⟩
    | true =>
      rw [hf] at HF
      have KR := Lib.hid hf
      clear hf
      go_wp2_with fail
      refine HF.out.mono ?_; rintro e w4 ⟨rfl, hb⟩
      have HS4 := Lib.hid (HS3.out.later hb)
      clear hb d0 b0 b1 b2 b3 b4 HF HS3
      have d0 := HS4.out.box.cell 0
      simp at d0
      obtain ⟨b0, b1, b2, b3, b4⟩ := vl_cells HS4.out.bv
      have HF := Lib.hid (FV.out _ HS4.out)
      cases hf : fv with
      | false =>
        rw [hf] at HF
        clear hf
        go_wp2_with fail
        refine HF.out.mono ?_; rintro e wa ⟨rfl, hb⟩
        have HSZ := Lib.hid (HS4.out.later hb)
        clear hb d0 b0 b1 b2 b3 b4 HF HS4
        go_wp2_with fail
        refine (HAW _).mono ?_; rintro e WN ⟨rfl, hb⟩
        have HSY := Lib.hid (HSZ.out.later hb)
        clear hb
        go_wp2
        go_ret
        exact ⟨rfl, HSY.out.bel⟩
      | true =>
        rw [hf] at HF
        have KV := Lib.hid hf
        clear hf
        go_wp2_with fail
        refine HF.out.mono ?_; rintro e w6 ⟨rfl, hb⟩
        have HS6 := Lib.hid (HS4.out.later hb)
        clear hb d0 b0 b1 b2 b3 b4 HF HS4
        have d0 := HS6.out.box.cell 0
        simp at d0
        obtain ⟨b0, b1, b2, b3, b4⟩ := vl_cells HS6.out.bv
        have htl : ∀ n ∈ l, n.text.length ≤ 2000 := (few_txt KF.out).2
        have hsp := few_sp KF.out ((rgB_iff l).1 KR.out).1
        have hln := (few_txt KF.out).1
        have CW := Lib.hid (fun t B' c' w' h => CW.out t B' c' w' hsp htl h)
        have HCN := Lib.hid (HCN.out KV.out)
        have hF : Form l := hsp.sm.form
        have hpos := hF.1
        have HTL := Lib.hid htl
        have HFM := Lib.hid hF
        have HSP := Lib.hid hsp
        clear htl hsp FV HAW
        have C3 := Lib.hid (CW.out ⟨vk, vb, vt, vp, ks⟩ B cv w6 HS6.out.row (by have := HCN.out; omega) hcv HS6.out.kids)
        unfold vlC at C3
        simp only at C3
        cases hr : wrD l ⟨vk, vb, vt, vp, ks⟩ with
        | none =>
          rw [hr] at C3
          clear hr
          go_wp2_with fail
          refine C3.out.mono ?_; rintro e w7 ⟨x7, rfl, ⟨sx, rfl, hx7⟩, hb⟩
          have HB7 := Lib.hid (HS6.out.bel.trans (hb.mono HS6.out.bel.size))
          obtain ⟨A7, c7, hs7, -⟩ := hx7.len
          have hs7 : sx = .slice A7 0 c7 := hs7
          subst hs7
          clear hb hx7 C3 HS6 d0 b0 b1 b2 b3 b4
          go_wp2
          go_ret
          exact ⟨rfl, HB7.out⟩
        | some W =>
          rw [hr] at C3
          have HR := Lib.hid hr
          have hpk := only_pick hr
          simp only at hpk
          have hp0 : vp = 0 ∨ vp = 1 := hpk.1
          have HPK : Hid (vk ≠ 5 → wrD l ⟨vk, vb, vt, vp + 1, ks⟩ = none) := hpk.2
          have hspan := wrV_span hF ⟨vk, vb, vt, vp, ks⟩ (l.length - 1) W (by omega) hr
          have C6 : Hid (∀ w', WvS w A l c ⟨vk, vb, vt, vp, ks⟩ B cv w' → Calls Try.prog 18 #[.agg #[.slice A l.length c], .int .i64 ((l.length : Int) - 1)] w' (Ans w' (.tuple #[.int .i64 (spN l (l.length - 1)).1, .int .i64 (spN l (l.length - 1)).2]))) := fun w' h => by
            have := IsD.rspnode (l := l) (v := .agg #[.slice A l.length c]) (w := w') ⟨A, c, hc1, rfl, h.row⟩ HSP.out (i := l.length - 1) (by omega) rfl
            rwa [show ((l.length - 1 : Nat) : Int) = (l.length : Int) - 1 by omega] at this
          generalize spN l (l.length - 1) = sp at *
          obtain ⟨slo, shi⟩ := sp
          obtain ⟨hi1, hi2, hi3⟩ := hspan
          simp only at hi1 hi2 hi3 C6
          clear hr hpk
          go_wp2_with fail
          refine C3.out.mono ?_; rintro e w7 ⟨x7, rfl, ⟨sx, rfl, hx7⟩, hb⟩
          have hx7 : IsW W sx w7 := hx7
          have HX7 := Lib.hid hx7
          obtain ⟨A5, c5, hs7, -⟩ := hx7.len
          subst hs7
          have HS7 := Lib.hid (HS6.out.later hb)
          clear hb hx7 C3 HS6 d0 b0 b1 b2 b3 b4
          have d0 := HS7.out.box.cell 0
          simp at d0
          obtain ⟨b0, b1, b2, b3, b4⟩ := vl_cells HS7.out.bv
          go_wp2_with fail
          refine (C6.out _ HS7.out).mono ?_; rintro e w8 ⟨rfl, hb⟩
          have HS8 := Lib.hid (HS7.out.later hb)
          have HX8 := Lib.hid (HX7.out.later hb)
          clear hb C6 HS7 HX7 d0 b0 b1 b2 b3 b4
          have d0 := HS8.out.box.cell 0
          simp at d0
          obtain ⟨b0, b1, b2, b3, b4⟩ := vl_cells HS8.out.bv
          have h70 : ¬ slo < 0 := by omega
          have h71 : ¬ (W.length : Int) < slo := by omega
          have h72 : decide (slo < 0) = false := decide_eq_false h70
          have h73 : decide ((W.length : Int) < slo) = false := decide_eq_false h71
          have key : (0 ≤ shi ∧ (W.length : Int) ≤ shi) ∨ shi = -1 := by
            rcases hi3 with e | e
            · exact .inr e
            · left; omega
          rcases key with ⟨h74, h75⟩ | h74
          · have h76 : decide (0 ≤ shi) = true := decide_eq_true h74
            have h77 : decide (shi < (W.length : Int)) = false := decide_eq_false (by omega)
            have h78 : ¬ shi < (W.length : Int) := by omega
            clear hi1 hi2 hi3
            go_wp2_with fail
            refine (CS.out _ HS8.out).mono ?_; rintro e w9 ⟨rfl, hb⟩
            have HS9 := Lib.hid (HS8.out.later hb)
            have HX9 := Lib.hid (HX8.out.later hb)
            clear hb CS HS8 HX8 d0 b0 b1 b2 b3 b4
            have d0 := HS9.out.box.cell 0
            simp at d0
            obtain ⟨b0, b1, b2, b3, b4⟩ := vl_cells HS9.out.bv
            go_upto_region 10 with (fail)
            have hb8 := (Below.refl w9.heap.size w9).alloc (Nat.le_refl _) (.cells #[.int .i64 vk, .int .u8 ((vb.toNat : Nat) : Int), .string (bs vt), .int .i64 vp, .slice B ks.len cv] 27)
            have HXq : Hid (Blk (w9.alloc (.cells #[.int .i64 vk, .int .u8 ((vb.toNat : Nat) : Int), .string (bs vt), .int .i64 vp, .slice B ks.len cv] 27)) w9.heap.size #[.int .i64 vk, .int .u8 ((vb.toNat : Nat) : Int), .string (bs vt), .int .i64 vp, .slice B ks.len cv] 27) := Blk.new _ _ _
            have hb9 := hb8.setCell (p := ⟨w9.heap.size, 3, none⟩) (Nat.le_refl _) (.int .i64 (vp + 1))
            have HSq := Lib.hid (HS9.out.later hb8)
            have HS10 := Lib.hid (HS9.out.later hb9)
            have HX10 := Lib.hid (HX9.out.later hb9)
            have HXr : Hid (Blk ((w9.alloc (.cells #[.int .i64 vk, .int .u8 ((vb.toNat : Nat) : Int), .string (bs vt), .int .i64 vp, .slice B ks.len cv] 27)).setCell ⟨w9.heap.size, 3, none⟩ (.int .i64 (vp + 1))) w9.heap.size #[.int .i64 vk, .int .u8 ((vb.toNat : Nat) : Int), .string (bs vt), .int .i64 (vp + 1), .slice B ks.len cv] 27) := HXq.out.setCell 3 (.int .i64 (vp + 1))
            clear hb8 hb9 d0 b0 b1 b2 b3 b4 HS9 HX9
            have d0 := HSq.out.box.cell 0
            simp at d0
            obtain ⟨b0, b1, b2, b3, b4⟩ := vl_cells HSq.out.bv
            obtain ⟨x0, x1, x2, x3, x4⟩ := vl_cells HXq.out
            have xf := HXq.out.frozen 3
            generalize w9.alloc (.cells #[.int .i64 vk, .int .u8 ((vb.toNat : Nat) : Int), .string (bs vt), .int .i64 vp, .slice B ks.len cv] 27) = wq at *
            generalize w9.heap.size = bq at *
            have hp2 : 0 ≤ vp ∧ vp ≤ 1 := by omega
            obtain ⟨hp3, hp4⟩ := hp2
            go_upto_region 11 with (fail)
            generalize wq.setCell ⟨bq, 3, none⟩ (.int .i64 (vp + 1)) = w10 at *
            clear d0 b0 b1 b2 b3 b4 x0 x1 x2 x3 x4 xf HXq HSq
            have d0 := HS10.out.box.cell 0
            simp at d0
            obtain ⟨b0, b1, b2, b3, b4⟩ := vl_cells HS10.out.bv
            have C8 := Lib.hid (CW.out ⟨vk, vb, vt, vp + 1, ks⟩ B cv _ HS10.out.row (by have := HCN.out; unfold cntV at *; simp only at *; omega) hcv HS10.out.kids)
            unfold vlC at C8
            simp only at C8
            obtain ⟨x0, x1, x2, x3, x4⟩ := cells5 HXr.out
            go_wp2_with fail
            refine C8.out.mono ?_; rintro e w11 ⟨x8, rfl, ⟨s8, rfl, hx8⟩, hb⟩
            have HS11 := Lib.hid (HS10.out.later hb)
            have HX11 := Lib.hid (HX10.out.later hb)
            have HXs := Lib.hid (HXr.out.later hb)
            clear hb hx8 C8 HS10 HX10 HXr d0 b0 b1 b2 b3 b4 x0 x1 x2 x3 x4
            have d0 := HS11.out.box.cell 0
            simp at d0
            obtain ⟨b0, b1, b2, b3, b4⟩ := vl_cells HS11.out.bv
            obtain ⟨x0, x1, x2, x3, x4⟩ := cells5 HXs.out
            generalize wrD l ⟨vk, vb, vt, vp + 1, ks⟩ = rk at *
            obtain ⟨hhd, ws, hwl, hwk, hwe, hcap⟩ := wrV_some HR.out
            try simp only at hhd hwl hwk hcap
            have hkn : vk = (atN l (l.length - 1)).kind := hhd.1
            have hleaf := hhd.2.2.2.2.2.1
            have HWL := Lib.hid hwl
            have HWK := Lib.hid hwk
            have HCAP := Lib.hid hcap
            obtain ⟨ba, oa, hba, -, -⟩ := HS11.out.row (l.length - 1) (by omega)
            have HTN : Hid (∀ w', WvS w A l c ⟨vk, vb, vt, vp, ks⟩ B cv w' → At10 w' ba (oa + (l.length - 1) * 10) (atN l (l.length - 1))) := fun w' h => by
              have := h.row.at (i := l.length - 1) (by omega) hba
              exact this
            obtain ⟨n, hn⟩ : ∃ n, n = atN l (l.length - 1) := ⟨_, rfl⟩
            rw [← hn] at hkn hleaf HTN HWK HCAP hhd
            have hkr := kind_range HFM.out (i := l.length - 1) (by omega)
            rw [← hn] at hkr
            have HN := Lib.hid hn
            clear hwl hwk hwe hcap hn
            subst hba
            obtain ⟨nk, na, nb, nlo, nhi, ncls, ntext⟩ := n
            try simp only at hkn hleaf hkr
            subst hkn
            have hlz : (0 : Int) ≤ (l.length : Int) - 1 := by omega
            have hlz2 : (l.length : Int) - 1 < (l.length : Int) := by omega
            by_cases k5 : vk = 5
            · have z5 : (vk != 5) = false := by simp [k5]
              have K5 := Lib.hid k5
              clear k5
              generalize rk.isSome = zk at *
              go_wp2_with fail
              refine (CT.out _ HS11.out).mono ?_; rintro e w12 ⟨rfl, hb⟩
              have HS12 := Lib.hid (HS11.out.later hb)
              have HX12 := Lib.hid (HX11.out.later hb)
              clear hb CT HS11 HX11 HXs d0 b0 b1 b2 b3 b4 x0 x1 x2 x3 x4
              have d0 := HS12.out.box.cell 0
              simp at d0
              obtain ⟨b0, b1, b2, b3, b4⟩ := vl_cells HS12.out.bv
              go_upto_region 14 with (fail)
              obtain ⟨g0, g1, g2, g3, g4, g5, g6, g7, g8, g9⟩ := HTN.out _ HS12.out
              simp only at g0 g1 g2 g3 g4 g5 g6 g7 g8 g9
              go_upto_region 15 with (fail)
              have hb14 := (Below.refl w12.heap.size w12).alloc (Nat.le_refl _) (.cells #[.int .i64 vk, .int .i64 na, .int .i64 nb, .int .i64 nlo, .int .i64 nhi, .int .u64 (wd ncls 0), .int .u64 (wd ncls 1), .int .u64 (wd ncls 2), .int .u64 (wd ncls 3), .string (bs ntext)] 44)
              have HV14 : Hid (VnS w (some ⟨ba, oa, none⟩) l c ⟨vk, vb, vt, vp, ks⟩ B cv W (.slice A5 W.length c5) w12.heap.size ⟨vk, na, nb, nlo, nhi, ncls, ntext⟩ (w12.alloc (.cells #[.int .i64 vk, .int .i64 na, .int .i64 nb, .int .i64 nlo, .int .i64 nhi, .int .u64 (wd ncls 0), .int .u64 (wd ncls 1), .int .u64 (wd ncls 2), .int .u64 (wd ncls 3), .string (bs ntext)] 44))) := ⟨HS12.out.later hb14, HX12.out.later hb14, Blk.new _ _ _⟩
              clear hb14 HS12 HX12 g0 g1 g2 g3 g4 g5 g6 g7 g8 g9 d0 b0 b1 b2 b3 b4
              generalize w12.alloc (.cells #[.int .i64 vk, .int .i64 na, .int .i64 nb, .int .i64 nlo, .int .i64 nhi, .int .u64 (wd ncls 0), .int .u64 (wd ncls 1), .int .u64 (wd ncls 2), .int .u64 (wd ncls 3), .string (bs ntext)] 44) = w14 at *
              generalize w12.heap.size = bn at *
              have HZ14 := Lib.hid HV14.out.s
              have d0 := HZ14.out.box.cell 0
              simp at d0
              obtain ⟨b0, b1, b2, b3, b4⟩ := vl_cells HZ14.out.bv
              obtain ⟨f0, f1, f2, f3, f4, f5, f6, f7, f8, f9⟩ := ten_cells HV14.out.nd
              by_cases k4 : vk < 4
              · have z4 : decide (vk < 4) = true := decide_eq_true k4
                have hk0 : ks.len = 0 := hleaf (by omega)
                have hkz : (((ks.len : Nat) : Int) == 0) = true := by rw [hk0]; rfl
                have HB14 := Lib.hid HV14.out.s.bel
                clear hk0 hleaf
                go_wp2
                go_ret
                exact ⟨rfl, HB14.out⟩
              · have z4 : decide (vk < 4) = false := decide_eq_false k4
                have HFL : Hid (∀ k, (ws.take k).flatten.length ≤ 1000000) := fun k => by
                  have h1 : (ws.take k).flatten.length ≤ ws.flatten.length := by
                    conv => rhs; rw [← List.take_append_drop k ws, List.flatten_append, List.length_append]
                    omega
                  have h2 : ws.flatten.length ≤ W.length := by
                    have := HCAP.out
                    unfold capW at this
                    simp only at this
                    rw [if_neg (by omega), if_neg (by omega)] at this
                    split at this
                    · split at this
                      · injection this with this; rw [← this]; simp
                      · cases this
                    · split at this
                      · split at this
                        · injection this with this; rw [← this]; simp; omega
                        · cases this
                      · injection this with this; rw [this]; exact Nat.le_refl _
                  have h3 := wrV_len HTL.out _ _ _ HR.out
                  have h4 := HCN.out
                  have : (2000 + 2) * cntV ⟨vk, vb, vt, vp, ks⟩ ≤ (2000 + 2) * 400 := Nat.mul_le_mul_left _ h4
                  omega
                have HKQ : Hid (∀ k, k < ks.len → ∃ q : Nat, kidN ⟨vk, na, nb, nlo, nhi, ncls, ntext⟩ vp k = (q : Int) ∧ q < l.length) := fun k hk => by
                  have ho9 := HFM.out.2.1 (l.length - 1) (by omega)
                  rw [← HN.out] at ho9
                  have hn := HN.out.symm
                  cases ho9.cs hn with
                  | leaf hk9 hf => unfold leafK at hk9; simp only at hk9; omega
                  | one hk9 hi0 ha hb h7 hr hcl hf =>
                    simp only at hk9 ha
                    exact ⟨na.toNat, by unfold kidN; rw [if_neg (by simp only; omega)]; simp only; omega, by omega⟩
                  | two hk9 hi0 hb ha hf0 hl hcl hf =>
                    simp only at hk9 ha hb
                    have hle := firstP_le l (l.length - 1 - 1)
                    unfold kidN
                    split
                    · exact ⟨nb.toNat, by simp only; omega, by omega⟩
                    · exact ⟨na.toNat, by simp only; omega, by omega⟩
                have HI0 : Hid (ViL w14 w14.heap.size ks.len ws (.slice none 0 0) (.int .i64 ((0 : Nat) : Int)) w14) := ⟨0, Nat.zero_le _, rfl, Own8.nil _ _, Below.refl _ _⟩
                obtain ⟨H, hH⟩ : ∃ H, H = w14.heap.size := ⟨_, rfl⟩
                rw [← hH] at HI0
                have HH := Lib.hid hH
                clear hH HZ14
                go_upto_region 17 with (fail)
                clear d0 b0 b1 b2 b3 b4 f0 f1 f2 f3 f4 f5 f6 f7 f8 f9
                go_wp2
                go_loopw [13, 14] (ViL w14 H ks.len ws) (fun _ x _ => ks.len - (intOf x).toNat)
                case atStart => exact HI0.out
                case round =>
                  obtain ⟨k, hk, rfl, hown, hbel⟩ := hrel
                  have HO := Lib.hid hown
                  have HBL := Lib.hid hbel
                  have HLO : Hid (H ≤ wr.heap.size) := by unfold Hid; rw [HH.out]; exact hbel.size
                  have hbw : Below w14.heap.size w14 wr := by rw [← HH.out]; exact hbel
                  have HV := Lib.hid (HV14.out.later hbw)
                  clear hown hbel hbw HI0
                  try simp only at hk
                  have HZV := Lib.hid HV.out.s
                  have d0 := HZV.out.box.cell 0
                  simp at d0
                  obtain ⟨b0, b1, b2, b3, b4⟩ := vl_cells HZV.out.bv
                  obtain ⟨f0, f1, f2, f3, f4, f5, f6, f7, f8, f9⟩ := ten_cells HV.out.nd
                  by_cases hlt : k < ks.len
                  · have y5 : (vk == 5) = true := by rw [K5.out]; rfl
                    have y4 : (vk == 4) = false := by rw [K5.out]; rfl
                    by_cases kr : vp = 1
                    · have yp : (vp == 1) = true := by simp [kr]
                      have hif : (vk = 4 ∧ k = 1 ∨ vk = 5 ∧ vp = 1) := .inr ⟨K5.out, kr⟩
                      clear kr
                      obtain ⟨q, hq, hql⟩ := HKQ.out k hlt
                      have hkk : kidN ⟨vk, na, nb, nlo, nhi, ncls, ntext⟩ vp k = nb := by unfold kidN; rw [if_pos hif]
                      clear hif
                      have hwk := HWK.out k hlt
                      rw [hkk] at hq hwk
                      have HQE := Lib.hid hq
                      rw [hq] at hwk
                      have hqt : ((q : Int)).toNat = q := rfl
                      rw [hqt] at hwk
                      have hws := wr_sub hql (HFM.out.okTo hql) (ks.at k)
                      rw [hwk] at hws
                      have HSU : Hid (∀ w', WvS w (some ⟨ba, oa, none⟩) l c ⟨vk, vb, vt, vp, ks⟩ B cv w' → Calls Try.prog 19 #[.agg #[.slice (some ⟨ba, oa, none⟩) l.length c], .int .i64 nb] w' (DPost w' (subL l q))) := fun w' h => by
                        rw [HQE.out]
                        exact IsD.rsub ⟨_, c, hc1, rfl, h.row⟩ HSP.out.sm hql
                      have HWSB := Lib.hid hws
                      have HCK : Hid (cntV (ks.at k) ≤ 100000) := by have h1 := cntVs_at ks k hlt; have h2 := HCN.out; unfold Hid cntV at *; simp only at *; omega
                      have HQL := Lib.hid hql
                      obtain ⟨gk, ok, Yk, ck, hBk, hel⟩ := VRow.el HV.out.s.kids hlt
                      have hBk : B = some ⟨gk, ok, none⟩ := hBk
                      have hel : ElS gk (ok + k * 5) (ks.at k) Yk ck wr := hel
                      have HEL := Lib.hid hel
                      have htk : (ws.take (k + 1)).flatten = (ws.take k).flatten ++ ws.getD k [] := by
                        rw [List.take_add_one, List.flatten_append, List.getD_eq_getElem?_getD, List.getElem?_eq_getElem (by have := HWL.out; omega)]
                        simp
                      have HTK := Lib.hid htk
                      have HFB := Lib.hid (HFL.out (k + 1))
                      rw [HTK.out, List.length_append] at HFB
                      generalize ws.getD k [] = wk at *
                      generalize (ws.take k).flatten = fl at *
                      clear hq hkk hwk hqt hws hel htk hql
                      generalize ks.at k = kv at *
                      obtain ⟨kk, kb, kt, kp, kks⟩ := kv
                      subst hBk
                      have hltz : (k : Int) < (ks.len : Int) := by omega
                      have hkb : (k : Int) ≤ 400 := by have h1 := cntVs_len ks; have h2 := HCN.out; unfold cntV at h2; simp only at h2; omega
                      go_upto_region 24 with (fail)
                      have HK0 : Hid (VkS w (some ⟨ba, oa, none⟩) l c ⟨vk, vb, vt, vp, ks⟩ (some ⟨gk, ok, none⟩) cv W (.slice A5 W.length c5) bn ⟨vk, na, nb, nlo, nhi, ncls, ntext⟩ wr wr) := ⟨Below.refl _ _, HV.out⟩
                      refine wp_region_stable (S := (VkS w (some ⟨ba, oa, none⟩) l c ⟨vk, vb, vt, vp, ks⟩ (some ⟨gk, ok, none⟩) cv W (.slice A5 W.length c5) bn ⟨vk, na, nb, nlo, nhi, ncls, ntext⟩ wr)) (hSt := fun _ _ h hb => h.later hb) (plan := [[(2, none)], [(15, none)], [(146, some 0), (147, some 1)], [(3, none)], [(149, some 3)], [(14, none)], [(150, some 4), (151, some 5)], [(152, some 6)], [(148, some 2), (153, some 7)], [(154, some 8)], [(145, some 9)], [(145, some 9)], [(155, some 10)], [(156, some 11)]]) (by kernel_rfl) (by kernel_rfl) (by kernel_rfl) ?hS ?_
                      rotate_left
                      iterate 2 first
                        | (refine chain_skip (by rfl) (by rfl) ?_)
                        | (apply chain_want (by rfl)
                           · intro act wx hS hr
                             simp at hr
                             have d0 := hS.v.s.box.cell 0
                             simp at d0
                             obtain ⟨b0, b1, b2, b3, b4⟩ := vl_cells hS.v.s.bv
                             obtain ⟨p0, p1, p2, p3, p4⟩ := (HEL.out.later hS.bel).five
                             have hkv := (HEL.out.later hS.bel).isV
                             go_simp
                             (try go_ints)
                             first
                               | (obtain ⟨x, hr1, sv, rfl, hx⟩ := hr; simp only [hr1, Option.getD_some]; go_simp; exact Done.same)
                               | exact Done.same
                          )
                      (refine chain_rel (IsD (subL l q)) (IsD.later _) (by rfl) ?_ ?_
                       · intro act wx hS hr
                         simp at hr
                         have d0 := hS.v.s.box.cell 0
                         simp at d0
                         obtain ⟨b0, b1, b2, b3, b4⟩ := vl_cells hS.v.s.bv
                         obtain ⟨p0, p1, p2, p3, p4⟩ := (HEL.out.later hS.bel).five
                         have hkv := (HEL.out.later hS.bel).isV
                         all_goals go_simp
                         ((with_reducible refine (HSU.out _ hS.v.s).mono ?_); intro e w' hp; obtain ⟨sv, rfl, ho, hb⟩ := hp; exact Done.rel hb ho.isD)
                      )
                      iterate 5 first
                        | (refine chain_skip (by rfl) (by rfl) ?_)
                        | (apply chain_want (by rfl)
                           · intro act wx hS hr
                             simp at hr
                             have d0 := hS.v.s.box.cell 0
                             simp at d0
                             obtain ⟨b0, b1, b2, b3, b4⟩ := vl_cells hS.v.s.bv
                             obtain ⟨p0, p1, p2, p3, p4⟩ := (HEL.out.later hS.bel).five
                             have hkv := (HEL.out.later hS.bel).isV
                             go_simp
                             (try go_ints)
                             first
                               | (obtain ⟨x, hr1, sv, rfl, hx⟩ := hr; simp only [hr1, Option.getD_some]; go_simp; exact Done.same)
                               | exact Done.same
                          )
                      (refine chain_rel (TupV (some wk)) (TupV.later _) (by rfl) ?_ ?_
                       · intro act wx hS hr
                         simp at hr
                         have d0 := hS.v.s.box.cell 0
                         simp at d0
                         obtain ⟨b0, b1, b2, b3, b4⟩ := vl_cells hS.v.s.bv
                         obtain ⟨p0, p1, p2, p3, p4⟩ := (HEL.out.later hS.bel).five
                         have hkv := (HEL.out.later hS.bel).isV
                         obtain ⟨⟨x, hr1, hx⟩, hr2⟩ := hr
                         all_goals go_simp
                         (refine (HWR.isD hx (HSP.out.sub HQL.out) (sub_tx HTL.out q) HCK.out hkv HWSB.out).mono ?_; rintro e w' ⟨x, rfl, hx, hb⟩; exact Done.rel hb hx)
                      )
                      (refine chain_rel (TupV (some wk)) (TupV.later _) (by rfl) ?_ ?_
                       · intro act wx hS hr
                         simp at hr
                         have d0 := hS.v.s.box.cell 0
                         simp at d0
                         obtain ⟨b0, b1, b2, b3, b4⟩ := vl_cells hS.v.s.bv
                         obtain ⟨p0, p1, p2, p3, p4⟩ := (HEL.out.later hS.bel).five
                         have hkv := (HEL.out.later hS.bel).isV
                         obtain ⟨x, hr1, hx⟩ := hr
                         all_goals go_simp
                         exact Done.rel (Below.refl _ _) hx
                      )
                      (refine chain_rel (IsWp wk) (IsWp.later _) (by rfl) ?_ ?_
                       · intro act wx hS hr
                         simp at hr
                         have d0 := hS.v.s.box.cell 0
                         simp at d0
                         obtain ⟨b0, b1, b2, b3, b4⟩ := vl_cells hS.v.s.bv
                         obtain ⟨p0, p1, p2, p3, p4⟩ := (HEL.out.later hS.bel).five
                         have hkv := (HEL.out.later hS.bel).isV
                         obtain ⟨x, hr1, sv, rfl, hx⟩ := hr
                         all_goals go_simp
                         exact Done.rel (Below.refl _ _) hx
                      )
                      iterate 1 first
                        | (refine chain_skip (by rfl) (by rfl) ?_)
                        | (apply chain_want (by rfl)
                           · intro act wx hS hr
                             simp at hr
                             have d0 := hS.v.s.box.cell 0
                             simp at d0
                             obtain ⟨b0, b1, b2, b3, b4⟩ := vl_cells hS.v.s.bv
                             obtain ⟨p0, p1, p2, p3, p4⟩ := (HEL.out.later hS.bel).five
                             have hkv := (HEL.out.later hS.bel).isV
                             go_simp
                             (try go_ints)
                             first
                               | (obtain ⟨x, hr1, sv, rfl, hx⟩ := hr; simp only [hr1, Option.getD_some]; go_simp; exact Done.same)
                               | exact Done.same
                          )
                      (refine chain_rel (IsWp wk) (IsWp.later _) (by rfl) ?_ ?_
                       · intro act wx hS hr
                         simp at hr
                         have d0 := hS.v.s.box.cell 0
                         simp at d0
                         obtain ⟨b0, b1, b2, b3, b4⟩ := vl_cells hS.v.s.bv
                         obtain ⟨p0, p1, p2, p3, p4⟩ := (HEL.out.later hS.bel).five
                         have hkv := (HEL.out.later hS.bel).isV
                         obtain ⟨x, hr1, hx⟩ := hr
                         all_goals go_simp
                         exact Done.rel (Below.refl _ _) hx
                      )
                      iterate 1 first
                        | (refine chain_skip (by rfl) (by rfl) ?_)
                        | (apply chain_want (by rfl)
                           · intro act wx hS hr
                             simp at hr
                             have d0 := hS.v.s.box.cell 0
                             simp at d0
                             obtain ⟨b0, b1, b2, b3, b4⟩ := vl_cells hS.v.s.bv
                             obtain ⟨p0, p1, p2, p3, p4⟩ := (HEL.out.later hS.bel).five
                             have hkv := (HEL.out.later hS.bel).isV
                             go_simp
                             (try go_ints)
                             first
                               | (obtain ⟨x, hr1, sv, rfl, hx⟩ := hr; simp only [hr1, Option.getD_some]; go_simp; exact Done.same)
                               | exact Done.same
                          )
                      show ∀ w', _ → _
                      intro w24 hz24
                      simp [Act.put]
                      case hS => exact HK0.out
                      intro p1 _ p2 _ p3 _ p4 _ p5 hp5
                      have hp5 : IsW wk p5 w24 := hp5
                      have HP5 := Lib.hid hp5
                      have HO24 := Lib.hid (HO.out.later hz24.bel)
                      have HBL24 := Lib.hid (HBL.out.trans (hz24.bel.mono HLO.out))
                      have HL24 : Hid (H ≤ w24.heap.size) := Nat.le_trans HLO.out hz24.bel.size
                      clear hz24 hp5 HK0 HV HO HEL HSU HBL
                      go_wp2_with (at_builtin; refine wpList_append_w rfl _ _ rfl H u13 fl rfl HO24.out wk p5 rfl HP5.out (by have := HFB.out; omega) HL24.out ?_; intro v6 w6 h1 h2; have HO6 := Lib.hid h1; have HB6 := Lib.hid ((Below.refl H _).grown h2 HL24.out (fun k hk => (World.ownsRow.lt HO24.out k hk).1)); clear h1 h2)
                      have HBL6 := Lib.hid (HBL24.out.trans HB6.out)
                      go_wp2
                      go_roundw
                      case rel => exact ⟨k + 1, by omega, by go_num, by rw [HTK.out]; exact HO6.out, HBL6.out⟩
                      case measure => simp [intOf]; omega
                    · have yp : (vp == 1) = false := by rw [beq_eq_false_iff_ne]; exact kr
                      have hif : ¬ (vk = 4 ∧ k = 1 ∨ vk = 5 ∧ vp = 1) := by have := K5.out; omega
                      obtain ⟨q, hq, hql⟩ := HKQ.out k hlt
                      have hkk : kidN ⟨vk, na, nb, nlo, nhi, ncls, ntext⟩ vp k = na := by unfold kidN; rw [if_neg hif]
                      clear hif
                      have hwk := HWK.out k hlt
                      rw [hkk] at hq hwk
                      have HQE := Lib.hid hq
                      rw [hq] at hwk
                      have hqt : ((q : Int)).toNat = q := rfl
                      rw [hqt] at hwk
                      have hws := wr_sub hql (HFM.out.okTo hql) (ks.at k)
                      rw [hwk] at hws
                      have HSU : Hid (∀ w', WvS w (some ⟨ba, oa, none⟩) l c ⟨vk, vb, vt, vp, ks⟩ B cv w' → Calls Try.prog 19 #[.agg #[.slice (some ⟨ba, oa, none⟩) l.length c], .int .i64 na] w' (DPost w' (subL l q))) := fun w' h => by
                        rw [HQE.out]
                        exact IsD.rsub ⟨_, c, hc1, rfl, h.row⟩ HSP.out.sm hql
                      have HWSB := Lib.hid hws
                      have HCK : Hid (cntV (ks.at k) ≤ 100000) := by have h1 := cntVs_at ks k hlt; have h2 := HCN.out; unfold Hid cntV at *; simp only at *; omega
                      have HQL := Lib.hid hql
                      obtain ⟨gk, ok, Yk, ck, hBk, hel⟩ := VRow.el HV.out.s.kids hlt
                      have hBk : B = some ⟨gk, ok, none⟩ := hBk
                      have hel : ElS gk (ok + k * 5) (ks.at k) Yk ck wr := hel
                      have HEL := Lib.hid hel
                      have htk : (ws.take (k + 1)).flatten = (ws.take k).flatten ++ ws.getD k [] := by
                        rw [List.take_add_one, List.flatten_append, List.getD_eq_getElem?_getD, List.getElem?_eq_getElem (by have := HWL.out; omega)]
                        simp
                      have HTK := Lib.hid htk
                      have HFB := Lib.hid (HFL.out (k + 1))
                      rw [HTK.out, List.length_append] at HFB
                      generalize ws.getD k [] = wk at *
                      generalize (ws.take k).flatten = fl at *
                      clear hq hkk hwk hqt hws hel htk hql
                      generalize ks.at k = kv at *
                      obtain ⟨kk, kb, kt, kp, kks⟩ := kv
                      subst hBk
                      have hltz : (k : Int) < (ks.len : Int) := by omega
                      have hkb : (k : Int) ≤ 400 := by have h1 := cntVs_len ks; have h2 := HCN.out; unfold cntV at h2; simp only at h2; omega
                      go_upto_region 24 with (fail)
                      have HK0 : Hid (VkS w (some ⟨ba, oa, none⟩) l c ⟨vk, vb, vt, vp, ks⟩ (some ⟨gk, ok, none⟩) cv W (.slice A5 W.length c5) bn ⟨vk, na, nb, nlo, nhi, ncls, ntext⟩ wr wr) := ⟨Below.refl _ _, HV.out⟩
                      refine wp_region_stable (S := (VkS w (some ⟨ba, oa, none⟩) l c ⟨vk, vb, vt, vp, ks⟩ (some ⟨gk, ok, none⟩) cv W (.slice A5 W.length c5) bn ⟨vk, na, nb, nlo, nhi, ncls, ntext⟩ wr)) (hSt := fun _ _ h hb => h.later hb) (plan := [[(2, none)], [(15, none)], [(146, some 0), (147, some 1)], [(3, none)], [(149, some 3)], [(14, none)], [(150, some 4), (151, some 5)], [(152, some 6)], [(148, some 2), (153, some 7)], [(154, some 8)], [(145, some 9)], [(145, some 9)], [(155, some 10)], [(156, some 11)]]) (by kernel_rfl) (by kernel_rfl) (by kernel_rfl) ?hS ?_
                      rotate_left
                      iterate 2 first
                        | (refine chain_skip (by rfl) (by rfl) ?_)
                        | (apply chain_want (by rfl)
                           · intro act wx hS hr
                             simp at hr
                             have d0 := hS.v.s.box.cell 0
                             simp at d0
                             obtain ⟨b0, b1, b2, b3, b4⟩ := vl_cells hS.v.s.bv
                             obtain ⟨p0, p1, p2, p3, p4⟩ := (HEL.out.later hS.bel).five
                             have hkv := (HEL.out.later hS.bel).isV
                             go_simp
                             (try go_ints)
                             first
                               | (obtain ⟨x, hr1, sv, rfl, hx⟩ := hr; simp only [hr1, Option.getD_some]; go_simp; exact Done.same)
                               | exact Done.same
                          )
                      (refine chain_rel (IsD (subL l q)) (IsD.later _) (by rfl) ?_ ?_
                       · intro act wx hS hr
                         simp at hr
                         have d0 := hS.v.s.box.cell 0
                         simp at d0
                         obtain ⟨b0, b1, b2, b3, b4⟩ := vl_cells hS.v.s.bv
                         obtain ⟨p0, p1, p2, p3, p4⟩ := (HEL.out.later hS.bel).five
                         have hkv := (HEL.out.later hS.bel).isV
                         all_goals go_simp
                         ((with_reducible refine (HSU.out _ hS.v.s).mono ?_); intro e w' hp; obtain ⟨sv, rfl, ho, hb⟩ := hp; exact Done.rel hb ho.isD)
                      )
                      iterate 5 first
                        | (refine chain_skip (by rfl) (by rfl) ?_)
                        | (apply chain_want (by rfl)
                           · intro act wx hS hr
                             simp at hr
                             have d0 := hS.v.s.box.cell 0
                             simp at d0
                             obtain ⟨b0, b1, b2, b3, b4⟩ := vl_cells hS.v.s.bv
                             obtain ⟨p0, p1, p2, p3, p4⟩ := (HEL.out.later hS.bel).five
                             have hkv := (HEL.out.later hS.bel).isV
                             go_simp
                             (try go_ints)
                             first
                               | (obtain ⟨x, hr1, sv, rfl, hx⟩ := hr; simp only [hr1, Option.getD_some]; go_simp; exact Done.same)
                               | exact Done.same
                          )
                      (refine chain_rel (TupV (some wk)) (TupV.later _) (by rfl) ?_ ?_
                       · intro act wx hS hr
                         simp at hr
                         have d0 := hS.v.s.box.cell 0
                         simp at d0
                         obtain ⟨b0, b1, b2, b3, b4⟩ := vl_cells hS.v.s.bv
                         obtain ⟨p0, p1, p2, p3, p4⟩ := (HEL.out.later hS.bel).five
                         have hkv := (HEL.out.later hS.bel).isV
                         obtain ⟨⟨x, hr1, hx⟩, hr2⟩ := hr
                         all_goals go_simp
                         (refine (HWR.isD hx (HSP.out.sub HQL.out) (sub_tx HTL.out q) HCK.out hkv HWSB.out).mono ?_; rintro e w' ⟨x, rfl, hx, hb⟩; exact Done.rel hb hx)
                      )
                      (refine chain_rel (TupV (some wk)) (TupV.later _) (by rfl) ?_ ?_
                       · intro act wx hS hr
                         simp at hr
                         have d0 := hS.v.s.box.cell 0
                         simp at d0
                         obtain ⟨b0, b1, b2, b3, b4⟩ := vl_cells hS.v.s.bv
                         obtain ⟨p0, p1, p2, p3, p4⟩ := (HEL.out.later hS.bel).five
                         have hkv := (HEL.out.later hS.bel).isV
                         obtain ⟨x, hr1, hx⟩ := hr
                         all_goals go_simp
                         exact Done.rel (Below.refl _ _) hx
                      )
                      (refine chain_rel (IsWp wk) (IsWp.later _) (by rfl) ?_ ?_
                       · intro act wx hS hr
                         simp at hr
                         have d0 := hS.v.s.box.cell 0
                         simp at d0
                         obtain ⟨b0, b1, b2, b3, b4⟩ := vl_cells hS.v.s.bv
                         obtain ⟨p0, p1, p2, p3, p4⟩ := (HEL.out.later hS.bel).five
                         have hkv := (HEL.out.later hS.bel).isV
                         obtain ⟨x, hr1, sv, rfl, hx⟩ := hr
                         all_goals go_simp
                         exact Done.rel (Below.refl _ _) hx
                      )
                      iterate 1 first
                        | (refine chain_skip (by rfl) (by rfl) ?_)
                        | (apply chain_want (by rfl)
                           · intro act wx hS hr
                             simp at hr
                             have d0 := hS.v.s.box.cell 0
                             simp at d0
                             obtain ⟨b0, b1, b2, b3, b4⟩ := vl_cells hS.v.s.bv
                             obtain ⟨p0, p1, p2, p3, p4⟩ := (HEL.out.later hS.bel).five
                             have hkv := (HEL.out.later hS.bel).isV
                             go_simp
                             (try go_ints)
                             first
                               | (obtain ⟨x, hr1, sv, rfl, hx⟩ := hr; simp only [hr1, Option.getD_some]; go_simp; exact Done.same)
                               | exact Done.same
                          )
                      (refine chain_rel (IsWp wk) (IsWp.later _) (by rfl) ?_ ?_
                       · intro act wx hS hr
                         simp at hr
                         have d0 := hS.v.s.box.cell 0
                         simp at d0
                         obtain ⟨b0, b1, b2, b3, b4⟩ := vl_cells hS.v.s.bv
                         obtain ⟨p0, p1, p2, p3, p4⟩ := (HEL.out.later hS.bel).five
                         have hkv := (HEL.out.later hS.bel).isV
                         obtain ⟨x, hr1, hx⟩ := hr
                         all_goals go_simp
                         exact Done.rel (Below.refl _ _) hx
                      )
                      iterate 1 first
                        | (refine chain_skip (by rfl) (by rfl) ?_)
                        | (apply chain_want (by rfl)
                           · intro act wx hS hr
                             simp at hr
                             have d0 := hS.v.s.box.cell 0
                             simp at d0
                             obtain ⟨b0, b1, b2, b3, b4⟩ := vl_cells hS.v.s.bv
                             obtain ⟨p0, p1, p2, p3, p4⟩ := (HEL.out.later hS.bel).five
                             have hkv := (HEL.out.later hS.bel).isV
                             go_simp
                             (try go_ints)
                             first
                               | (obtain ⟨x, hr1, sv, rfl, hx⟩ := hr; simp only [hr1, Option.getD_some]; go_simp; exact Done.same)
                               | exact Done.same
                          )
                      show ∀ w', _ → _
                      intro w24 hz24
                      simp [Act.put]
                      case hS => exact HK0.out
                      intro p1 _ p2 _ p3 _ p4 _ p5 hp5
                      have hp5 : IsW wk p5 w24 := hp5
                      have HP5 := Lib.hid hp5
                      have HO24 := Lib.hid (HO.out.later hz24.bel)
                      have HBL24 := Lib.hid (HBL.out.trans (hz24.bel.mono HLO.out))
                      have HL24 : Hid (H ≤ w24.heap.size) := Nat.le_trans HLO.out hz24.bel.size
                      clear hz24 hp5 HK0 HV HO HEL HSU HBL
                      go_wp2_with (at_builtin; refine wpList_append_w rfl _ _ rfl H u13 fl rfl HO24.out wk p5 rfl HP5.out (by have := HFB.out; omega) HL24.out ?_; intro v6 w6 h1 h2; have HO6 := Lib.hid h1; have HB6 := Lib.hid ((Below.refl H _).grown h2 HL24.out (fun k hk => (World.ownsRow.lt HO24.out k hk).1)); clear h1 h2)
                      have HBL6 := Lib.hid (HBL24.out.trans HB6.out)
                      go_wp2
                      go_roundw
                      case rel => exact ⟨k + 1, by omega, by go_num, by rw [HTK.out]; exact HO6.out, HBL6.out⟩
                      case measure => simp [intOf]; omega
                  · skip
                    obtain rfl : k = ks.len := by omega
                    have hlast : ¬ ((ks.len : Nat) : Int) < (ks.len : Int) := by omega
                    have htk : ws.take ks.len = ws := List.take_of_length_le (by have := HWL.out; omega)
                    have hfb := HFL.out ks.len
                    rw [htk] at HO hfb
                    have HWL2 : Hid (W.length ≤ 10000000) := by
                      have h3 := wrV_len HTL.out _ _ _ HR.out
                      have h4 := HCN.out
                      have : (2000 + 2) * cntV ⟨vk, vb, vt, vp, ks⟩ ≤ (2000 + 2) * 400 := Nat.mul_le_mul_left _ h4
                      unfold Hid; omega
                    have hcp := HCAP.out
                    generalize ws.flatten = fl at *
                    obtain ⟨gA, gc, hgv, -⟩ := own8_form HO.out
                    have HXX := Lib.hid HV.out.x
                    have HBX := Lib.hid HV.out.s.bel
                    have HFW : Hid (IsW fl u13 wr) := own_isW HO.out (by omega)
                    unfold capW at hcp
                    simp only at hcp
                    rw [if_neg (by omega), if_neg (by omega)] at hcp
                    have HFBL := Lib.hid hfb
                    clear htk HO HCAP HFL HWL HKQ HWK
                    by_cases k8 : vk = 8
                    · rw [if_pos k8] at hcp
                      by_cases h255 : fl.length ≤ 255
                      · rw [if_pos h255] at hcp
                        have hW : byU fl.length :: fl = W := Option.some.inj hcp
                        have HW := Lib.hid hW
                        have z8 : (vk == 8) = true := by simp [k8]
                        have z9 : (vk == 9) = false := by rw [beq_eq_false_iff_ne]; omega
                        have hflz : (fl.length : Int) ≤ 255 := by omega
                        have HNB : Hid (Own8 (wr.alloc (.cells #[.int .u8 (fl.length : Int)] 5)) wr.heap.size (.slice (some ⟨wr.heap.size, 0, none⟩) 1 1) (nats [byU fl.length])) := own_new (w := wr) (W := [byU fl.length]) (cs := #[.int .u8 (fl.length : Int)]) (by
                          have hb : (byU fl.length).toNat = fl.length := by unfold byU; simp; omega
                          unfold bytesV nats; simp [hb]) (by simp)
                        have HAL : Hid (Below wr.heap.size wr (wr.alloc (.cells #[.int .u8 (fl.length : Int)] 5))) := (Below.refl _ _).alloc (Nat.le_refl _) _
                        clear hcp hW h255 k8
                        subst hgv
                        go_wp2_with (at_builtin; refine wpList_append_w rfl _ _ rfl wr.heap.size (.slice (some ⟨wr.heap.size, 0, none⟩) 1 1) [byU fl.length] rfl HNB.out fl (.slice gA fl.length gc) rfl (HFW.out.later HAL.out) (by simp only [List.length_cons, List.length_nil]; omega) HAL.out.size ?_; intro v6 w6 h1 h2; have HO6 := Lib.hid h1; have HB6 := Lib.hid (HAL.out.grown h2 HAL.out.size (fun k hk => (World.ownsRow.lt HNB.out k hk).1)); have HN6 := Lib.hid (HV.out.nd.later HB6.out); clear h1 h2 f0 f1 f2 f3 f4 f5 f6 f7 f8 f9; obtain ⟨f0, f1, f2, f3, f4, f5, f6, f7, f8, f9⟩ := ten_cells HN6.out)
                        have HWX : Hid (IsW W v6 w6) := by
                          have := own_isW HO6.out (by simp only [List.length_append, List.length_cons, List.length_nil]; omega)
                          rw [← HW.out]; exact this
                        have HXX := Lib.hid (HXX.out.later HB6.out)
                        have HBX := Lib.hid (HBX.out.trans (HB6.out.mono HBX.out.size))
                        obtain ⟨vA, vc, hv6, -⟩ := HWX.out.len
                        subst hv6
                        have CB : Hid (Calls Try.prog 13 #[(.slice vA W.length vc), .slice A5 W.length c5] w6 (Ans w6 (.bool true))) := by
                          have := bytes_rowV (nats W) (nats W) (.slice vA W.length vc) (.slice A5 W.length c5) w6 HWX.out.bytes HXX.out.bytes (by rw [nats_length]; have := HWL2.out; omega) (by rw [nats_length]; have := HWL2.out; omega)
                          rwa [show (nats W == nats W) = true by simp] at this
                        go_wp2_with fail
                        refine CB.out.mono ?_; rintro e wy ⟨rfl, hb⟩
                        have HBY := Lib.hid (HBX.out.trans (hb.mono HBX.out.size))
                        clear hb CB
                        go_wp2
                        go_ret
                        exact ⟨rfl, HBY.out⟩
                      · rw [if_neg h255] at hcp; cases hcp
                    · rw [if_neg k8] at hcp
                      have z8 : (vk == 8) = false := by rw [beq_eq_false_iff_ne]; exact k8
                      by_cases k9 : vk = 9
                      · rw [if_pos k9] at hcp
                        by_cases h65 : fl.length ≤ 65535
                        · rw [if_pos h65] at hcp
                          have hW : byU (fl.length / 256) :: byU (fl.length % 256) :: fl = W := Option.some.inj hcp
                          have HW := Lib.hid hW
                          have z9 : (vk == 9) = true := by simp [k9]
                          have hq1 : 0 ≤ (fl.length : Int) / 256 := by omega
                          have hq2 : (fl.length : Int) / 256 ≤ 255 := by omega
                          have hq3 : 0 ≤ (fl.length : Int) % 256 := by omega
                          have hq4 : (fl.length : Int) % 256 ≤ 255 := by omega
                          have hq5 : Int.tdiv (fl.length : Int) 256 = (fl.length : Int) / 256 := Int.tdiv_eq_ediv_of_nonneg (by omega)
                          have hq6 : Int.tmod (fl.length : Int) 256 = (fl.length : Int) % 256 := Int.tmod_eq_emod_of_nonneg (by omega)
                          have HNB : Hid (Own8 (wr.alloc (.cells #[.int .u8 ((fl.length : Int) / 256), .int .u8 ((fl.length : Int) % 256)] 5)) wr.heap.size (.slice (some ⟨wr.heap.size, 0, none⟩) 2 2) (nats [byU (fl.length / 256), byU (fl.length % 256)])) := own_new (w := wr) (W := [byU (fl.length / 256), byU (fl.length % 256)]) (cs := #[.int .u8 ((fl.length : Int) / 256), .int .u8 ((fl.length : Int) % 256)]) (by
                            have hb1 : (((byU (fl.length / 256)).toNat : Nat) : Int) = (fl.length : Int) / 256 := by unfold byU; simp; omega
                            have hb2 : (((byU (fl.length % 256)).toNat : Nat) : Int) = (fl.length : Int) % 256 := by unfold byU; simp
                            unfold bytesV nats; simp [hb1, hb2]) (by simp)
                          have HAL : Hid (Below wr.heap.size wr (wr.alloc (.cells #[.int .u8 ((fl.length : Int) / 256), .int .u8 ((fl.length : Int) % 256)] 5))) := (Below.refl _ _).alloc (Nat.le_refl _) _
                          clear hcp hW h65 k9 k8
                          subst hgv
                          go_wp2_with (at_builtin; refine wpList_append_w rfl _ _ rfl wr.heap.size (.slice (some ⟨wr.heap.size, 0, none⟩) 2 2) [byU (fl.length / 256), byU (fl.length % 256)] rfl HNB.out fl (.slice gA fl.length gc) rfl (HFW.out.later HAL.out) (by simp only [List.length_cons, List.length_nil]; omega) HAL.out.size ?_; intro v6 w6 h1 h2; have HO6 := Lib.hid h1; have HB6 := Lib.hid (HAL.out.grown h2 HAL.out.size (fun k hk => (World.ownsRow.lt HNB.out k hk).1)); clear h1 h2)
                          have HWX : Hid (IsW W v6 w6) := by
                            have := own_isW HO6.out (by simp only [List.length_append, List.length_cons, List.length_nil]; omega)
                            rw [← HW.out]; exact this
                          have HXX := Lib.hid (HXX.out.later HB6.out)
                          have HBX := Lib.hid (HBX.out.trans (HB6.out.mono HBX.out.size))
                          obtain ⟨vA, vc, hv6, -⟩ := HWX.out.len
                          subst hv6
                          have CB : Hid (Calls Try.prog 13 #[(.slice vA W.length vc), .slice A5 W.length c5] w6 (Ans w6 (.bool true))) := by
                            have := bytes_rowV (nats W) (nats W) (.slice vA W.length vc) (.slice A5 W.length c5) w6 HWX.out.bytes HXX.out.bytes (by rw [nats_length]; have := HWL2.out; omega) (by rw [nats_length]; have := HWL2.out; omega)
                            rwa [show (nats W == nats W) = true by simp] at this
                          go_wp2_with fail
                          refine CB.out.mono ?_; rintro e wy ⟨rfl, hb⟩
                          have HBY := Lib.hid (HBX.out.trans (hb.mono HBX.out.size))
                          clear hb CB
                          go_wp2
                          go_ret
                          exact ⟨rfl, HBY.out⟩
                        · rw [if_neg h65] at hcp; cases hcp
                      · rw [if_neg k9] at hcp
                        have hW : fl = W := Option.some.inj hcp
                        have z9 : (vk == 9) = false := by rw [beq_eq_false_iff_ne]; exact k9
                        have HWX : Hid (IsW W u13 wr) := by unfold Hid; rw [← hW]; exact HFW.out
                        obtain ⟨vA, vc, hv6, -⟩ := HWX.out.len
                        clear hcp k8 k9 hgv hW HFW HFBL
                        subst hv6
                        have CB : Hid (Calls Try.prog 13 #[(.slice vA W.length vc), .slice A5 W.length c5] wr (Ans wr (.bool true))) := by
                          have := bytes_rowV (nats W) (nats W) (.slice vA W.length vc) (.slice A5 W.length c5) wr HWX.out.bytes HXX.out.bytes (by rw [nats_length]; have := HWL2.out; omega) (by rw [nats_length]; have := HWL2.out; omega)
                          rwa [show (nats W == nats W) = true by simp] at this
                        go_wp2_with fail
                        refine CB.out.mono ?_; rintro e wy ⟨rfl, hb⟩
                        have HBY := Lib.hid (HBX.out.trans (hb.mono HBX.out.size))
                        clear hb CB
                        go_wp2
                        go_ret
                        exact ⟨rfl, HBY.out⟩
            · have z5 : (vk != 5) = true := by simp [k5]
              have hrk := HPK.out k5
              subst hrk
              go_wp2_with fail
              refine (CT.out _ HS11.out).mono ?_; rintro e w12 ⟨rfl, hb⟩
              have HS12 := Lib.hid (HS11.out.later hb)
              have HX12 := Lib.hid (HX11.out.later hb)
              clear hb CT HS11 HX11 HXs d0 b0 b1 b2 b3 b4 x0 x1 x2 x3 x4
              have d0 := HS12.out.box.cell 0
              simp at d0
              obtain ⟨b0, b1, b2, b3, b4⟩ := vl_cells HS12.out.bv
              go_upto_region 14 with (fail)
              obtain ⟨g0, g1, g2, g3, g4, g5, g6, g7, g8, g9⟩ := HTN.out _ HS12.out
              simp only at g0 g1 g2 g3 g4 g5 g6 g7 g8 g9
              go_upto_region 15 with (fail)
              have hb14 := (Below.refl w12.heap.size w12).alloc (Nat.le_refl _) (.cells #[.int .i64 vk, .int .i64 na, .int .i64 nb, .int .i64 nlo, .int .i64 nhi, .int .u64 (wd ncls 0), .int .u64 (wd ncls 1), .int .u64 (wd ncls 2), .int .u64 (wd ncls 3), .string (bs ntext)] 44)
              have HV14 : Hid (VnS w (some ⟨ba, oa, none⟩) l c ⟨vk, vb, vt, vp, ks⟩ B cv W (.slice A5 W.length c5) w12.heap.size ⟨vk, na, nb, nlo, nhi, ncls, ntext⟩ (w12.alloc (.cells #[.int .i64 vk, .int .i64 na, .int .i64 nb, .int .i64 nlo, .int .i64 nhi, .int .u64 (wd ncls 0), .int .u64 (wd ncls 1), .int .u64 (wd ncls 2), .int .u64 (wd ncls 3), .string (bs ntext)] 44))) := ⟨HS12.out.later hb14, HX12.out.later hb14, Blk.new _ _ _⟩
              clear hb14 HS12 HX12 g0 g1 g2 g3 g4 g5 g6 g7 g8 g9 d0 b0 b1 b2 b3 b4
              generalize w12.alloc (.cells #[.int .i64 vk, .int .i64 na, .int .i64 nb, .int .i64 nlo, .int .i64 nhi, .int .u64 (wd ncls 0), .int .u64 (wd ncls 1), .int .u64 (wd ncls 2), .int .u64 (wd ncls 3), .string (bs ntext)] 44) = w14 at *
              generalize w12.heap.size = bn at *
              have HZ14 := Lib.hid HV14.out.s
              have d0 := HZ14.out.box.cell 0
              simp at d0
              obtain ⟨b0, b1, b2, b3, b4⟩ := vl_cells HZ14.out.bv
              obtain ⟨f0, f1, f2, f3, f4, f5, f6, f7, f8, f9⟩ := ten_cells HV14.out.nd
              by_cases k4 : vk < 4
              · have z4 : decide (vk < 4) = true := decide_eq_true k4
                have hk0 : ks.len = 0 := hleaf (by omega)
                have hkz : (((ks.len : Nat) : Int) == 0) = true := by rw [hk0]; rfl
                have HB14 := Lib.hid HV14.out.s.bel
                clear hk0 hleaf
                go_wp2
                go_ret
                exact ⟨rfl, HB14.out⟩
              · have z4 : decide (vk < 4) = false := decide_eq_false k4
                have HFL : Hid (∀ k, (ws.take k).flatten.length ≤ 1000000) := fun k => by
                  have h1 : (ws.take k).flatten.length ≤ ws.flatten.length := by
                    conv => rhs; rw [← List.take_append_drop k ws, List.flatten_append, List.length_append]
                    omega
                  have h2 : ws.flatten.length ≤ W.length := by
                    have := HCAP.out
                    unfold capW at this
                    simp only at this
                    rw [if_neg (by omega), if_neg (by omega)] at this
                    split at this
                    · split at this
                      · injection this with this; rw [← this]; simp
                      · cases this
                    · split at this
                      · split at this
                        · injection this with this; rw [← this]; simp; omega
                        · cases this
                      · injection this with this; rw [this]; exact Nat.le_refl _
                  have h3 := wrV_len HTL.out _ _ _ HR.out
                  have h4 := HCN.out
                  have : (2000 + 2) * cntV ⟨vk, vb, vt, vp, ks⟩ ≤ (2000 + 2) * 400 := Nat.mul_le_mul_left _ h4
                  omega
                have HKQ : Hid (∀ k, k < ks.len → ∃ q : Nat, kidN ⟨vk, na, nb, nlo, nhi, ncls, ntext⟩ vp k = (q : Int) ∧ q < l.length) := fun k hk => by
                  have ho9 := HFM.out.2.1 (l.length - 1) (by omega)
                  rw [← HN.out] at ho9
                  have hn := HN.out.symm
                  cases ho9.cs hn with
                  | leaf hk9 hf => unfold leafK at hk9; simp only at hk9; omega
                  | one hk9 hi0 ha hb h7 hr hcl hf =>
                    simp only at hk9 ha
                    exact ⟨na.toNat, by unfold kidN; rw [if_neg (by simp only; omega)]; simp only; omega, by omega⟩
                  | two hk9 hi0 hb ha hf0 hl hcl hf =>
                    simp only at hk9 ha hb
                    have hle := firstP_le l (l.length - 1 - 1)
                    unfold kidN
                    split
                    · exact ⟨nb.toNat, by simp only; omega, by omega⟩
                    · exact ⟨na.toNat, by simp only; omega, by omega⟩
                have HI0 : Hid (ViL w14 w14.heap.size ks.len ws (.slice none 0 0) (.int .i64 ((0 : Nat) : Int)) w14) := ⟨0, Nat.zero_le _, rfl, Own8.nil _ _, Below.refl _ _⟩
                obtain ⟨H, hH⟩ : ∃ H, H = w14.heap.size := ⟨_, rfl⟩
                rw [← hH] at HI0
                have HH := Lib.hid hH
                clear hH HZ14
                go_upto_region 17 with (fail)
                clear d0 b0 b1 b2 b3 b4 f0 f1 f2 f3 f4 f5 f6 f7 f8 f9
                go_wp2
                go_loopw [13, 14] (ViL w14 H ks.len ws) (fun _ x _ => ks.len - (intOf x).toNat)
                case atStart => exact HI0.out
                case round =>
                  obtain ⟨k, hk, rfl, hown, hbel⟩ := hrel
                  have HO := Lib.hid hown
                  have HBL := Lib.hid hbel
                  have HLO : Hid (H ≤ wr.heap.size) := by unfold Hid; rw [HH.out]; exact hbel.size
                  have hbw : Below w14.heap.size w14 wr := by rw [← HH.out]; exact hbel
                  have HV := Lib.hid (HV14.out.later hbw)
                  clear hown hbel hbw HI0
                  try simp only at hk
                  have HZV := Lib.hid HV.out.s
                  have d0 := HZV.out.box.cell 0
                  simp at d0
                  obtain ⟨b0, b1, b2, b3, b4⟩ := vl_cells HZV.out.bv
                  obtain ⟨f0, f1, f2, f3, f4, f5, f6, f7, f8, f9⟩ := ten_cells HV.out.nd
                  by_cases hlt : k < ks.len
                  · by_cases kq : vk = 4 ∧ k = 1
                    · have y4 : (vk == 4) = true := by simp [kq.1]
                      have y1 : ((k : Int) == 1) = true := by simp [kq.2]
                      have hif : (vk = 4 ∧ k = 1 ∨ vk = 5 ∧ vp = 1) := .inl kq
                      clear kq
                      obtain ⟨q, hq, hql⟩ := HKQ.out k hlt
                      have hkk : kidN ⟨vk, na, nb, nlo, nhi, ncls, ntext⟩ vp k = nb := by unfold kidN; rw [if_pos hif]
                      clear hif
                      have hwk := HWK.out k hlt
                      rw [hkk] at hq hwk
                      have HQE := Lib.hid hq
                      rw [hq] at hwk
                      have hqt : ((q : Int)).toNat = q := rfl
                      rw [hqt] at hwk
                      have hws := wr_sub hql (HFM.out.okTo hql) (ks.at k)
                      rw [hwk] at hws
                      have HSU : Hid (∀ w', WvS w (some ⟨ba, oa, none⟩) l c ⟨vk, vb, vt, vp, ks⟩ B cv w' → Calls Try.prog 19 #[.agg #[.slice (some ⟨ba, oa, none⟩) l.length c], .int .i64 nb] w' (DPost w' (subL l q))) := fun w' h => by
                        rw [HQE.out]
                        exact IsD.rsub ⟨_, c, hc1, rfl, h.row⟩ HSP.out.sm hql
                      have HWSB := Lib.hid hws
                      have HCK : Hid (cntV (ks.at k) ≤ 100000) := by have h1 := cntVs_at ks k hlt; have h2 := HCN.out; unfold Hid cntV at *; simp only at *; omega
                      have HQL := Lib.hid hql
                      obtain ⟨gk, ok, Yk, ck, hBk, hel⟩ := VRow.el HV.out.s.kids hlt
                      have hBk : B = some ⟨gk, ok, none⟩ := hBk
                      have hel : ElS gk (ok + k * 5) (ks.at k) Yk ck wr := hel
                      have HEL := Lib.hid hel
                      have htk : (ws.take (k + 1)).flatten = (ws.take k).flatten ++ ws.getD k [] := by
                        rw [List.take_add_one, List.flatten_append, List.getD_eq_getElem?_getD, List.getElem?_eq_getElem (by have := HWL.out; omega)]
                        simp
                      have HTK := Lib.hid htk
                      have HFB := Lib.hid (HFL.out (k + 1))
                      rw [HTK.out, List.length_append] at HFB
                      generalize ws.getD k [] = wk at *
                      generalize (ws.take k).flatten = fl at *
                      clear hq hkk hwk hqt hws hel htk hql
                      generalize ks.at k = kv at *
                      obtain ⟨kk, kb, kt, kp, kks⟩ := kv
                      subst hBk
                      have hltz : (k : Int) < (ks.len : Int) := by omega
                      have hkb : (k : Int) ≤ 400 := by have h1 := cntVs_len ks; have h2 := HCN.out; unfold cntV at h2; simp only at h2; omega
                      go_upto_region 24 with (fail)
                      have HK0 : Hid (VkS w (some ⟨ba, oa, none⟩) l c ⟨vk, vb, vt, vp, ks⟩ (some ⟨gk, ok, none⟩) cv W (.slice A5 W.length c5) bn ⟨vk, na, nb, nlo, nhi, ncls, ntext⟩ wr wr) := ⟨Below.refl _ _, HV.out⟩
                      refine wp_region_stable (S := (VkS w (some ⟨ba, oa, none⟩) l c ⟨vk, vb, vt, vp, ks⟩ (some ⟨gk, ok, none⟩) cv W (.slice A5 W.length c5) bn ⟨vk, na, nb, nlo, nhi, ncls, ntext⟩ wr)) (hSt := fun _ _ h hb => h.later hb) (plan := [[(2, none)], [(15, none)], [(146, some 0), (147, some 1)], [(3, none)], [(149, some 3)], [(14, none)], [(150, some 4), (151, some 5)], [(152, some 6)], [(148, some 2), (153, some 7)], [(154, some 8)], [(145, some 9)], [(145, some 9)], [(155, some 10)], [(156, some 11)]]) (by kernel_rfl) (by kernel_rfl) (by kernel_rfl) ?hS ?_
                      rotate_left
                      iterate 2 first
                        | (refine chain_skip (by rfl) (by rfl) ?_)
                        | (apply chain_want (by rfl)
                           · intro act wx hS hr
                             simp at hr
                             have d0 := hS.v.s.box.cell 0
                             simp at d0
                             obtain ⟨b0, b1, b2, b3, b4⟩ := vl_cells hS.v.s.bv
                             obtain ⟨p0, p1, p2, p3, p4⟩ := (HEL.out.later hS.bel).five
                             have hkv := (HEL.out.later hS.bel).isV
                             go_simp
                             (try go_ints)
                             first
                               | (obtain ⟨x, hr1, sv, rfl, hx⟩ := hr; simp only [hr1, Option.getD_some]; go_simp; exact Done.same)
                               | exact Done.same
                          )
                      (refine chain_rel (IsD (subL l q)) (IsD.later _) (by rfl) ?_ ?_
                       · intro act wx hS hr
                         simp at hr
                         have d0 := hS.v.s.box.cell 0
                         simp at d0
                         obtain ⟨b0, b1, b2, b3, b4⟩ := vl_cells hS.v.s.bv
                         obtain ⟨p0, p1, p2, p3, p4⟩ := (HEL.out.later hS.bel).five
                         have hkv := (HEL.out.later hS.bel).isV
                         all_goals go_simp
                         ((with_reducible refine (HSU.out _ hS.v.s).mono ?_); intro e w' hp; obtain ⟨sv, rfl, ho, hb⟩ := hp; exact Done.rel hb ho.isD)
                      )
                      iterate 5 first
                        | (refine chain_skip (by rfl) (by rfl) ?_)
                        | (apply chain_want (by rfl)
                           · intro act wx hS hr
                             simp at hr
                             have d0 := hS.v.s.box.cell 0
                             simp at d0
                             obtain ⟨b0, b1, b2, b3, b4⟩ := vl_cells hS.v.s.bv
                             obtain ⟨p0, p1, p2, p3, p4⟩ := (HEL.out.later hS.bel).five
                             have hkv := (HEL.out.later hS.bel).isV
                             go_simp
                             (try go_ints)
                             first
                               | (obtain ⟨x, hr1, sv, rfl, hx⟩ := hr; simp only [hr1, Option.getD_some]; go_simp; exact Done.same)
                               | exact Done.same
                          )
                      (refine chain_rel (TupV (some wk)) (TupV.later _) (by rfl) ?_ ?_
                       · intro act wx hS hr
                         simp at hr
                         have d0 := hS.v.s.box.cell 0
                         simp at d0
                         obtain ⟨b0, b1, b2, b3, b4⟩ := vl_cells hS.v.s.bv
                         obtain ⟨p0, p1, p2, p3, p4⟩ := (HEL.out.later hS.bel).five
                         have hkv := (HEL.out.later hS.bel).isV
                         obtain ⟨⟨x, hr1, hx⟩, hr2⟩ := hr
                         all_goals go_simp
                         (refine (HWR.isD hx (HSP.out.sub HQL.out) (sub_tx HTL.out q) HCK.out hkv HWSB.out).mono ?_; rintro e w' ⟨x, rfl, hx, hb⟩; exact Done.rel hb hx)
                      )
                      (refine chain_rel (TupV (some wk)) (TupV.later _) (by rfl) ?_ ?_
                       · intro act wx hS hr
                         simp at hr
                         have d0 := hS.v.s.box.cell 0
                         simp at d0
                         obtain ⟨b0, b1, b2, b3, b4⟩ := vl_cells hS.v.s.bv
                         obtain ⟨p0, p1, p2, p3, p4⟩ := (HEL.out.later hS.bel).five
                         have hkv := (HEL.out.later hS.bel).isV
                         obtain ⟨x, hr1, hx⟩ := hr
                         all_goals go_simp
                         exact Done.rel (Below.refl _ _) hx
                      )
                      (refine chain_rel (IsWp wk) (IsWp.later _) (by rfl) ?_ ?_
                       · intro act wx hS hr
                         simp at hr
                         have d0 := hS.v.s.box.cell 0
                         simp at d0
                         obtain ⟨b0, b1, b2, b3, b4⟩ := vl_cells hS.v.s.bv
                         obtain ⟨p0, p1, p2, p3, p4⟩ := (HEL.out.later hS.bel).five
                         have hkv := (HEL.out.later hS.bel).isV
                         obtain ⟨x, hr1, sv, rfl, hx⟩ := hr
                         all_goals go_simp
                         exact Done.rel (Below.refl _ _) hx
                      )
                      iterate 1 first
                        | (refine chain_skip (by rfl) (by rfl) ?_)
                        | (apply chain_want (by rfl)
                           · intro act wx hS hr
                             simp at hr
                             have d0 := hS.v.s.box.cell 0
                             simp at d0
                             obtain ⟨b0, b1, b2, b3, b4⟩ := vl_cells hS.v.s.bv
                             obtain ⟨p0, p1, p2, p3, p4⟩ := (HEL.out.later hS.bel).five
                             have hkv := (HEL.out.later hS.bel).isV
                             go_simp
                             (try go_ints)
                             first
                               | (obtain ⟨x, hr1, sv, rfl, hx⟩ := hr; simp only [hr1, Option.getD_some]; go_simp; exact Done.same)
                               | exact Done.same
                          )
                      (refine chain_rel (IsWp wk) (IsWp.later _) (by rfl) ?_ ?_
                       · intro act wx hS hr
                         simp at hr
                         have d0 := hS.v.s.box.cell 0
                         simp at d0
                         obtain ⟨b0, b1, b2, b3, b4⟩ := vl_cells hS.v.s.bv
                         obtain ⟨p0, p1, p2, p3, p4⟩ := (HEL.out.later hS.bel).five
                         have hkv := (HEL.out.later hS.bel).isV
                         obtain ⟨x, hr1, hx⟩ := hr
                         all_goals go_simp
                         exact Done.rel (Below.refl _ _) hx
                      )
                      iterate 1 first
                        | (refine chain_skip (by rfl) (by rfl) ?_)
                        | (apply chain_want (by rfl)
                           · intro act wx hS hr
                             simp at hr
                             have d0 := hS.v.s.box.cell 0
                             simp at d0
                             obtain ⟨b0, b1, b2, b3, b4⟩ := vl_cells hS.v.s.bv
                             obtain ⟨p0, p1, p2, p3, p4⟩ := (HEL.out.later hS.bel).five
                             have hkv := (HEL.out.later hS.bel).isV
                             go_simp
                             (try go_ints)
                             first
                               | (obtain ⟨x, hr1, sv, rfl, hx⟩ := hr; simp only [hr1, Option.getD_some]; go_simp; exact Done.same)
                               | exact Done.same
                          )
                      show ∀ w', _ → _
                      intro w24 hz24
                      simp [Act.put]
                      case hS => exact HK0.out
                      intro p1 _ p2 _ p3 _ p4 _ p5 hp5
                      have hp5 : IsW wk p5 w24 := hp5
                      have HP5 := Lib.hid hp5
                      have HO24 := Lib.hid (HO.out.later hz24.bel)
                      have HBL24 := Lib.hid (HBL.out.trans (hz24.bel.mono HLO.out))
                      have HL24 : Hid (H ≤ w24.heap.size) := Nat.le_trans HLO.out hz24.bel.size
                      clear hz24 hp5 HK0 HV HO HEL HSU HBL
                      go_wp2_with (at_builtin; refine wpList_append_w rfl _ _ rfl H u13 fl rfl HO24.out wk p5 rfl HP5.out (by have := HFB.out; omega) HL24.out ?_; intro v6 w6 h1 h2; have HO6 := Lib.hid h1; have HB6 := Lib.hid ((Below.refl H _).grown h2 HL24.out (fun k hk => (World.ownsRow.lt HO24.out k hk).1)); clear h1 h2)
                      have HBL6 := Lib.hid (HBL24.out.trans HB6.out)
                      go_wp2
                      go_roundw
                      case rel => exact ⟨k + 1, by omega, by go_num, by rw [HTK.out]; exact HO6.out, HBL6.out⟩
                      case measure => simp [intOf]; omega
                    · have y5 : (vk == 5) = false := by rw [beq_eq_false_iff_ne]; exact k5
                      have hif : ¬ (vk = 4 ∧ k = 1 ∨ vk = 5 ∧ vp = 1) := by omega
                      by_cases kr : vk = 4
                      · have y4 : (vk == 4) = true := by simp [kr]
                        have y1 : ((k : Int) == 1) = false := by rw [beq_eq_false_iff_ne]; omega
                        clear kr kq
                        obtain ⟨q, hq, hql⟩ := HKQ.out k hlt
                        have hkk : kidN ⟨vk, na, nb, nlo, nhi, ncls, ntext⟩ vp k = na := by unfold kidN; rw [if_neg hif]
                        clear hif
                        have hwk := HWK.out k hlt
                        rw [hkk] at hq hwk
                        have HQE := Lib.hid hq
                        rw [hq] at hwk
                        have hqt : ((q : Int)).toNat = q := rfl
                        rw [hqt] at hwk
                        have hws := wr_sub hql (HFM.out.okTo hql) (ks.at k)
                        rw [hwk] at hws
                        have HSU : Hid (∀ w', WvS w (some ⟨ba, oa, none⟩) l c ⟨vk, vb, vt, vp, ks⟩ B cv w' → Calls Try.prog 19 #[.agg #[.slice (some ⟨ba, oa, none⟩) l.length c], .int .i64 na] w' (DPost w' (subL l q))) := fun w' h => by
                          rw [HQE.out]
                          exact IsD.rsub ⟨_, c, hc1, rfl, h.row⟩ HSP.out.sm hql
                        have HWSB := Lib.hid hws
                        have HCK : Hid (cntV (ks.at k) ≤ 100000) := by have h1 := cntVs_at ks k hlt; have h2 := HCN.out; unfold Hid cntV at *; simp only at *; omega
                        have HQL := Lib.hid hql
                        obtain ⟨gk, ok, Yk, ck, hBk, hel⟩ := VRow.el HV.out.s.kids hlt
                        have hBk : B = some ⟨gk, ok, none⟩ := hBk
                        have hel : ElS gk (ok + k * 5) (ks.at k) Yk ck wr := hel
                        have HEL := Lib.hid hel
                        have htk : (ws.take (k + 1)).flatten = (ws.take k).flatten ++ ws.getD k [] := by
                          rw [List.take_add_one, List.flatten_append, List.getD_eq_getElem?_getD, List.getElem?_eq_getElem (by have := HWL.out; omega)]
                          simp
                        have HTK := Lib.hid htk
                        have HFB := Lib.hid (HFL.out (k + 1))
                        rw [HTK.out, List.length_append] at HFB
                        generalize ws.getD k [] = wk at *
                        generalize (ws.take k).flatten = fl at *
                        clear hq hkk hwk hqt hws hel htk hql
                        generalize ks.at k = kv at *
                        obtain ⟨kk, kb, kt, kp, kks⟩ := kv
                        subst hBk
                        have hltz : (k : Int) < (ks.len : Int) := by omega
                        have hkb : (k : Int) ≤ 400 := by have h1 := cntVs_len ks; have h2 := HCN.out; unfold cntV at h2; simp only at h2; omega
                        go_upto_region 24 with (fail)
                        have HK0 : Hid (VkS w (some ⟨ba, oa, none⟩) l c ⟨vk, vb, vt, vp, ks⟩ (some ⟨gk, ok, none⟩) cv W (.slice A5 W.length c5) bn ⟨vk, na, nb, nlo, nhi, ncls, ntext⟩ wr wr) := ⟨Below.refl _ _, HV.out⟩
                        refine wp_region_stable (S := (VkS w (some ⟨ba, oa, none⟩) l c ⟨vk, vb, vt, vp, ks⟩ (some ⟨gk, ok, none⟩) cv W (.slice A5 W.length c5) bn ⟨vk, na, nb, nlo, nhi, ncls, ntext⟩ wr)) (hSt := fun _ _ h hb => h.later hb) (plan := [[(2, none)], [(15, none)], [(146, some 0), (147, some 1)], [(3, none)], [(149, some 3)], [(14, none)], [(150, some 4), (151, some 5)], [(152, some 6)], [(148, some 2), (153, some 7)], [(154, some 8)], [(145, some 9)], [(145, some 9)], [(155, some 10)], [(156, some 11)]]) (by kernel_rfl) (by kernel_rfl) (by kernel_rfl) ?hS ?_
                        rotate_left
                        iterate 2 first
                          | (refine chain_skip (by rfl) (by rfl) ?_)
                          | (apply chain_want (by rfl)
                             · intro act wx hS hr
                               simp at hr
                               have d0 := hS.v.s.box.cell 0
                               simp at d0
                               obtain ⟨b0, b1, b2, b3, b4⟩ := vl_cells hS.v.s.bv
                               obtain ⟨p0, p1, p2, p3, p4⟩ := (HEL.out.later hS.bel).five
                               have hkv := (HEL.out.later hS.bel).isV
                               go_simp
                               (try go_ints)
                               first
                                 | (obtain ⟨x, hr1, sv, rfl, hx⟩ := hr; simp only [hr1, Option.getD_some]; go_simp; exact Done.same)
                                 | exact Done.same
                            )
                        (refine chain_rel (IsD (subL l q)) (IsD.later _) (by rfl) ?_ ?_
                         · intro act wx hS hr
                           simp at hr
                           have d0 := hS.v.s.box.cell 0
                           simp at d0
                           obtain ⟨b0, b1, b2, b3, b4⟩ := vl_cells hS.v.s.bv
                           obtain ⟨p0, p1, p2, p3, p4⟩ := (HEL.out.later hS.bel).five
                           have hkv := (HEL.out.later hS.bel).isV
                           all_goals go_simp
                           ((with_reducible refine (HSU.out _ hS.v.s).mono ?_); intro e w' hp; obtain ⟨sv, rfl, ho, hb⟩ := hp; exact Done.rel hb ho.isD)
                        )
                        iterate 5 first
                          | (refine chain_skip (by rfl) (by rfl) ?_)
                          | (apply chain_want (by rfl)
                             · intro act wx hS hr
                               simp at hr
                               have d0 := hS.v.s.box.cell 0
                               simp at d0
                               obtain ⟨b0, b1, b2, b3, b4⟩ := vl_cells hS.v.s.bv
                               obtain ⟨p0, p1, p2, p3, p4⟩ := (HEL.out.later hS.bel).five
                               have hkv := (HEL.out.later hS.bel).isV
                               go_simp
                               (try go_ints)
                               first
                                 | (obtain ⟨x, hr1, sv, rfl, hx⟩ := hr; simp only [hr1, Option.getD_some]; go_simp; exact Done.same)
                                 | exact Done.same
                            )
                        (refine chain_rel (TupV (some wk)) (TupV.later _) (by rfl) ?_ ?_
                         · intro act wx hS hr
                           simp at hr
                           have d0 := hS.v.s.box.cell 0
                           simp at d0
                           obtain ⟨b0, b1, b2, b3, b4⟩ := vl_cells hS.v.s.bv
                           obtain ⟨p0, p1, p2, p3, p4⟩ := (HEL.out.later hS.bel).five
                           have hkv := (HEL.out.later hS.bel).isV
                           obtain ⟨⟨x, hr1, hx⟩, hr2⟩ := hr
                           all_goals go_simp
                           (refine (HWR.isD hx (HSP.out.sub HQL.out) (sub_tx HTL.out q) HCK.out hkv HWSB.out).mono ?_; rintro e w' ⟨x, rfl, hx, hb⟩; exact Done.rel hb hx)
                        )
                        (refine chain_rel (TupV (some wk)) (TupV.later _) (by rfl) ?_ ?_
                         · intro act wx hS hr
                           simp at hr
                           have d0 := hS.v.s.box.cell 0
                           simp at d0
                           obtain ⟨b0, b1, b2, b3, b4⟩ := vl_cells hS.v.s.bv
                           obtain ⟨p0, p1, p2, p3, p4⟩ := (HEL.out.later hS.bel).five
                           have hkv := (HEL.out.later hS.bel).isV
                           obtain ⟨x, hr1, hx⟩ := hr
                           all_goals go_simp
                           exact Done.rel (Below.refl _ _) hx
                        )
                        (refine chain_rel (IsWp wk) (IsWp.later _) (by rfl) ?_ ?_
                         · intro act wx hS hr
                           simp at hr
                           have d0 := hS.v.s.box.cell 0
                           simp at d0
                           obtain ⟨b0, b1, b2, b3, b4⟩ := vl_cells hS.v.s.bv
                           obtain ⟨p0, p1, p2, p3, p4⟩ := (HEL.out.later hS.bel).five
                           have hkv := (HEL.out.later hS.bel).isV
                           obtain ⟨x, hr1, sv, rfl, hx⟩ := hr
                           all_goals go_simp
                           exact Done.rel (Below.refl _ _) hx
                        )
                        iterate 1 first
                          | (refine chain_skip (by rfl) (by rfl) ?_)
                          | (apply chain_want (by rfl)
                             · intro act wx hS hr
                               simp at hr
                               have d0 := hS.v.s.box.cell 0
                               simp at d0
                               obtain ⟨b0, b1, b2, b3, b4⟩ := vl_cells hS.v.s.bv
                               obtain ⟨p0, p1, p2, p3, p4⟩ := (HEL.out.later hS.bel).five
                               have hkv := (HEL.out.later hS.bel).isV
                               go_simp
                               (try go_ints)
                               first
                                 | (obtain ⟨x, hr1, sv, rfl, hx⟩ := hr; simp only [hr1, Option.getD_some]; go_simp; exact Done.same)
                                 | exact Done.same
                            )
                        (refine chain_rel (IsWp wk) (IsWp.later _) (by rfl) ?_ ?_
                         · intro act wx hS hr
                           simp at hr
                           have d0 := hS.v.s.box.cell 0
                           simp at d0
                           obtain ⟨b0, b1, b2, b3, b4⟩ := vl_cells hS.v.s.bv
                           obtain ⟨p0, p1, p2, p3, p4⟩ := (HEL.out.later hS.bel).five
                           have hkv := (HEL.out.later hS.bel).isV
                           obtain ⟨x, hr1, hx⟩ := hr
                           all_goals go_simp
                           exact Done.rel (Below.refl _ _) hx
                        )
                        iterate 1 first
                          | (refine chain_skip (by rfl) (by rfl) ?_)
                          | (apply chain_want (by rfl)
                             · intro act wx hS hr
                               simp at hr
                               have d0 := hS.v.s.box.cell 0
                               simp at d0
                               obtain ⟨b0, b1, b2, b3, b4⟩ := vl_cells hS.v.s.bv
                               obtain ⟨p0, p1, p2, p3, p4⟩ := (HEL.out.later hS.bel).five
                               have hkv := (HEL.out.later hS.bel).isV
                               go_simp
                               (try go_ints)
                               first
                                 | (obtain ⟨x, hr1, sv, rfl, hx⟩ := hr; simp only [hr1, Option.getD_some]; go_simp; exact Done.same)
                                 | exact Done.same
                            )
                        show ∀ w', _ → _
                        intro w24 hz24
                        simp [Act.put]
                        case hS => exact HK0.out
                        intro p1 _ p2 _ p3 _ p4 _ p5 hp5
                        have hp5 : IsW wk p5 w24 := hp5
                        have HP5 := Lib.hid hp5
                        have HO24 := Lib.hid (HO.out.later hz24.bel)
                        have HBL24 := Lib.hid (HBL.out.trans (hz24.bel.mono HLO.out))
                        have HL24 : Hid (H ≤ w24.heap.size) := Nat.le_trans HLO.out hz24.bel.size
                        clear hz24 hp5 HK0 HV HO HEL HSU HBL
                        go_wp2_with (at_builtin; refine wpList_append_w rfl _ _ rfl H u13 fl rfl HO24.out wk p5 rfl HP5.out (by have := HFB.out; omega) HL24.out ?_; intro v6 w6 h1 h2; have HO6 := Lib.hid h1; have HB6 := Lib.hid ((Below.refl H _).grown h2 HL24.out (fun k hk => (World.ownsRow.lt HO24.out k hk).1)); clear h1 h2)
                        have HBL6 := Lib.hid (HBL24.out.trans HB6.out)
                        go_wp2
                        go_roundw
                        case rel => exact ⟨k + 1, by omega, by go_num, by rw [HTK.out]; exact HO6.out, HBL6.out⟩
                        case measure => simp [intOf]; omega
                      · have y4 : (vk == 4) = false := by rw [beq_eq_false_iff_ne]; exact kr
                        obtain ⟨q, hq, hql⟩ := HKQ.out k hlt
                        have hkk : kidN ⟨vk, na, nb, nlo, nhi, ncls, ntext⟩ vp k = na := by unfold kidN; rw [if_neg hif]
                        clear hif
                        have hwk := HWK.out k hlt
                        rw [hkk] at hq hwk
                        have HQE := Lib.hid hq
                        rw [hq] at hwk
                        have hqt : ((q : Int)).toNat = q := rfl
                        rw [hqt] at hwk
                        have hws := wr_sub hql (HFM.out.okTo hql) (ks.at k)
                        rw [hwk] at hws
                        have HSU : Hid (∀ w', WvS w (some ⟨ba, oa, none⟩) l c ⟨vk, vb, vt, vp, ks⟩ B cv w' → Calls Try.prog 19 #[.agg #[.slice (some ⟨ba, oa, none⟩) l.length c], .int .i64 na] w' (DPost w' (subL l q))) := fun w' h => by
                          rw [HQE.out]
                          exact IsD.rsub ⟨_, c, hc1, rfl, h.row⟩ HSP.out.sm hql
                        have HWSB := Lib.hid hws
                        have HCK : Hid (cntV (ks.at k) ≤ 100000) := by have h1 := cntVs_at ks k hlt; have h2 := HCN.out; unfold Hid cntV at *; simp only at *; omega
                        have HQL := Lib.hid hql
                        obtain ⟨gk, ok, Yk, ck, hBk, hel⟩ := VRow.el HV.out.s.kids hlt
                        have hBk : B = some ⟨gk, ok, none⟩ := hBk
                        have hel : ElS gk (ok + k * 5) (ks.at k) Yk ck wr := hel
                        have HEL := Lib.hid hel
                        have htk : (ws.take (k + 1)).flatten = (ws.take k).flatten ++ ws.getD k [] := by
                          rw [List.take_add_one, List.flatten_append, List.getD_eq_getElem?_getD, List.getElem?_eq_getElem (by have := HWL.out; omega)]
                          simp
                        have HTK := Lib.hid htk
                        have HFB := Lib.hid (HFL.out (k + 1))
                        rw [HTK.out, List.length_append] at HFB
                        generalize ws.getD k [] = wk at *
                        generalize (ws.take k).flatten = fl at *
                        clear hq hkk hwk hqt hws hel htk hql
                        generalize ks.at k = kv at *
                        obtain ⟨kk, kb, kt, kp, kks⟩ := kv
                        subst hBk
                        have hltz : (k : Int) < (ks.len : Int) := by omega
                        have hkb : (k : Int) ≤ 400 := by have h1 := cntVs_len ks; have h2 := HCN.out; unfold cntV at h2; simp only at h2; omega
                        go_upto_region 24 with (fail)
                        have HK0 : Hid (VkS w (some ⟨ba, oa, none⟩) l c ⟨vk, vb, vt, vp, ks⟩ (some ⟨gk, ok, none⟩) cv W (.slice A5 W.length c5) bn ⟨vk, na, nb, nlo, nhi, ncls, ntext⟩ wr wr) := ⟨Below.refl _ _, HV.out⟩
                        refine wp_region_stable (S := (VkS w (some ⟨ba, oa, none⟩) l c ⟨vk, vb, vt, vp, ks⟩ (some ⟨gk, ok, none⟩) cv W (.slice A5 W.length c5) bn ⟨vk, na, nb, nlo, nhi, ncls, ntext⟩ wr)) (hSt := fun _ _ h hb => h.later hb) (plan := [[(2, none)], [(15, none)], [(146, some 0), (147, some 1)], [(3, none)], [(149, some 3)], [(14, none)], [(150, some 4), (151, some 5)], [(152, some 6)], [(148, some 2), (153, some 7)], [(154, some 8)], [(145, some 9)], [(145, some 9)], [(155, some 10)], [(156, some 11)]]) (by kernel_rfl) (by kernel_rfl) (by kernel_rfl) ?hS ?_
                        rotate_left
                        iterate 2 first
                          | (refine chain_skip (by rfl) (by rfl) ?_)
                          | (apply chain_want (by rfl)
                             · intro act wx hS hr
                               simp at hr
                               have d0 := hS.v.s.box.cell 0
                               simp at d0
                               obtain ⟨b0, b1, b2, b3, b4⟩ := vl_cells hS.v.s.bv
                               obtain ⟨p0, p1, p2, p3, p4⟩ := (HEL.out.later hS.bel).five
                               have hkv := (HEL.out.later hS.bel).isV
                               go_simp
                               (try go_ints)
                               first
                                 | (obtain ⟨x, hr1, sv, rfl, hx⟩ := hr; simp only [hr1, Option.getD_some]; go_simp; exact Done.same)
                                 | exact Done.same
                            )
                        (refine chain_rel (IsD (subL l q)) (IsD.later _) (by rfl) ?_ ?_
                         · intro act wx hS hr
                           simp at hr
                           have d0 := hS.v.s.box.cell 0
                           simp at d0
                           obtain ⟨b0, b1, b2, b3, b4⟩ := vl_cells hS.v.s.bv
                           obtain ⟨p0, p1, p2, p3, p4⟩ := (HEL.out.later hS.bel).five
                           have hkv := (HEL.out.later hS.bel).isV
                           all_goals go_simp
                           ((with_reducible refine (HSU.out _ hS.v.s).mono ?_); intro e w' hp; obtain ⟨sv, rfl, ho, hb⟩ := hp; exact Done.rel hb ho.isD)
                        )
                        iterate 5 first
                          | (refine chain_skip (by rfl) (by rfl) ?_)
                          | (apply chain_want (by rfl)
                             · intro act wx hS hr
                               simp at hr
                               have d0 := hS.v.s.box.cell 0
                               simp at d0
                               obtain ⟨b0, b1, b2, b3, b4⟩ := vl_cells hS.v.s.bv
                               obtain ⟨p0, p1, p2, p3, p4⟩ := (HEL.out.later hS.bel).five
                               have hkv := (HEL.out.later hS.bel).isV
                               go_simp
                               (try go_ints)
                               first
                                 | (obtain ⟨x, hr1, sv, rfl, hx⟩ := hr; simp only [hr1, Option.getD_some]; go_simp; exact Done.same)
                                 | exact Done.same
                            )
                        (refine chain_rel (TupV (some wk)) (TupV.later _) (by rfl) ?_ ?_
                         · intro act wx hS hr
                           simp at hr
                           have d0 := hS.v.s.box.cell 0
                           simp at d0
                           obtain ⟨b0, b1, b2, b3, b4⟩ := vl_cells hS.v.s.bv
                           obtain ⟨p0, p1, p2, p3, p4⟩ := (HEL.out.later hS.bel).five
                           have hkv := (HEL.out.later hS.bel).isV
                           obtain ⟨⟨x, hr1, hx⟩, hr2⟩ := hr
                           all_goals go_simp
                           (refine (HWR.isD hx (HSP.out.sub HQL.out) (sub_tx HTL.out q) HCK.out hkv HWSB.out).mono ?_; rintro e w' ⟨x, rfl, hx, hb⟩; exact Done.rel hb hx)
                        )
                        (refine chain_rel (TupV (some wk)) (TupV.later _) (by rfl) ?_ ?_
                         · intro act wx hS hr
                           simp at hr
                           have d0 := hS.v.s.box.cell 0
                           simp at d0
                           obtain ⟨b0, b1, b2, b3, b4⟩ := vl_cells hS.v.s.bv
                           obtain ⟨p0, p1, p2, p3, p4⟩ := (HEL.out.later hS.bel).five
                           have hkv := (HEL.out.later hS.bel).isV
                           obtain ⟨x, hr1, hx⟩ := hr
                           all_goals go_simp
                           exact Done.rel (Below.refl _ _) hx
                        )
                        (refine chain_rel (IsWp wk) (IsWp.later _) (by rfl) ?_ ?_
                         · intro act wx hS hr
                           simp at hr
                           have d0 := hS.v.s.box.cell 0
                           simp at d0
                           obtain ⟨b0, b1, b2, b3, b4⟩ := vl_cells hS.v.s.bv
                           obtain ⟨p0, p1, p2, p3, p4⟩ := (HEL.out.later hS.bel).five
                           have hkv := (HEL.out.later hS.bel).isV
                           obtain ⟨x, hr1, sv, rfl, hx⟩ := hr
                           all_goals go_simp
                           exact Done.rel (Below.refl _ _) hx
                        )
                        iterate 1 first
                          | (refine chain_skip (by rfl) (by rfl) ?_)
                          | (apply chain_want (by rfl)
                             · intro act wx hS hr
                               simp at hr
                               have d0 := hS.v.s.box.cell 0
                               simp at d0
                               obtain ⟨b0, b1, b2, b3, b4⟩ := vl_cells hS.v.s.bv
                               obtain ⟨p0, p1, p2, p3, p4⟩ := (HEL.out.later hS.bel).five
                               have hkv := (HEL.out.later hS.bel).isV
                               go_simp
                               (try go_ints)
                               first
                                 | (obtain ⟨x, hr1, sv, rfl, hx⟩ := hr; simp only [hr1, Option.getD_some]; go_simp; exact Done.same)
                                 | exact Done.same
                            )
                        (refine chain_rel (IsWp wk) (IsWp.later _) (by rfl) ?_ ?_
                         · intro act wx hS hr
                           simp at hr
                           have d0 := hS.v.s.box.cell 0
                           simp at d0
                           obtain ⟨b0, b1, b2, b3, b4⟩ := vl_cells hS.v.s.bv
                           obtain ⟨p0, p1, p2, p3, p4⟩ := (HEL.out.later hS.bel).five
                           have hkv := (HEL.out.later hS.bel).isV
                           obtain ⟨x, hr1, hx⟩ := hr
                           all_goals go_simp
                           exact Done.rel (Below.refl _ _) hx
                        )
                        iterate 1 first
                          | (refine chain_skip (by rfl) (by rfl) ?_)
                          | (apply chain_want (by rfl)
                             · intro act wx hS hr
                               simp at hr
                               have d0 := hS.v.s.box.cell 0
                               simp at d0
                               obtain ⟨b0, b1, b2, b3, b4⟩ := vl_cells hS.v.s.bv
                               obtain ⟨p0, p1, p2, p3, p4⟩ := (HEL.out.later hS.bel).five
                               have hkv := (HEL.out.later hS.bel).isV
                               go_simp
                               (try go_ints)
                               first
                                 | (obtain ⟨x, hr1, sv, rfl, hx⟩ := hr; simp only [hr1, Option.getD_some]; go_simp; exact Done.same)
                                 | exact Done.same
                            )
                        show ∀ w', _ → _
                        intro w24 hz24
                        simp [Act.put]
                        case hS => exact HK0.out
                        intro p1 _ p2 _ p3 _ p4 _ p5 hp5
                        have hp5 : IsW wk p5 w24 := hp5
                        have HP5 := Lib.hid hp5
                        have HO24 := Lib.hid (HO.out.later hz24.bel)
                        have HBL24 := Lib.hid (HBL.out.trans (hz24.bel.mono HLO.out))
                        have HL24 : Hid (H ≤ w24.heap.size) := Nat.le_trans HLO.out hz24.bel.size
                        clear hz24 hp5 HK0 HV HO HEL HSU HBL
                        go_wp2_with (at_builtin; refine wpList_append_w rfl _ _ rfl H u13 fl rfl HO24.out wk p5 rfl HP5.out (by have := HFB.out; omega) HL24.out ?_; intro v6 w6 h1 h2; have HO6 := Lib.hid h1; have HB6 := Lib.hid ((Below.refl H _).grown h2 HL24.out (fun k hk => (World.ownsRow.lt HO24.out k hk).1)); clear h1 h2)
                        have HBL6 := Lib.hid (HBL24.out.trans HB6.out)
                        go_wp2
                        go_roundw
                        case rel => exact ⟨k + 1, by omega, by go_num, by rw [HTK.out]; exact HO6.out, HBL6.out⟩
                        case measure => simp [intOf]; omega
                  · skip
                    obtain rfl : k = ks.len := by omega
                    have hlast : ¬ ((ks.len : Nat) : Int) < (ks.len : Int) := by omega
                    have htk : ws.take ks.len = ws := List.take_of_length_le (by have := HWL.out; omega)
                    have hfb := HFL.out ks.len
                    rw [htk] at HO hfb
                    have HWL2 : Hid (W.length ≤ 10000000) := by
                      have h3 := wrV_len HTL.out _ _ _ HR.out
                      have h4 := HCN.out
                      have : (2000 + 2) * cntV ⟨vk, vb, vt, vp, ks⟩ ≤ (2000 + 2) * 400 := Nat.mul_le_mul_left _ h4
                      unfold Hid; omega
                    have hcp := HCAP.out
                    generalize ws.flatten = fl at *
                    obtain ⟨gA, gc, hgv, -⟩ := own8_form HO.out
                    have HXX := Lib.hid HV.out.x
                    have HBX := Lib.hid HV.out.s.bel
                    have HFW : Hid (IsW fl u13 wr) := own_isW HO.out (by omega)
                    unfold capW at hcp
                    simp only at hcp
                    rw [if_neg (by omega), if_neg (by omega)] at hcp
                    have HFBL := Lib.hid hfb
                    clear htk HO HCAP HFL HWL HKQ HWK
                    by_cases k8 : vk = 8
                    · rw [if_pos k8] at hcp
                      by_cases h255 : fl.length ≤ 255
                      · rw [if_pos h255] at hcp
                        have hW : byU fl.length :: fl = W := Option.some.inj hcp
                        have HW := Lib.hid hW
                        have z8 : (vk == 8) = true := by simp [k8]
                        have z9 : (vk == 9) = false := by rw [beq_eq_false_iff_ne]; omega
                        have hflz : (fl.length : Int) ≤ 255 := by omega
                        have HNB : Hid (Own8 (wr.alloc (.cells #[.int .u8 (fl.length : Int)] 5)) wr.heap.size (.slice (some ⟨wr.heap.size, 0, none⟩) 1 1) (nats [byU fl.length])) := own_new (w := wr) (W := [byU fl.length]) (cs := #[.int .u8 (fl.length : Int)]) (by
                          have hb : (byU fl.length).toNat = fl.length := by unfold byU; simp; omega
                          unfold bytesV nats; simp [hb]) (by simp)
                        have HAL : Hid (Below wr.heap.size wr (wr.alloc (.cells #[.int .u8 (fl.length : Int)] 5))) := (Below.refl _ _).alloc (Nat.le_refl _) _
                        clear hcp hW h255 k8
                        subst hgv
                        go_wp2_with (at_builtin; refine wpList_append_w rfl _ _ rfl wr.heap.size (.slice (some ⟨wr.heap.size, 0, none⟩) 1 1) [byU fl.length] rfl HNB.out fl (.slice gA fl.length gc) rfl (HFW.out.later HAL.out) (by simp only [List.length_cons, List.length_nil]; omega) HAL.out.size ?_; intro v6 w6 h1 h2; have HO6 := Lib.hid h1; have HB6 := Lib.hid (HAL.out.grown h2 HAL.out.size (fun k hk => (World.ownsRow.lt HNB.out k hk).1)); have HN6 := Lib.hid (HV.out.nd.later HB6.out); clear h1 h2 f0 f1 f2 f3 f4 f5 f6 f7 f8 f9; obtain ⟨f0, f1, f2, f3, f4, f5, f6, f7, f8, f9⟩ := ten_cells HN6.out)
                        have HWX : Hid (IsW W v6 w6) := by
                          have := own_isW HO6.out (by simp only [List.length_append, List.length_cons, List.length_nil]; omega)
                          rw [← HW.out]; exact this
                        have HXX := Lib.hid (HXX.out.later HB6.out)
                        have HBX := Lib.hid (HBX.out.trans (HB6.out.mono HBX.out.size))
                        obtain ⟨vA, vc, hv6, -⟩ := HWX.out.len
                        subst hv6
                        have CB : Hid (Calls Try.prog 13 #[(.slice vA W.length vc), .slice A5 W.length c5] w6 (Ans w6 (.bool true))) := by
                          have := bytes_rowV (nats W) (nats W) (.slice vA W.length vc) (.slice A5 W.length c5) w6 HWX.out.bytes HXX.out.bytes (by rw [nats_length]; have := HWL2.out; omega) (by rw [nats_length]; have := HWL2.out; omega)
                          rwa [show (nats W == nats W) = true by simp] at this
                        go_wp2_with fail
                        refine CB.out.mono ?_; rintro e wy ⟨rfl, hb⟩
                        have HBY := Lib.hid (HBX.out.trans (hb.mono HBX.out.size))
                        clear hb CB
                        go_wp2
                        go_ret
                        exact ⟨rfl, HBY.out⟩
                      · rw [if_neg h255] at hcp; cases hcp
                    · rw [if_neg k8] at hcp
                      have z8 : (vk == 8) = false := by rw [beq_eq_false_iff_ne]; exact k8
                      by_cases k9 : vk = 9
                      · rw [if_pos k9] at hcp
                        by_cases h65 : fl.length ≤ 65535
                        · rw [if_pos h65] at hcp
                          have hW : byU (fl.length / 256) :: byU (fl.length % 256) :: fl = W := Option.some.inj hcp
                          have HW := Lib.hid hW
                          have z9 : (vk == 9) = true := by simp [k9]
                          have hq1 : 0 ≤ (fl.length : Int) / 256 := by omega
                          have hq2 : (fl.length : Int) / 256 ≤ 255 := by omega
                          have hq3 : 0 ≤ (fl.length : Int) % 256 := by omega
                          have hq4 : (fl.length : Int) % 256 ≤ 255 := by omega
                          have hq5 : Int.tdiv (fl.length : Int) 256 = (fl.length : Int) / 256 := Int.tdiv_eq_ediv_of_nonneg (by omega)
                          have hq6 : Int.tmod (fl.length : Int) 256 = (fl.length : Int) % 256 := Int.tmod_eq_emod_of_nonneg (by omega)
                          have HNB : Hid (Own8 (wr.alloc (.cells #[.int .u8 ((fl.length : Int) / 256), .int .u8 ((fl.length : Int) % 256)] 5)) wr.heap.size (.slice (some ⟨wr.heap.size, 0, none⟩) 2 2) (nats [byU (fl.length / 256), byU (fl.length % 256)])) := own_new (w := wr) (W := [byU (fl.length / 256), byU (fl.length % 256)]) (cs := #[.int .u8 ((fl.length : Int) / 256), .int .u8 ((fl.length : Int) % 256)]) (by
                            have hb1 : (((byU (fl.length / 256)).toNat : Nat) : Int) = (fl.length : Int) / 256 := by unfold byU; simp; omega
                            have hb2 : (((byU (fl.length % 256)).toNat : Nat) : Int) = (fl.length : Int) % 256 := by unfold byU; simp
                            unfold bytesV nats; simp [hb1, hb2]) (by simp)
                          have HAL : Hid (Below wr.heap.size wr (wr.alloc (.cells #[.int .u8 ((fl.length : Int) / 256), .int .u8 ((fl.length : Int) % 256)] 5))) := (Below.refl _ _).alloc (Nat.le_refl _) _
                          clear hcp hW h65 k9 k8
                          subst hgv
                          go_wp2_with (at_builtin; refine wpList_append_w rfl _ _ rfl wr.heap.size (.slice (some ⟨wr.heap.size, 0, none⟩) 2 2) [byU (fl.length / 256), byU (fl.length % 256)] rfl HNB.out fl (.slice gA fl.length gc) rfl (HFW.out.later HAL.out) (by simp only [List.length_cons, List.length_nil]; omega) HAL.out.size ?_; intro v6 w6 h1 h2; have HO6 := Lib.hid h1; have HB6 := Lib.hid (HAL.out.grown h2 HAL.out.size (fun k hk => (World.ownsRow.lt HNB.out k hk).1)); clear h1 h2)
                          have HWX : Hid (IsW W v6 w6) := by
                            have := own_isW HO6.out (by simp only [List.length_append, List.length_cons, List.length_nil]; omega)
                            rw [← HW.out]; exact this
                          have HXX := Lib.hid (HXX.out.later HB6.out)
                          have HBX := Lib.hid (HBX.out.trans (HB6.out.mono HBX.out.size))
                          obtain ⟨vA, vc, hv6, -⟩ := HWX.out.len
                          subst hv6
                          have CB : Hid (Calls Try.prog 13 #[(.slice vA W.length vc), .slice A5 W.length c5] w6 (Ans w6 (.bool true))) := by
                            have := bytes_rowV (nats W) (nats W) (.slice vA W.length vc) (.slice A5 W.length c5) w6 HWX.out.bytes HXX.out.bytes (by rw [nats_length]; have := HWL2.out; omega) (by rw [nats_length]; have := HWL2.out; omega)
                            rwa [show (nats W == nats W) = true by simp] at this
                          go_wp2_with fail
                          refine CB.out.mono ?_; rintro e wy ⟨rfl, hb⟩
                          have HBY := Lib.hid (HBX.out.trans (hb.mono HBX.out.size))
                          clear hb CB
                          go_wp2
                          go_ret
                          exact ⟨rfl, HBY.out⟩
                        · rw [if_neg h65] at hcp; cases hcp
                      · rw [if_neg k9] at hcp
                        have hW : fl = W := Option.some.inj hcp
                        have z9 : (vk == 9) = false := by rw [beq_eq_false_iff_ne]; exact k9
                        have HWX : Hid (IsW W u13 wr) := by unfold Hid; rw [← hW]; exact HFW.out
                        obtain ⟨vA, vc, hv6, -⟩ := HWX.out.len
                        clear hcp k8 k9 hgv hW HFW HFBL
                        subst hv6
                        have CB : Hid (Calls Try.prog 13 #[(.slice vA W.length vc), .slice A5 W.length c5] wr (Ans wr (.bool true))) := by
                          have := bytes_rowV (nats W) (nats W) (.slice vA W.length vc) (.slice A5 W.length c5) wr HWX.out.bytes HXX.out.bytes (by rw [nats_length]; have := HWL2.out; omega) (by rw [nats_length]; have := HWL2.out; omega)
                          rwa [show (nats W == nats W) = true by simp] at this
                        go_wp2_with fail
                        refine CB.out.mono ?_; rintro e wy ⟨rfl, hb⟩
                        have HBY := Lib.hid (HBX.out.trans (hb.mono HBX.out.size))
                        clear hb CB
                        go_wp2
                        go_ret
                        exact ⟨rfl, HBY.out⟩
          · subst h74
            clear hi1 hi2 hi3
            go_wp2_with fail
            refine (CS.out _ HS8.out).mono ?_; rintro e w9 ⟨rfl, hb⟩
            have HS9 := Lib.hid (HS8.out.later hb)
            have HX9 := Lib.hid (HX8.out.later hb)
            clear hb CS HS8 HX8 d0 b0 b1 b2 b3 b4
            have d0 := HS9.out.box.cell 0
            simp at d0
            obtain ⟨b0, b1, b2, b3, b4⟩ := vl_cells HS9.out.bv
            go_upto_region 10 with (fail)
            have hb8 := (Below.refl w9.heap.size w9).alloc (Nat.le_refl _) (.cells #[.int .i64 vk, .int .u8 ((vb.toNat : Nat) : Int), .string (bs vt), .int .i64 vp, .slice B ks.len cv] 27)
            have HXq : Hid (Blk (w9.alloc (.cells #[.int .i64 vk, .int .u8 ((vb.toNat : Nat) : Int), .string (bs vt), .int .i64 vp, .slice B ks.len cv] 27)) w9.heap.size #[.int .i64 vk, .int .u8 ((vb.toNat : Nat) : Int), .string (bs vt), .int .i64 vp, .slice B ks.len cv] 27) := Blk.new _ _ _
            have hb9 := hb8.setCell (p := ⟨w9.heap.size, 3, none⟩) (Nat.le_refl _) (.int .i64 (vp + 1))
            have HSq := Lib.hid (HS9.out.later hb8)
            have HS10 := Lib.hid (HS9.out.later hb9)
            have HX10 := Lib.hid (HX9.out.later hb9)
            have HXr : Hid (Blk ((w9.alloc (.cells #[.int .i64 vk, .int .u8 ((vb.toNat : Nat) : Int), .string (bs vt), .int .i64 vp, .slice B ks.len cv] 27)).setCell ⟨w9.heap.size, 3, none⟩ (.int .i64 (vp + 1))) w9.heap.size #[.int .i64 vk, .int .u8 ((vb.toNat : Nat) : Int), .string (bs vt), .int .i64 (vp + 1), .slice B ks.len cv] 27) := HXq.out.setCell 3 (.int .i64 (vp + 1))
            clear hb8 hb9 d0 b0 b1 b2 b3 b4 HS9 HX9
            have d0 := HSq.out.box.cell 0
            simp at d0
            obtain ⟨b0, b1, b2, b3, b4⟩ := vl_cells HSq.out.bv
            obtain ⟨x0, x1, x2, x3, x4⟩ := vl_cells HXq.out
            have xf := HXq.out.frozen 3
            generalize w9.alloc (.cells #[.int .i64 vk, .int .u8 ((vb.toNat : Nat) : Int), .string (bs vt), .int .i64 vp, .slice B ks.len cv] 27) = wq at *
            generalize w9.heap.size = bq at *
            have hp2 : 0 ≤ vp ∧ vp ≤ 1 := by omega
            obtain ⟨hp3, hp4⟩ := hp2
            go_upto_region 11 with (fail)
            generalize wq.setCell ⟨bq, 3, none⟩ (.int .i64 (vp + 1)) = w10 at *
            clear d0 b0 b1 b2 b3 b4 x0 x1 x2 x3 x4 xf HXq HSq
            have d0 := HS10.out.box.cell 0
            simp at d0
            obtain ⟨b0, b1, b2, b3, b4⟩ := vl_cells HS10.out.bv
            have C8 := Lib.hid (CW.out ⟨vk, vb, vt, vp + 1, ks⟩ B cv _ HS10.out.row (by have := HCN.out; unfold cntV at *; simp only at *; omega) hcv HS10.out.kids)
            unfold vlC at C8
            simp only at C8
            obtain ⟨x0, x1, x2, x3, x4⟩ := cells5 HXr.out
            go_wp2_with fail
            refine C8.out.mono ?_; rintro e w11 ⟨x8, rfl, ⟨s8, rfl, hx8⟩, hb⟩
            have HS11 := Lib.hid (HS10.out.later hb)
            have HX11 := Lib.hid (HX10.out.later hb)
            have HXs := Lib.hid (HXr.out.later hb)
            clear hb hx8 C8 HS10 HX10 HXr d0 b0 b1 b2 b3 b4 x0 x1 x2 x3 x4
            have d0 := HS11.out.box.cell 0
            simp at d0
            obtain ⟨b0, b1, b2, b3, b4⟩ := vl_cells HS11.out.bv
            obtain ⟨x0, x1, x2, x3, x4⟩ := cells5 HXs.out
            generalize wrD l ⟨vk, vb, vt, vp + 1, ks⟩ = rk at *
            obtain ⟨hhd, ws, hwl, hwk, hwe, hcap⟩ := wrV_some HR.out
            try simp only at hhd hwl hwk hcap
            have hkn : vk = (atN l (l.length - 1)).kind := hhd.1
            have hleaf := hhd.2.2.2.2.2.1
            have HWL := Lib.hid hwl
            have HWK := Lib.hid hwk
            have HCAP := Lib.hid hcap
            obtain ⟨ba, oa, hba, -, -⟩ := HS11.out.row (l.length - 1) (by omega)
            have HTN : Hid (∀ w', WvS w A l c ⟨vk, vb, vt, vp, ks⟩ B cv w' → At10 w' ba (oa + (l.length - 1) * 10) (atN l (l.length - 1))) := fun w' h => by
              have := h.row.at (i := l.length - 1) (by omega) hba
              exact this
            obtain ⟨n, hn⟩ : ∃ n, n = atN l (l.length - 1) := ⟨_, rfl⟩
            rw [← hn] at hkn hleaf HTN HWK HCAP hhd
            have hkr := kind_range HFM.out (i := l.length - 1) (by omega)
            rw [← hn] at hkr
            have HN := Lib.hid hn
            clear hwl hwk hwe hcap hn
            subst hba
            obtain ⟨nk, na, nb, nlo, nhi, ncls, ntext⟩ := n
            try simp only at hkn hleaf hkr
            subst hkn
            have hlz : (0 : Int) ≤ (l.length : Int) - 1 := by omega
            have hlz2 : (l.length : Int) - 1 < (l.length : Int) := by omega
            by_cases k5 : vk = 5
            · have z5 : (vk != 5) = false := by simp [k5]
              have K5 := Lib.hid k5
              clear k5
              generalize rk.isSome = zk at *
              go_wp2_with fail
              refine (CT.out _ HS11.out).mono ?_; rintro e w12 ⟨rfl, hb⟩
              have HS12 := Lib.hid (HS11.out.later hb)
              have HX12 := Lib.hid (HX11.out.later hb)
              clear hb CT HS11 HX11 HXs d0 b0 b1 b2 b3 b4 x0 x1 x2 x3 x4
              have d0 := HS12.out.box.cell 0
              simp at d0
              obtain ⟨b0, b1, b2, b3, b4⟩ := vl_cells HS12.out.bv
              go_upto_region 14 with (fail)
              obtain ⟨g0, g1, g2, g3, g4, g5, g6, g7, g8, g9⟩ := HTN.out _ HS12.out
              simp only at g0 g1 g2 g3 g4 g5 g6 g7 g8 g9
              go_upto_region 15 with (fail)
              have hb14 := (Below.refl w12.heap.size w12).alloc (Nat.le_refl _) (.cells #[.int .i64 vk, .int .i64 na, .int .i64 nb, .int .i64 nlo, .int .i64 nhi, .int .u64 (wd ncls 0), .int .u64 (wd ncls 1), .int .u64 (wd ncls 2), .int .u64 (wd ncls 3), .string (bs ntext)] 44)
              have HV14 : Hid (VnS w (some ⟨ba, oa, none⟩) l c ⟨vk, vb, vt, vp, ks⟩ B cv W (.slice A5 W.length c5) w12.heap.size ⟨vk, na, nb, nlo, nhi, ncls, ntext⟩ (w12.alloc (.cells #[.int .i64 vk, .int .i64 na, .int .i64 nb, .int .i64 nlo, .int .i64 nhi, .int .u64 (wd ncls 0), .int .u64 (wd ncls 1), .int .u64 (wd ncls 2), .int .u64 (wd ncls 3), .string (bs ntext)] 44))) := ⟨HS12.out.later hb14, HX12.out.later hb14, Blk.new _ _ _⟩
              clear hb14 HS12 HX12 g0 g1 g2 g3 g4 g5 g6 g7 g8 g9 d0 b0 b1 b2 b3 b4
              generalize w12.alloc (.cells #[.int .i64 vk, .int .i64 na, .int .i64 nb, .int .i64 nlo, .int .i64 nhi, .int .u64 (wd ncls 0), .int .u64 (wd ncls 1), .int .u64 (wd ncls 2), .int .u64 (wd ncls 3), .string (bs ntext)] 44) = w14 at *
              generalize w12.heap.size = bn at *
              have HZ14 := Lib.hid HV14.out.s
              have d0 := HZ14.out.box.cell 0
              simp at d0
              obtain ⟨b0, b1, b2, b3, b4⟩ := vl_cells HZ14.out.bv
              obtain ⟨f0, f1, f2, f3, f4, f5, f6, f7, f8, f9⟩ := ten_cells HV14.out.nd
              by_cases k4 : vk < 4
              · have z4 : decide (vk < 4) = true := decide_eq_true k4
                have hk0 : ks.len = 0 := hleaf (by omega)
                have hkz : (((ks.len : Nat) : Int) == 0) = true := by rw [hk0]; rfl
                have HB14 := Lib.hid HV14.out.s.bel
                clear hk0 hleaf
                go_wp2
                go_ret
                exact ⟨rfl, HB14.out⟩
              · have z4 : decide (vk < 4) = false := decide_eq_false k4
                have HFL : Hid (∀ k, (ws.take k).flatten.length ≤ 1000000) := fun k => by
                  have h1 : (ws.take k).flatten.length ≤ ws.flatten.length := by
                    conv => rhs; rw [← List.take_append_drop k ws, List.flatten_append, List.length_append]
                    omega
                  have h2 : ws.flatten.length ≤ W.length := by
                    have := HCAP.out
                    unfold capW at this
                    simp only at this
                    rw [if_neg (by omega), if_neg (by omega)] at this
                    split at this
                    · split at this
                      · injection this with this; rw [← this]; simp
                      · cases this
                    · split at this
                      · split at this
                        · injection this with this; rw [← this]; simp; omega
                        · cases this
                      · injection this with this; rw [this]; exact Nat.le_refl _
                  have h3 := wrV_len HTL.out _ _ _ HR.out
                  have h4 := HCN.out
                  have : (2000 + 2) * cntV ⟨vk, vb, vt, vp, ks⟩ ≤ (2000 + 2) * 400 := Nat.mul_le_mul_left _ h4
                  omega
                have HKQ : Hid (∀ k, k < ks.len → ∃ q : Nat, kidN ⟨vk, na, nb, nlo, nhi, ncls, ntext⟩ vp k = (q : Int) ∧ q < l.length) := fun k hk => by
                  have ho9 := HFM.out.2.1 (l.length - 1) (by omega)
                  rw [← HN.out] at ho9
                  have hn := HN.out.symm
                  cases ho9.cs hn with
                  | leaf hk9 hf => unfold leafK at hk9; simp only at hk9; omega
                  | one hk9 hi0 ha hb h7 hr hcl hf =>
                    simp only at hk9 ha
                    exact ⟨na.toNat, by unfold kidN; rw [if_neg (by simp only; omega)]; simp only; omega, by omega⟩
                  | two hk9 hi0 hb ha hf0 hl hcl hf =>
                    simp only at hk9 ha hb
                    have hle := firstP_le l (l.length - 1 - 1)
                    unfold kidN
                    split
                    · exact ⟨nb.toNat, by simp only; omega, by omega⟩
                    · exact ⟨na.toNat, by simp only; omega, by omega⟩
                have HI0 : Hid (ViL w14 w14.heap.size ks.len ws (.slice none 0 0) (.int .i64 ((0 : Nat) : Int)) w14) := ⟨0, Nat.zero_le _, rfl, Own8.nil _ _, Below.refl _ _⟩
                obtain ⟨H, hH⟩ : ∃ H, H = w14.heap.size := ⟨_, rfl⟩
                rw [← hH] at HI0
                have HH := Lib.hid hH
                clear hH HZ14
                go_upto_region 17 with (fail)
                clear d0 b0 b1 b2 b3 b4 f0 f1 f2 f3 f4 f5 f6 f7 f8 f9
                go_wp2
                go_loopw [13, 14] (ViL w14 H ks.len ws) (fun _ x _ => ks.len - (intOf x).toNat)
                case atStart => exact HI0.out
                case round =>
                  obtain ⟨k, hk, rfl, hown, hbel⟩ := hrel
                  have HO := Lib.hid hown
                  have HBL := Lib.hid hbel
                  have HLO : Hid (H ≤ wr.heap.size) := by unfold Hid; rw [HH.out]; exact hbel.size
                  have hbw : Below w14.heap.size w14 wr := by rw [← HH.out]; exact hbel
                  have HV := Lib.hid (HV14.out.later hbw)
                  clear hown hbel hbw HI0
                  try simp only at hk
                  have HZV := Lib.hid HV.out.s
                  have d0 := HZV.out.box.cell 0
                  simp at d0
                  obtain ⟨b0, b1, b2, b3, b4⟩ := vl_cells HZV.out.bv
                  obtain ⟨f0, f1, f2, f3, f4, f5, f6, f7, f8, f9⟩ := ten_cells HV.out.nd
                  by_cases hlt : k < ks.len
                  · have y5 : (vk == 5) = true := by rw [K5.out]; rfl
                    have y4 : (vk == 4) = false := by rw [K5.out]; rfl
                    by_cases kr : vp = 1
                    · have yp : (vp == 1) = true := by simp [kr]
                      have hif : (vk = 4 ∧ k = 1 ∨ vk = 5 ∧ vp = 1) := .inr ⟨K5.out, kr⟩
                      clear kr
                      obtain ⟨q, hq, hql⟩ := HKQ.out k hlt
                      have hkk : kidN ⟨vk, na, nb, nlo, nhi, ncls, ntext⟩ vp k = nb := by unfold kidN; rw [if_pos hif]
                      clear hif
                      have hwk := HWK.out k hlt
                      rw [hkk] at hq hwk
                      have HQE := Lib.hid hq
                      rw [hq] at hwk
                      have hqt : ((q : Int)).toNat = q := rfl
                      rw [hqt] at hwk
                      have hws := wr_sub hql (HFM.out.okTo hql) (ks.at k)
                      rw [hwk] at hws
                      have HSU : Hid (∀ w', WvS w (some ⟨ba, oa, none⟩) l c ⟨vk, vb, vt, vp, ks⟩ B cv w' → Calls Try.prog 19 #[.agg #[.slice (some ⟨ba, oa, none⟩) l.length c], .int .i64 nb] w' (DPost w' (subL l q))) := fun w' h => by
                        rw [HQE.out]
                        exact IsD.rsub ⟨_, c, hc1, rfl, h.row⟩ HSP.out.sm hql
                      have HWSB := Lib.hid hws
                      have HCK : Hid (cntV (ks.at k) ≤ 100000) := by have h1 := cntVs_at ks k hlt; have h2 := HCN.out; unfold Hid cntV at *; simp only at *; omega
                      have HQL := Lib.hid hql
                      obtain ⟨gk, ok, Yk, ck, hBk, hel⟩ := VRow.el HV.out.s.kids hlt
                      have hBk : B = some ⟨gk, ok, none⟩ := hBk
                      have hel : ElS gk (ok + k * 5) (ks.at k) Yk ck wr := hel
                      have HEL := Lib.hid hel
                      have htk : (ws.take (k + 1)).flatten = (ws.take k).flatten ++ ws.getD k [] := by
                        rw [List.take_add_one, List.flatten_append, List.getD_eq_getElem?_getD, List.getElem?_eq_getElem (by have := HWL.out; omega)]
                        simp
                      have HTK := Lib.hid htk
                      have HFB := Lib.hid (HFL.out (k + 1))
                      rw [HTK.out, List.length_append] at HFB
                      generalize ws.getD k [] = wk at *
                      generalize (ws.take k).flatten = fl at *
                      clear hq hkk hwk hqt hws hel htk hql
                      generalize ks.at k = kv at *
                      obtain ⟨kk, kb, kt, kp, kks⟩ := kv
                      subst hBk
                      have hltz : (k : Int) < (ks.len : Int) := by omega
                      have hkb : (k : Int) ≤ 400 := by have h1 := cntVs_len ks; have h2 := HCN.out; unfold cntV at h2; simp only at h2; omega
                      go_upto_region 24 with (fail)
                      have HK0 : Hid (VkS w (some ⟨ba, oa, none⟩) l c ⟨vk, vb, vt, vp, ks⟩ (some ⟨gk, ok, none⟩) cv W (.slice A5 W.length c5) bn ⟨vk, na, nb, nlo, nhi, ncls, ntext⟩ wr wr) := ⟨Below.refl _ _, HV.out⟩
                      refine wp_region_stable (S := (VkS w (some ⟨ba, oa, none⟩) l c ⟨vk, vb, vt, vp, ks⟩ (some ⟨gk, ok, none⟩) cv W (.slice A5 W.length c5) bn ⟨vk, na, nb, nlo, nhi, ncls, ntext⟩ wr)) (hSt := fun _ _ h hb => h.later hb) (plan := [[(2, none)], [(15, none)], [(146, some 0), (147, some 1)], [(3, none)], [(149, some 3)], [(14, none)], [(150, some 4), (151, some 5)], [(152, some 6)], [(148, some 2), (153, some 7)], [(154, some 8)], [(145, some 9)], [(145, some 9)], [(155, some 10)], [(156, some 11)]]) (by kernel_rfl) (by kernel_rfl) (by kernel_rfl) ?hS ?_
                      rotate_left
                      iterate 2 first
                        | (refine chain_skip (by rfl) (by rfl) ?_)
                        | (apply chain_want (by rfl)
                           · intro act wx hS hr
                             simp at hr
                             have d0 := hS.v.s.box.cell 0
                             simp at d0
                             obtain ⟨b0, b1, b2, b3, b4⟩ := vl_cells hS.v.s.bv
                             obtain ⟨p0, p1, p2, p3, p4⟩ := (HEL.out.later hS.bel).five
                             have hkv := (HEL.out.later hS.bel).isV
                             go_simp
                             (try go_ints)
                             first
                               | (obtain ⟨x, hr1, sv, rfl, hx⟩ := hr; simp only [hr1, Option.getD_some]; go_simp; exact Done.same)
                               | exact Done.same
                          )
                      (refine chain_rel (IsD (subL l q)) (IsD.later _) (by rfl) ?_ ?_
                       · intro act wx hS hr
                         simp at hr
                         have d0 := hS.v.s.box.cell 0
                         simp at d0
                         obtain ⟨b0, b1, b2, b3, b4⟩ := vl_cells hS.v.s.bv
                         obtain ⟨p0, p1, p2, p3, p4⟩ := (HEL.out.later hS.bel).five
                         have hkv := (HEL.out.later hS.bel).isV
                         all_goals go_simp
                         ((with_reducible refine (HSU.out _ hS.v.s).mono ?_); intro e w' hp; obtain ⟨sv, rfl, ho, hb⟩ := hp; exact Done.rel hb ho.isD)
                      )
                      iterate 5 first
                        | (refine chain_skip (by rfl) (by rfl) ?_)
                        | (apply chain_want (by rfl)
                           · intro act wx hS hr
                             simp at hr
                             have d0 := hS.v.s.box.cell 0
                             simp at d0
                             obtain ⟨b0, b1, b2, b3, b4⟩ := vl_cells hS.v.s.bv
                             obtain ⟨p0, p1, p2, p3, p4⟩ := (HEL.out.later hS.bel).five
                             have hkv := (HEL.out.later hS.bel).isV
                             go_simp
                             (try go_ints)
                             first
                               | (obtain ⟨x, hr1, sv, rfl, hx⟩ := hr; simp only [hr1, Option.getD_some]; go_simp; exact Done.same)
                               | exact Done.same
                          )
                      (refine chain_rel (TupV (some wk)) (TupV.later _) (by rfl) ?_ ?_
                       · intro act wx hS hr
                         simp at hr
                         have d0 := hS.v.s.box.cell 0
                         simp at d0
                         obtain ⟨b0, b1, b2, b3, b4⟩ := vl_cells hS.v.s.bv
                         obtain ⟨p0, p1, p2, p3, p4⟩ := (HEL.out.later hS.bel).five
                         have hkv := (HEL.out.later hS.bel).isV
                         obtain ⟨⟨x, hr1, hx⟩, hr2⟩ := hr
                         all_goals go_simp
                         (refine (HWR.isD hx (HSP.out.sub HQL.out) (sub_tx HTL.out q) HCK.out hkv HWSB.out).mono ?_; rintro e w' ⟨x, rfl, hx, hb⟩; exact Done.rel hb hx)
                      )
                      (refine chain_rel (TupV (some wk)) (TupV.later _) (by rfl) ?_ ?_
                       · intro act wx hS hr
                         simp at hr
                         have d0 := hS.v.s.box.cell 0
                         simp at d0
                         obtain ⟨b0, b1, b2, b3, b4⟩ := vl_cells hS.v.s.bv
                         obtain ⟨p0, p1, p2, p3, p4⟩ := (HEL.out.later hS.bel).five
                         have hkv := (HEL.out.later hS.bel).isV
                         obtain ⟨x, hr1, hx⟩ := hr
                         all_goals go_simp
                         exact Done.rel (Below.refl _ _) hx
                      )
                      (refine chain_rel (IsWp wk) (IsWp.later _) (by rfl) ?_ ?_
                       · intro act wx hS hr
                         simp at hr
                         have d0 := hS.v.s.box.cell 0
                         simp at d0
                         obtain ⟨b0, b1, b2, b3, b4⟩ := vl_cells hS.v.s.bv
                         obtain ⟨p0, p1, p2, p3, p4⟩ := (HEL.out.later hS.bel).five
                         have hkv := (HEL.out.later hS.bel).isV
                         obtain ⟨x, hr1, sv, rfl, hx⟩ := hr
                         all_goals go_simp
                         exact Done.rel (Below.refl _ _) hx
                      )
                      iterate 1 first
                        | (refine chain_skip (by rfl) (by rfl) ?_)
                        | (apply chain_want (by rfl)
                           · intro act wx hS hr
                             simp at hr
                             have d0 := hS.v.s.box.cell 0
                             simp at d0
                             obtain ⟨b0, b1, b2, b3, b4⟩ := vl_cells hS.v.s.bv
                             obtain ⟨p0, p1, p2, p3, p4⟩ := (HEL.out.later hS.bel).five
                             have hkv := (HEL.out.later hS.bel).isV
                             go_simp
                             (try go_ints)
                             first
                               | (obtain ⟨x, hr1, sv, rfl, hx⟩ := hr; simp only [hr1, Option.getD_some]; go_simp; exact Done.same)
                               | exact Done.same
                          )
                      (refine chain_rel (IsWp wk) (IsWp.later _) (by rfl) ?_ ?_
                       · intro act wx hS hr
                         simp at hr
                         have d0 := hS.v.s.box.cell 0
                         simp at d0
                         obtain ⟨b0, b1, b2, b3, b4⟩ := vl_cells hS.v.s.bv
                         obtain ⟨p0, p1, p2, p3, p4⟩ := (HEL.out.later hS.bel).five
                         have hkv := (HEL.out.later hS.bel).isV
                         obtain ⟨x, hr1, hx⟩ := hr
                         all_goals go_simp
                         exact Done.rel (Below.refl _ _) hx
                      )
                      iterate 1 first
                        | (refine chain_skip (by rfl) (by rfl) ?_)
                        | (apply chain_want (by rfl)
                           · intro act wx hS hr
                             simp at hr
                             have d0 := hS.v.s.box.cell 0
                             simp at d0
                             obtain ⟨b0, b1, b2, b3, b4⟩ := vl_cells hS.v.s.bv
                             obtain ⟨p0, p1, p2, p3, p4⟩ := (HEL.out.later hS.bel).five
                             have hkv := (HEL.out.later hS.bel).isV
                             go_simp
                             (try go_ints)
                             first
                               | (obtain ⟨x, hr1, sv, rfl, hx⟩ := hr; simp only [hr1, Option.getD_some]; go_simp; exact Done.same)
                               | exact Done.same
                          )
                      show ∀ w', _ → _
                      intro w24 hz24
                      simp [Act.put]
                      case hS => exact HK0.out
                      intro p1 _ p2 _ p3 _ p4 _ p5 hp5
                      have hp5 : IsW wk p5 w24 := hp5
                      have HP5 := Lib.hid hp5
                      have HO24 := Lib.hid (HO.out.later hz24.bel)
                      have HBL24 := Lib.hid (HBL.out.trans (hz24.bel.mono HLO.out))
                      have HL24 : Hid (H ≤ w24.heap.size) := Nat.le_trans HLO.out hz24.bel.size
                      clear hz24 hp5 HK0 HV HO HEL HSU HBL
                      go_wp2_with (at_builtin; refine wpList_append_w rfl _ _ rfl H u13 fl rfl HO24.out wk p5 rfl HP5.out (by have := HFB.out; omega) HL24.out ?_; intro v6 w6 h1 h2; have HO6 := Lib.hid h1; have HB6 := Lib.hid ((Below.refl H _).grown h2 HL24.out (fun k hk => (World.ownsRow.lt HO24.out k hk).1)); clear h1 h2)
                      have HBL6 := Lib.hid (HBL24.out.trans HB6.out)
                      go_wp2
                      go_roundw
                      case rel => exact ⟨k + 1, by omega, by go_num, by rw [HTK.out]; exact HO6.out, HBL6.out⟩
                      case measure => simp [intOf]; omega
                    · have yp : (vp == 1) = false := by rw [beq_eq_false_iff_ne]; exact kr
                      have hif : ¬ (vk = 4 ∧ k = 1 ∨ vk = 5 ∧ vp = 1) := by have := K5.out; omega
                      obtain ⟨q, hq, hql⟩ := HKQ.out k hlt
                      have hkk : kidN ⟨vk, na, nb, nlo, nhi, ncls, ntext⟩ vp k = na := by unfold kidN; rw [if_neg hif]
                      clear hif
                      have hwk := HWK.out k hlt
                      rw [hkk] at hq hwk
                      have HQE := Lib.hid hq
                      rw [hq] at hwk
                      have hqt : ((q : Int)).toNat = q := rfl
                      rw [hqt] at hwk
                      have hws := wr_sub hql (HFM.out.okTo hql) (ks.at k)
                      rw [hwk] at hws
                      have HSU : Hid (∀ w', WvS w (some ⟨ba, oa, none⟩) l c ⟨vk, vb, vt, vp, ks⟩ B cv w' → Calls Try.prog 19 #[.agg #[.slice (some ⟨ba, oa, none⟩) l.length c], .int .i64 na] w' (DPost w' (subL l q))) := fun w' h => by
                        rw [HQE.out]
                        exact IsD.rsub ⟨_, c, hc1, rfl, h.row⟩ HSP.out.sm hql
                      have HWSB := Lib.hid hws
                      have HCK : Hid (cntV (ks.at k) ≤ 100000) := by have h1 := cntVs_at ks k hlt; have h2 := HCN.out; unfold Hid cntV at *; simp only at *; omega
                      have HQL := Lib.hid hql
                      obtain ⟨gk, ok, Yk, ck, hBk, hel⟩ := VRow.el HV.out.s.kids hlt
                      have hBk : B = some ⟨gk, ok, none⟩ := hBk
                      have hel : ElS gk (ok + k * 5) (ks.at k) Yk ck wr := hel
                      have HEL := Lib.hid hel
                      have htk : (ws.take (k + 1)).flatten = (ws.take k).flatten ++ ws.getD k [] := by
                        rw [List.take_add_one, List.flatten_append, List.getD_eq_getElem?_getD, List.getElem?_eq_getElem (by have := HWL.out; omega)]
                        simp
                      have HTK := Lib.hid htk
                      have HFB := Lib.hid (HFL.out (k + 1))
                      rw [HTK.out, List.length_append] at HFB
                      generalize ws.getD k [] = wk at *
                      generalize (ws.take k).flatten = fl at *
                      clear hq hkk hwk hqt hws hel htk hql
                      generalize ks.at k = kv at *
                      obtain ⟨kk, kb, kt, kp, kks⟩ := kv
                      subst hBk
                      have hltz : (k : Int) < (ks.len : Int) := by omega
                      have hkb : (k : Int) ≤ 400 := by have h1 := cntVs_len ks; have h2 := HCN.out; unfold cntV at h2; simp only at h2; omega
                      go_upto_region 24 with (fail)
                      have HK0 : Hid (VkS w (some ⟨ba, oa, none⟩) l c ⟨vk, vb, vt, vp, ks⟩ (some ⟨gk, ok, none⟩) cv W (.slice A5 W.length c5) bn ⟨vk, na, nb, nlo, nhi, ncls, ntext⟩ wr wr) := ⟨Below.refl _ _, HV.out⟩
                      refine wp_region_stable (S := (VkS w (some ⟨ba, oa, none⟩) l c ⟨vk, vb, vt, vp, ks⟩ (some ⟨gk, ok, none⟩) cv W (.slice A5 W.length c5) bn ⟨vk, na, nb, nlo, nhi, ncls, ntext⟩ wr)) (hSt := fun _ _ h hb => h.later hb) (plan := [[(2, none)], [(15, none)], [(146, some 0), (147, some 1)], [(3, none)], [(149, some 3)], [(14, none)], [(150, some 4), (151, some 5)], [(152, some 6)], [(148, some 2), (153, some 7)], [(154, some 8)], [(145, some 9)], [(145, some 9)], [(155, some 10)], [(156, some 11)]]) (by kernel_rfl) (by kernel_rfl) (by kernel_rfl) ?hS ?_
                      rotate_left
                      iterate 2 first
                        | (refine chain_skip (by rfl) (by rfl) ?_)
                        | (apply chain_want (by rfl)
                           · intro act wx hS hr
                             simp at hr
                             have d0 := hS.v.s.box.cell 0
                             simp at d0
                             obtain ⟨b0, b1, b2, b3, b4⟩ := vl_cells hS.v.s.bv
                             obtain ⟨p0, p1, p2, p3, p4⟩ := (HEL.out.later hS.bel).five
                             have hkv := (HEL.out.later hS.bel).isV
                             go_simp
                             (try go_ints)
                             first
                               | (obtain ⟨x, hr1, sv, rfl, hx⟩ := hr; simp only [hr1, Option.getD_some]; go_simp; exact Done.same)
                               | exact Done.same
                          )
                      (refine chain_rel (IsD (subL l q)) (IsD.later _) (by rfl) ?_ ?_
                       · intro act wx hS hr
                         simp at hr
                         have d0 := hS.v.s.box.cell 0
                         simp at d0
                         obtain ⟨b0, b1, b2, b3, b4⟩ := vl_cells hS.v.s.bv
                         obtain ⟨p0, p1, p2, p3, p4⟩ := (HEL.out.later hS.bel).five
                         have hkv := (HEL.out.later hS.bel).isV
                         all_goals go_simp
                         ((with_reducible refine (HSU.out _ hS.v.s).mono ?_); intro e w' hp; obtain ⟨sv, rfl, ho, hb⟩ := hp; exact Done.rel hb ho.isD)
                      )
                      iterate 5 first
                        | (refine chain_skip (by rfl) (by rfl) ?_)
                        | (apply chain_want (by rfl)
                           · intro act wx hS hr
                             simp at hr
                             have d0 := hS.v.s.box.cell 0
                             simp at d0
                             obtain ⟨b0, b1, b2, b3, b4⟩ := vl_cells hS.v.s.bv
                             obtain ⟨p0, p1, p2, p3, p4⟩ := (HEL.out.later hS.bel).five
                             have hkv := (HEL.out.later hS.bel).isV
                             go_simp
                             (try go_ints)
                             first
                               | (obtain ⟨x, hr1, sv, rfl, hx⟩ := hr; simp only [hr1, Option.getD_some]; go_simp; exact Done.same)
                               | exact Done.same
                          )
                      (refine chain_rel (TupV (some wk)) (TupV.later _) (by rfl) ?_ ?_
                       · intro act wx hS hr
                         simp at hr
                         have d0 := hS.v.s.box.cell 0
                         simp at d0
                         obtain ⟨b0, b1, b2, b3, b4⟩ := vl_cells hS.v.s.bv
                         obtain ⟨p0, p1, p2, p3, p4⟩ := (HEL.out.later hS.bel).five
                         have hkv := (HEL.out.later hS.bel).isV
                         obtain ⟨⟨x, hr1, hx⟩, hr2⟩ := hr
                         all_goals go_simp
                         (refine (HWR.isD hx (HSP.out.sub HQL.out) (sub_tx HTL.out q) HCK.out hkv HWSB.out).mono ?_; rintro e w' ⟨x, rfl, hx, hb⟩; exact Done.rel hb hx)
                      )
                      (refine chain_rel (TupV (some wk)) (TupV.later _) (by rfl) ?_ ?_
                       · intro act wx hS hr
                         simp at hr
                         have d0 := hS.v.s.box.cell 0
                         simp at d0
                         obtain ⟨b0, b1, b2, b3, b4⟩ := vl_cells hS.v.s.bv
                         obtain ⟨p0, p1, p2, p3, p4⟩ := (HEL.out.later hS.bel).five
                         have hkv := (HEL.out.later hS.bel).isV
                         obtain ⟨x, hr1, hx⟩ := hr
                         all_goals go_simp
                         exact Done.rel (Below.refl _ _) hx
                      )
                      (refine chain_rel (IsWp wk) (IsWp.later _) (by rfl) ?_ ?_
                       · intro act wx hS hr
                         simp at hr
                         have d0 := hS.v.s.box.cell 0
                         simp at d0
                         obtain ⟨b0, b1, b2, b3, b4⟩ := vl_cells hS.v.s.bv
                         obtain ⟨p0, p1, p2, p3, p4⟩ := (HEL.out.later hS.bel).five
                         have hkv := (HEL.out.later hS.bel).isV
                         obtain ⟨x, hr1, sv, rfl, hx⟩ := hr
                         all_goals go_simp
                         exact Done.rel (Below.refl _ _) hx
                      )
                      iterate 1 first
                        | (refine chain_skip (by rfl) (by rfl) ?_)
                        | (apply chain_want (by rfl)
                           · intro act wx hS hr
                             simp at hr
                             have d0 := hS.v.s.box.cell 0
                             simp at d0
                             obtain ⟨b0, b1, b2, b3, b4⟩ := vl_cells hS.v.s.bv
                             obtain ⟨p0, p1, p2, p3, p4⟩ := (HEL.out.later hS.bel).five
                             have hkv := (HEL.out.later hS.bel).isV
                             go_simp
                             (try go_ints)
                             first
                               | (obtain ⟨x, hr1, sv, rfl, hx⟩ := hr; simp only [hr1, Option.getD_some]; go_simp; exact Done.same)
                               | exact Done.same
                          )
                      (refine chain_rel (IsWp wk) (IsWp.later _) (by rfl) ?_ ?_
                       · intro act wx hS hr
                         simp at hr
                         have d0 := hS.v.s.box.cell 0
                         simp at d0
                         obtain ⟨b0, b1, b2, b3, b4⟩ := vl_cells hS.v.s.bv
                         obtain ⟨p0, p1, p2, p3, p4⟩ := (HEL.out.later hS.bel).five
                         have hkv := (HEL.out.later hS.bel).isV
                         obtain ⟨x, hr1, hx⟩ := hr
                         all_goals go_simp
                         exact Done.rel (Below.refl _ _) hx
                      )
                      iterate 1 first
                        | (refine chain_skip (by rfl) (by rfl) ?_)
                        | (apply chain_want (by rfl)
                           · intro act wx hS hr
                             simp at hr
                             have d0 := hS.v.s.box.cell 0
                             simp at d0
                             obtain ⟨b0, b1, b2, b3, b4⟩ := vl_cells hS.v.s.bv
                             obtain ⟨p0, p1, p2, p3, p4⟩ := (HEL.out.later hS.bel).five
                             have hkv := (HEL.out.later hS.bel).isV
                             go_simp
                             (try go_ints)
                             first
                               | (obtain ⟨x, hr1, sv, rfl, hx⟩ := hr; simp only [hr1, Option.getD_some]; go_simp; exact Done.same)
                               | exact Done.same
                          )
                      show ∀ w', _ → _
                      intro w24 hz24
                      simp [Act.put]
                      case hS => exact HK0.out
                      intro p1 _ p2 _ p3 _ p4 _ p5 hp5
                      have hp5 : IsW wk p5 w24 := hp5
                      have HP5 := Lib.hid hp5
                      have HO24 := Lib.hid (HO.out.later hz24.bel)
                      have HBL24 := Lib.hid (HBL.out.trans (hz24.bel.mono HLO.out))
                      have HL24 : Hid (H ≤ w24.heap.size) := Nat.le_trans HLO.out hz24.bel.size
                      clear hz24 hp5 HK0 HV HO HEL HSU HBL
                      go_wp2_with (at_builtin; refine wpList_append_w rfl _ _ rfl H u13 fl rfl HO24.out wk p5 rfl HP5.out (by have := HFB.out; omega) HL24.out ?_; intro v6 w6 h1 h2; have HO6 := Lib.hid h1; have HB6 := Lib.hid ((Below.refl H _).grown h2 HL24.out (fun k hk => (World.ownsRow.lt HO24.out k hk).1)); clear h1 h2)
                      have HBL6 := Lib.hid (HBL24.out.trans HB6.out)
                      go_wp2
                      go_roundw
                      case rel => exact ⟨k + 1, by omega, by go_num, by rw [HTK.out]; exact HO6.out, HBL6.out⟩
                      case measure => simp [intOf]; omega
                  · skip
                    obtain rfl : k = ks.len := by omega
                    have hlast : ¬ ((ks.len : Nat) : Int) < (ks.len : Int) := by omega
                    have htk : ws.take ks.len = ws := List.take_of_length_le (by have := HWL.out; omega)
                    have hfb := HFL.out ks.len
                    rw [htk] at HO hfb
                    have HWL2 : Hid (W.length ≤ 10000000) := by
                      have h3 := wrV_len HTL.out _ _ _ HR.out
                      have h4 := HCN.out
                      have : (2000 + 2) * cntV ⟨vk, vb, vt, vp, ks⟩ ≤ (2000 + 2) * 400 := Nat.mul_le_mul_left _ h4
                      unfold Hid; omega
                    have hcp := HCAP.out
                    generalize ws.flatten = fl at *
                    obtain ⟨gA, gc, hgv, -⟩ := own8_form HO.out
                    have HXX := Lib.hid HV.out.x
                    have HBX := Lib.hid HV.out.s.bel
                    have HFW : Hid (IsW fl u13 wr) := own_isW HO.out (by omega)
                    unfold capW at hcp
                    simp only at hcp
                    rw [if_neg (by omega), if_neg (by omega)] at hcp
                    have HFBL := Lib.hid hfb
                    clear htk HO HCAP HFL HWL HKQ HWK
                    by_cases k8 : vk = 8
                    · rw [if_pos k8] at hcp
                      by_cases h255 : fl.length ≤ 255
                      · rw [if_pos h255] at hcp
                        have hW : byU fl.length :: fl = W := Option.some.inj hcp
                        have HW := Lib.hid hW
                        have z8 : (vk == 8) = true := by simp [k8]
                        have z9 : (vk == 9) = false := by rw [beq_eq_false_iff_ne]; omega
                        have hflz : (fl.length : Int) ≤ 255 := by omega
                        have HNB : Hid (Own8 (wr.alloc (.cells #[.int .u8 (fl.length : Int)] 5)) wr.heap.size (.slice (some ⟨wr.heap.size, 0, none⟩) 1 1) (nats [byU fl.length])) := own_new (w := wr) (W := [byU fl.length]) (cs := #[.int .u8 (fl.length : Int)]) (by
                          have hb : (byU fl.length).toNat = fl.length := by unfold byU; simp; omega
                          unfold bytesV nats; simp [hb]) (by simp)
                        have HAL : Hid (Below wr.heap.size wr (wr.alloc (.cells #[.int .u8 (fl.length : Int)] 5))) := (Below.refl _ _).alloc (Nat.le_refl _) _
                        clear hcp hW h255 k8
                        subst hgv
                        go_wp2_with (at_builtin; refine wpList_append_w rfl _ _ rfl wr.heap.size (.slice (some ⟨wr.heap.size, 0, none⟩) 1 1) [byU fl.length] rfl HNB.out fl (.slice gA fl.length gc) rfl (HFW.out.later HAL.out) (by simp only [List.length_cons, List.length_nil]; omega) HAL.out.size ?_; intro v6 w6 h1 h2; have HO6 := Lib.hid h1; have HB6 := Lib.hid (HAL.out.grown h2 HAL.out.size (fun k hk => (World.ownsRow.lt HNB.out k hk).1)); have HN6 := Lib.hid (HV.out.nd.later HB6.out); clear h1 h2 f0 f1 f2 f3 f4 f5 f6 f7 f8 f9; obtain ⟨f0, f1, f2, f3, f4, f5, f6, f7, f8, f9⟩ := ten_cells HN6.out)
                        have HWX : Hid (IsW W v6 w6) := by
                          have := own_isW HO6.out (by simp only [List.length_append, List.length_cons, List.length_nil]; omega)
                          rw [← HW.out]; exact this
                        have HXX := Lib.hid (HXX.out.later HB6.out)
                        have HBX := Lib.hid (HBX.out.trans (HB6.out.mono HBX.out.size))
                        obtain ⟨vA, vc, hv6, -⟩ := HWX.out.len
                        subst hv6
                        have CB : Hid (Calls Try.prog 13 #[(.slice vA W.length vc), .slice A5 W.length c5] w6 (Ans w6 (.bool true))) := by
                          have := bytes_rowV (nats W) (nats W) (.slice vA W.length vc) (.slice A5 W.length c5) w6 HWX.out.bytes HXX.out.bytes (by rw [nats_length]; have := HWL2.out; omega) (by rw [nats_length]; have := HWL2.out; omega)
                          rwa [show (nats W == nats W) = true by simp] at this
                        go_wp2_with fail
                        refine CB.out.mono ?_; rintro e wy ⟨rfl, hb⟩
                        have HBY := Lib.hid (HBX.out.trans (hb.mono HBX.out.size))
                        clear hb CB
                        go_wp2
                        go_ret
                        exact ⟨rfl, HBY.out⟩
                      · rw [if_neg h255] at hcp; cases hcp
                    · rw [if_neg k8] at hcp
                      have z8 : (vk == 8) = false := by rw [beq_eq_false_iff_ne]; exact k8
                      by_cases k9 : vk = 9
                      · rw [if_pos k9] at hcp
                        by_cases h65 : fl.length ≤ 65535
                        · rw [if_pos h65] at hcp
                          have hW : byU (fl.length / 256) :: byU (fl.length % 256) :: fl = W := Option.some.inj hcp
                          have HW := Lib.hid hW
                          have z9 : (vk == 9) = true := by simp [k9]
                          have hq1 : 0 ≤ (fl.length : Int) / 256 := by omega
                          have hq2 : (fl.length : Int) / 256 ≤ 255 := by omega
                          have hq3 : 0 ≤ (fl.length : Int) % 256 := by omega
                          have hq4 : (fl.length : Int) % 256 ≤ 255 := by omega
                          have hq5 : Int.tdiv (fl.length : Int) 256 = (fl.length : Int) / 256 := Int.tdiv_eq_ediv_of_nonneg (by omega)
                          have hq6 : Int.tmod (fl.length : Int) 256 = (fl.length : Int) % 256 := Int.tmod_eq_emod_of_nonneg (by omega)
                          have HNB : Hid (Own8 (wr.alloc (.cells #[.int .u8 ((fl.length : Int) / 256), .int .u8 ((fl.length : Int) % 256)] 5)) wr.heap.size (.slice (some ⟨wr.heap.size, 0, none⟩) 2 2) (nats [byU (fl.length / 256), byU (fl.length % 256)])) := own_new (w := wr) (W := [byU (fl.length / 256), byU (fl.length % 256)]) (cs := #[.int .u8 ((fl.length : Int) / 256), .int .u8 ((fl.length : Int) % 256)]) (by
                            have hb1 : (((byU (fl.length / 256)).toNat : Nat) : Int) = (fl.length : Int) / 256 := by unfold byU; simp; omega
                            have hb2 : (((byU (fl.length % 256)).toNat : Nat) : Int) = (fl.length : Int) % 256 := by unfold byU; simp
                            unfold bytesV nats; simp [hb1, hb2]) (by simp)
                          have HAL : Hid (Below wr.heap.size wr (wr.alloc (.cells #[.int .u8 ((fl.length : Int) / 256), .int .u8 ((fl.length : Int) % 256)] 5))) := (Below.refl _ _).alloc (Nat.le_refl _) _
                          clear hcp hW h65 k9 k8
                          subst hgv
                          go_wp2_with (at_builtin; refine wpList_append_w rfl _ _ rfl wr.heap.size (.slice (some ⟨wr.heap.size, 0, none⟩) 2 2) [byU (fl.length / 256), byU (fl.length % 256)] rfl HNB.out fl (.slice gA fl.length gc) rfl (HFW.out.later HAL.out) (by simp only [List.length_cons, List.length_nil]; omega) HAL.out.size ?_; intro v6 w6 h1 h2; have HO6 := Lib.hid h1; have HB6 := Lib.hid (HAL.out.grown h2 HAL.out.size (fun k hk => (World.ownsRow.lt HNB.out k hk).1)); clear h1 h2)
                          have HWX : Hid (IsW W v6 w6) := by
                            have := own_isW HO6.out (by simp only [List.length_append, List.length_cons, List.length_nil]; omega)
                            rw [← HW.out]; exact this
                          have HXX := Lib.hid (HXX.out.later HB6.out)
                          have HBX := Lib.hid (HBX.out.trans (HB6.out.mono HBX.out.size))
                          obtain ⟨vA, vc, hv6, -⟩ := HWX.out.len
                          subst hv6
                          have CB : Hid (Calls Try.prog 13 #[(.slice vA W.length vc), .slice A5 W.length c5] w6 (Ans w6 (.bool true))) := by
                            have := bytes_rowV (nats W) (nats W) (.slice vA W.length vc) (.slice A5 W.length c5) w6 HWX.out.bytes HXX.out.bytes (by rw [nats_length]; have := HWL2.out; omega) (by rw [nats_length]; have := HWL2.out; omega)
                            rwa [show (nats W == nats W) = true by simp] at this
                          go_wp2_with fail
                          refine CB.out.mono ?_; rintro e wy ⟨rfl, hb⟩
                          have HBY := Lib.hid (HBX.out.trans (hb.mono HBX.out.size))
                          clear hb CB
                          go_wp2
                          go_ret
                          exact ⟨rfl, HBY.out⟩
                        · rw [if_neg h65] at hcp; cases hcp
                      · rw [if_neg k9] at hcp
                        have hW : fl = W := Option.some.inj hcp
                        have z9 : (vk == 9) = false := by rw [beq_eq_false_iff_ne]; exact k9
                        have HWX : Hid (IsW W u13 wr) := by unfold Hid; rw [← hW]; exact HFW.out
                        obtain ⟨vA, vc, hv6, -⟩ := HWX.out.len
                        clear hcp k8 k9 hgv hW HFW HFBL
                        subst hv6
                        have CB : Hid (Calls Try.prog 13 #[(.slice vA W.length vc), .slice A5 W.length c5] wr (Ans wr (.bool true))) := by
                          have := bytes_rowV (nats W) (nats W) (.slice vA W.length vc) (.slice A5 W.length c5) wr HWX.out.bytes HXX.out.bytes (by rw [nats_length]; have := HWL2.out; omega) (by rw [nats_length]; have := HWL2.out; omega)
                          rwa [show (nats W == nats W) = true by simp] at this
                        go_wp2_with fail
                        refine CB.out.mono ?_; rintro e wy ⟨rfl, hb⟩
                        have HBY := Lib.hid (HBX.out.trans (hb.mono HBX.out.size))
                        clear hb CB
                        go_wp2
                        go_ret
                        exact ⟨rfl, HBY.out⟩
            · have z5 : (vk != 5) = true := by simp [k5]
              have hrk := HPK.out k5
              subst hrk
              go_wp2_with fail
              refine (CT.out _ HS11.out).mono ?_; rintro e w12 ⟨rfl, hb⟩
              have HS12 := Lib.hid (HS11.out.later hb)
              have HX12 := Lib.hid (HX11.out.later hb)
              clear hb CT HS11 HX11 HXs d0 b0 b1 b2 b3 b4 x0 x1 x2 x3 x4
              have d0 := HS12.out.box.cell 0
              simp at d0
              obtain ⟨b0, b1, b2, b3, b4⟩ := vl_cells HS12.out.bv
              go_upto_region 14 with (fail)
              obtain ⟨g0, g1, g2, g3, g4, g5, g6, g7, g8, g9⟩ := HTN.out _ HS12.out
              simp only at g0 g1 g2 g3 g4 g5 g6 g7 g8 g9
              go_upto_region 15 with (fail)
              have hb14 := (Below.refl w12.heap.size w12).alloc (Nat.le_refl _) (.cells #[.int .i64 vk, .int .i64 na, .int .i64 nb, .int .i64 nlo, .int .i64 nhi, .int .u64 (wd ncls 0), .int .u64 (wd ncls 1), .int .u64 (wd ncls 2), .int .u64 (wd ncls 3), .string (bs ntext)] 44)
              have HV14 : Hid (VnS w (some ⟨ba, oa, none⟩) l c ⟨vk, vb, vt, vp, ks⟩ B cv W (.slice A5 W.length c5) w12.heap.size ⟨vk, na, nb, nlo, nhi, ncls, ntext⟩ (w12.alloc (.cells #[.int .i64 vk, .int .i64 na, .int .i64 nb, .int .i64 nlo, .int .i64 nhi, .int .u64 (wd ncls 0), .int .u64 (wd ncls 1), .int .u64 (wd ncls 2), .int .u64 (wd ncls 3), .string (bs ntext)] 44))) := ⟨HS12.out.later hb14, HX12.out.later hb14, Blk.new _ _ _⟩
              clear hb14 HS12 HX12 g0 g1 g2 g3 g4 g5 g6 g7 g8 g9 d0 b0 b1 b2 b3 b4
              generalize w12.alloc (.cells #[.int .i64 vk, .int .i64 na, .int .i64 nb, .int .i64 nlo, .int .i64 nhi, .int .u64 (wd ncls 0), .int .u64 (wd ncls 1), .int .u64 (wd ncls 2), .int .u64 (wd ncls 3), .string (bs ntext)] 44) = w14 at *
              generalize w12.heap.size = bn at *
              have HZ14 := Lib.hid HV14.out.s
              have d0 := HZ14.out.box.cell 0
              simp at d0
              obtain ⟨b0, b1, b2, b3, b4⟩ := vl_cells HZ14.out.bv
              obtain ⟨f0, f1, f2, f3, f4, f5, f6, f7, f8, f9⟩ := ten_cells HV14.out.nd
              by_cases k4 : vk < 4
              · have z4 : decide (vk < 4) = true := decide_eq_true k4
                have hk0 : ks.len = 0 := hleaf (by omega)
                have hkz : (((ks.len : Nat) : Int) == 0) = true := by rw [hk0]; rfl
                have HB14 := Lib.hid HV14.out.s.bel
                clear hk0 hleaf
                go_wp2
                go_ret
                exact ⟨rfl, HB14.out⟩
              · have z4 : decide (vk < 4) = false := decide_eq_false k4
                have HFL : Hid (∀ k, (ws.take k).flatten.length ≤ 1000000) := fun k => by
                  have h1 : (ws.take k).flatten.length ≤ ws.flatten.length := by
                    conv => rhs; rw [← List.take_append_drop k ws, List.flatten_append, List.length_append]
                    omega
                  have h2 : ws.flatten.length ≤ W.length := by
                    have := HCAP.out
                    unfold capW at this
                    simp only at this
                    rw [if_neg (by omega), if_neg (by omega)] at this
                    split at this
                    · split at this
                      · injection this with this; rw [← this]; simp
                      · cases this
                    · split at this
                      · split at this
                        · injection this with this; rw [← this]; simp; omega
                        · cases this
                      · injection this with this; rw [this]; exact Nat.le_refl _
                  have h3 := wrV_len HTL.out _ _ _ HR.out
                  have h4 := HCN.out
                  have : (2000 + 2) * cntV ⟨vk, vb, vt, vp, ks⟩ ≤ (2000 + 2) * 400 := Nat.mul_le_mul_left _ h4
                  omega
                have HKQ : Hid (∀ k, k < ks.len → ∃ q : Nat, kidN ⟨vk, na, nb, nlo, nhi, ncls, ntext⟩ vp k = (q : Int) ∧ q < l.length) := fun k hk => by
                  have ho9 := HFM.out.2.1 (l.length - 1) (by omega)
                  rw [← HN.out] at ho9
                  have hn := HN.out.symm
                  cases ho9.cs hn with
                  | leaf hk9 hf => unfold leafK at hk9; simp only at hk9; omega
                  | one hk9 hi0 ha hb h7 hr hcl hf =>
                    simp only at hk9 ha
                    exact ⟨na.toNat, by unfold kidN; rw [if_neg (by simp only; omega)]; simp only; omega, by omega⟩
                  | two hk9 hi0 hb ha hf0 hl hcl hf =>
                    simp only at hk9 ha hb
                    have hle := firstP_le l (l.length - 1 - 1)
                    unfold kidN
                    split
                    · exact ⟨nb.toNat, by simp only; omega, by omega⟩
                    · exact ⟨na.toNat, by simp only; omega, by omega⟩
                have HI0 : Hid (ViL w14 w14.heap.size ks.len ws (.slice none 0 0) (.int .i64 ((0 : Nat) : Int)) w14) := ⟨0, Nat.zero_le _, rfl, Own8.nil _ _, Below.refl _ _⟩
                obtain ⟨H, hH⟩ : ∃ H, H = w14.heap.size := ⟨_, rfl⟩
                rw [← hH] at HI0
                have HH := Lib.hid hH
                clear hH HZ14
                go_upto_region 17 with (fail)
                clear d0 b0 b1 b2 b3 b4 f0 f1 f2 f3 f4 f5 f6 f7 f8 f9
                go_wp2
                go_loopw [13, 14] (ViL w14 H ks.len ws) (fun _ x _ => ks.len - (intOf x).toNat)
                case atStart => exact HI0.out
                case round =>
                  obtain ⟨k, hk, rfl, hown, hbel⟩ := hrel
                  have HO := Lib.hid hown
                  have HBL := Lib.hid hbel
                  have HLO : Hid (H ≤ wr.heap.size) := by unfold Hid; rw [HH.out]; exact hbel.size
                  have hbw : Below w14.heap.size w14 wr := by rw [← HH.out]; exact hbel
                  have HV := Lib.hid (HV14.out.later hbw)
                  clear hown hbel hbw HI0
                  try simp only at hk
                  have HZV := Lib.hid HV.out.s
                  have d0 := HZV.out.box.cell 0
                  simp at d0
                  obtain ⟨b0, b1, b2, b3, b4⟩ := vl_cells HZV.out.bv
                  obtain ⟨f0, f1, f2, f3, f4, f5, f6, f7, f8, f9⟩ := ten_cells HV.out.nd
                  by_cases hlt : k < ks.len
                  · by_cases kq : vk = 4 ∧ k = 1
                    · have y4 : (vk == 4) = true := by simp [kq.1]
                      have y1 : ((k : Int) == 1) = true := by simp [kq.2]
                      have hif : (vk = 4 ∧ k = 1 ∨ vk = 5 ∧ vp = 1) := .inl kq
                      clear kq
                      obtain ⟨q, hq, hql⟩ := HKQ.out k hlt
                      have hkk : kidN ⟨vk, na, nb, nlo, nhi, ncls, ntext⟩ vp k = nb := by unfold kidN; rw [if_pos hif]
                      clear hif
                      have hwk := HWK.out k hlt
                      rw [hkk] at hq hwk
                      have HQE := Lib.hid hq
                      rw [hq] at hwk
                      have hqt : ((q : Int)).toNat = q := rfl
                      rw [hqt] at hwk
                      have hws := wr_sub hql (HFM.out.okTo hql) (ks.at k)
                      rw [hwk] at hws
                      have HSU : Hid (∀ w', WvS w (some ⟨ba, oa, none⟩) l c ⟨vk, vb, vt, vp, ks⟩ B cv w' → Calls Try.prog 19 #[.agg #[.slice (some ⟨ba, oa, none⟩) l.length c], .int .i64 nb] w' (DPost w' (subL l q))) := fun w' h => by
                        rw [HQE.out]
                        exact IsD.rsub ⟨_, c, hc1, rfl, h.row⟩ HSP.out.sm hql
                      have HWSB := Lib.hid hws
                      have HCK : Hid (cntV (ks.at k) ≤ 100000) := by have h1 := cntVs_at ks k hlt; have h2 := HCN.out; unfold Hid cntV at *; simp only at *; omega
                      have HQL := Lib.hid hql
                      obtain ⟨gk, ok, Yk, ck, hBk, hel⟩ := VRow.el HV.out.s.kids hlt
                      have hBk : B = some ⟨gk, ok, none⟩ := hBk
                      have hel : ElS gk (ok + k * 5) (ks.at k) Yk ck wr := hel
                      have HEL := Lib.hid hel
                      have htk : (ws.take (k + 1)).flatten = (ws.take k).flatten ++ ws.getD k [] := by
                        rw [List.take_add_one, List.flatten_append, List.getD_eq_getElem?_getD, List.getElem?_eq_getElem (by have := HWL.out; omega)]
                        simp
                      have HTK := Lib.hid htk
                      have HFB := Lib.hid (HFL.out (k + 1))
                      rw [HTK.out, List.length_append] at HFB
                      generalize ws.getD k [] = wk at *
                      generalize (ws.take k).flatten = fl at *
                      clear hq hkk hwk hqt hws hel htk hql
                      generalize ks.at k = kv at *
                      obtain ⟨kk, kb, kt, kp, kks⟩ := kv
                      subst hBk
                      have hltz : (k : Int) < (ks.len : Int) := by omega
                      have hkb : (k : Int) ≤ 400 := by have h1 := cntVs_len ks; have h2 := HCN.out; unfold cntV at h2; simp only at h2; omega
                      go_upto_region 24 with (fail)
                      have HK0 : Hid (VkS w (some ⟨ba, oa, none⟩) l c ⟨vk, vb, vt, vp, ks⟩ (some ⟨gk, ok, none⟩) cv W (.slice A5 W.length c5) bn ⟨vk, na, nb, nlo, nhi, ncls, ntext⟩ wr wr) := ⟨Below.refl _ _, HV.out⟩
                      refine wp_region_stable (S := (VkS w (some ⟨ba, oa, none⟩) l c ⟨vk, vb, vt, vp, ks⟩ (some ⟨gk, ok, none⟩) cv W (.slice A5 W.length c5) bn ⟨vk, na, nb, nlo, nhi, ncls, ntext⟩ wr)) (hSt := fun _ _ h hb => h.later hb) (plan := [[(2, none)], [(15, none)], [(146, some 0), (147, some 1)], [(3, none)], [(149, some 3)], [(14, none)], [(150, some 4), (151, some 5)], [(152, some 6)], [(148, some 2), (153, some 7)], [(154, some 8)], [(145, some 9)], [(145, some 9)], [(155, some 10)], [(156, some 11)]]) (by kernel_rfl) (by kernel_rfl) (by kernel_rfl) ?hS ?_
                      rotate_left
                      iterate 2 first
                        | (refine chain_skip (by rfl) (by rfl) ?_)
                        | (apply chain_want (by rfl)
                           · intro act wx hS hr
                             simp at hr
                             have d0 := hS.v.s.box.cell 0
                             simp at d0
                             obtain ⟨b0, b1, b2, b3, b4⟩ := vl_cells hS.v.s.bv
                             obtain ⟨p0, p1, p2, p3, p4⟩ := (HEL.out.later hS.bel).five
                             have hkv := (HEL.out.later hS.bel).isV
                             go_simp
                             (try go_ints)
                             first
                               | (obtain ⟨x, hr1, sv, rfl, hx⟩ := hr; simp only [hr1, Option.getD_some]; go_simp; exact Done.same)
                               | exact Done.same
                          )
                      (refine chain_rel (IsD (subL l q)) (IsD.later _) (by rfl) ?_ ?_
                       · intro act wx hS hr
                         simp at hr
                         have d0 := hS.v.s.box.cell 0
                         simp at d0
                         obtain ⟨b0, b1, b2, b3, b4⟩ := vl_cells hS.v.s.bv
                         obtain ⟨p0, p1, p2, p3, p4⟩ := (HEL.out.later hS.bel).five
                         have hkv := (HEL.out.later hS.bel).isV
                         all_goals go_simp
                         ((with_reducible refine (HSU.out _ hS.v.s).mono ?_); intro e w' hp; obtain ⟨sv, rfl, ho, hb⟩ := hp; exact Done.rel hb ho.isD)
                      )
                      iterate 5 first
                        | (refine chain_skip (by rfl) (by rfl) ?_)
                        | (apply chain_want (by rfl)
                           · intro act wx hS hr
                             simp at hr
                             have d0 := hS.v.s.box.cell 0
                             simp at d0
                             obtain ⟨b0, b1, b2, b3, b4⟩ := vl_cells hS.v.s.bv
                             obtain ⟨p0, p1, p2, p3, p4⟩ := (HEL.out.later hS.bel).five
                             have hkv := (HEL.out.later hS.bel).isV
                             go_simp
                             (try go_ints)
                             first
                               | (obtain ⟨x, hr1, sv, rfl, hx⟩ := hr; simp only [hr1, Option.getD_some]; go_simp; exact Done.same)
                               | exact Done.same
                          )
                      (refine chain_rel (TupV (some wk)) (TupV.later _) (by rfl) ?_ ?_
                       · intro act wx hS hr
                         simp at hr
                         have d0 := hS.v.s.box.cell 0
                         simp at d0
                         obtain ⟨b0, b1, b2, b3, b4⟩ := vl_cells hS.v.s.bv
                         obtain ⟨p0, p1, p2, p3, p4⟩ := (HEL.out.later hS.bel).five
                         have hkv := (HEL.out.later hS.bel).isV
                         obtain ⟨⟨x, hr1, hx⟩, hr2⟩ := hr
                         all_goals go_simp
                         (refine (HWR.isD hx (HSP.out.sub HQL.out) (sub_tx HTL.out q) HCK.out hkv HWSB.out).mono ?_; rintro e w' ⟨x, rfl, hx, hb⟩; exact Done.rel hb hx)
                      )
                      (refine chain_rel (TupV (some wk)) (TupV.later _) (by rfl) ?_ ?_
                       · intro act wx hS hr
                         simp at hr
                         have d0 := hS.v.s.box.cell 0
                         simp at d0
                         obtain ⟨b0, b1, b2, b3, b4⟩ := vl_cells hS.v.s.bv
                         obtain ⟨p0, p1, p2, p3, p4⟩ := (HEL.out.later hS.bel).five
                         have hkv := (HEL.out.later hS.bel).isV
                         obtain ⟨x, hr1, hx⟩ := hr
                         all_goals go_simp
                         exact Done.rel (Below.refl _ _) hx
                      )
                      (refine chain_rel (IsWp wk) (IsWp.later _) (by rfl) ?_ ?_
                       · intro act wx hS hr
                         simp at hr
                         have d0 := hS.v.s.box.cell 0
                         simp at d0
                         obtain ⟨b0, b1, b2, b3, b4⟩ := vl_cells hS.v.s.bv
                         obtain ⟨p0, p1, p2, p3, p4⟩ := (HEL.out.later hS.bel).five
                         have hkv := (HEL.out.later hS.bel).isV
                         obtain ⟨x, hr1, sv, rfl, hx⟩ := hr
                         all_goals go_simp
                         exact Done.rel (Below.refl _ _) hx
                      )
                      iterate 1 first
                        | (refine chain_skip (by rfl) (by rfl) ?_)
                        | (apply chain_want (by rfl)
                           · intro act wx hS hr
                             simp at hr
                             have d0 := hS.v.s.box.cell 0
                             simp at d0
                             obtain ⟨b0, b1, b2, b3, b4⟩ := vl_cells hS.v.s.bv
                             obtain ⟨p0, p1, p2, p3, p4⟩ := (HEL.out.later hS.bel).five
                             have hkv := (HEL.out.later hS.bel).isV
                             go_simp
                             (try go_ints)
                             first
                               | (obtain ⟨x, hr1, sv, rfl, hx⟩ := hr; simp only [hr1, Option.getD_some]; go_simp; exact Done.same)
                               | exact Done.same
                          )
                      (refine chain_rel (IsWp wk) (IsWp.later _) (by rfl) ?_ ?_
                       · intro act wx hS hr
                         simp at hr
                         have d0 := hS.v.s.box.cell 0
                         simp at d0
                         obtain ⟨b0, b1, b2, b3, b4⟩ := vl_cells hS.v.s.bv
                         obtain ⟨p0, p1, p2, p3, p4⟩ := (HEL.out.later hS.bel).five
                         have hkv := (HEL.out.later hS.bel).isV
                         obtain ⟨x, hr1, hx⟩ := hr
                         all_goals go_simp
                         exact Done.rel (Below.refl _ _) hx
                      )
                      iterate 1 first
                        | (refine chain_skip (by rfl) (by rfl) ?_)
                        | (apply chain_want (by rfl)
                           · intro act wx hS hr
                             simp at hr
                             have d0 := hS.v.s.box.cell 0
                             simp at d0
                             obtain ⟨b0, b1, b2, b3, b4⟩ := vl_cells hS.v.s.bv
                             obtain ⟨p0, p1, p2, p3, p4⟩ := (HEL.out.later hS.bel).five
                             have hkv := (HEL.out.later hS.bel).isV
                             go_simp
                             (try go_ints)
                             first
                               | (obtain ⟨x, hr1, sv, rfl, hx⟩ := hr; simp only [hr1, Option.getD_some]; go_simp; exact Done.same)
                               | exact Done.same
                          )
                      show ∀ w', _ → _
                      intro w24 hz24
                      simp [Act.put]
                      case hS => exact HK0.out
                      intro p1 _ p2 _ p3 _ p4 _ p5 hp5
                      have hp5 : IsW wk p5 w24 := hp5
                      have HP5 := Lib.hid hp5
                      have HO24 := Lib.hid (HO.out.later hz24.bel)
                      have HBL24 := Lib.hid (HBL.out.trans (hz24.bel.mono HLO.out))
                      have HL24 : Hid (H ≤ w24.heap.size) := Nat.le_trans HLO.out hz24.bel.size
                      clear hz24 hp5 HK0 HV HO HEL HSU HBL
                      go_wp2_with (at_builtin; refine wpList_append_w rfl _ _ rfl H u13 fl rfl HO24.out wk p5 rfl HP5.out (by have := HFB.out; omega) HL24.out ?_; intro v6 w6 h1 h2; have HO6 := Lib.hid h1; have HB6 := Lib.hid ((Below.refl H _).grown h2 HL24.out (fun k hk => (World.ownsRow.lt HO24.out k hk).1)); clear h1 h2)
                      have HBL6 := Lib.hid (HBL24.out.trans HB6.out)
                      go_wp2
                      go_roundw
                      case rel => exact ⟨k + 1, by omega, by go_num, by rw [HTK.out]; exact HO6.out, HBL6.out⟩
                      case measure => simp [intOf]; omega
                    · have y5 : (vk == 5) = false := by rw [beq_eq_false_iff_ne]; exact k5
                      have hif : ¬ (vk = 4 ∧ k = 1 ∨ vk = 5 ∧ vp = 1) := by omega
                      by_cases kr : vk = 4
                      · have y4 : (vk == 4) = true := by simp [kr]
                        have y1 : ((k : Int) == 1) = false := by rw [beq_eq_false_iff_ne]; omega
                        clear kr kq
                        obtain ⟨q, hq, hql⟩ := HKQ.out k hlt
                        have hkk : kidN ⟨vk, na, nb, nlo, nhi, ncls, ntext⟩ vp k = na := by unfold kidN; rw [if_neg hif]
                        clear hif
                        have hwk := HWK.out k hlt
                        rw [hkk] at hq hwk
                        have HQE := Lib.hid hq
                        rw [hq] at hwk
                        have hqt : ((q : Int)).toNat = q := rfl
                        rw [hqt] at hwk
                        have hws := wr_sub hql (HFM.out.okTo hql) (ks.at k)
                        rw [hwk] at hws
                        have HSU : Hid (∀ w', WvS w (some ⟨ba, oa, none⟩) l c ⟨vk, vb, vt, vp, ks⟩ B cv w' → Calls Try.prog 19 #[.agg #[.slice (some ⟨ba, oa, none⟩) l.length c], .int .i64 na] w' (DPost w' (subL l q))) := fun w' h => by
                          rw [HQE.out]
                          exact IsD.rsub ⟨_, c, hc1, rfl, h.row⟩ HSP.out.sm hql
                        have HWSB := Lib.hid hws
                        have HCK : Hid (cntV (ks.at k) ≤ 100000) := by have h1 := cntVs_at ks k hlt; have h2 := HCN.out; unfold Hid cntV at *; simp only at *; omega
                        have HQL := Lib.hid hql
                        obtain ⟨gk, ok, Yk, ck, hBk, hel⟩ := VRow.el HV.out.s.kids hlt
                        have hBk : B = some ⟨gk, ok, none⟩ := hBk
                        have hel : ElS gk (ok + k * 5) (ks.at k) Yk ck wr := hel
                        have HEL := Lib.hid hel
                        have htk : (ws.take (k + 1)).flatten = (ws.take k).flatten ++ ws.getD k [] := by
                          rw [List.take_add_one, List.flatten_append, List.getD_eq_getElem?_getD, List.getElem?_eq_getElem (by have := HWL.out; omega)]
                          simp
                        have HTK := Lib.hid htk
                        have HFB := Lib.hid (HFL.out (k + 1))
                        rw [HTK.out, List.length_append] at HFB
                        generalize ws.getD k [] = wk at *
                        generalize (ws.take k).flatten = fl at *
                        clear hq hkk hwk hqt hws hel htk hql
                        generalize ks.at k = kv at *
                        obtain ⟨kk, kb, kt, kp, kks⟩ := kv
                        subst hBk
                        have hltz : (k : Int) < (ks.len : Int) := by omega
                        have hkb : (k : Int) ≤ 400 := by have h1 := cntVs_len ks; have h2 := HCN.out; unfold cntV at h2; simp only at h2; omega
                        go_upto_region 24 with (fail)
                        have HK0 : Hid (VkS w (some ⟨ba, oa, none⟩) l c ⟨vk, vb, vt, vp, ks⟩ (some ⟨gk, ok, none⟩) cv W (.slice A5 W.length c5) bn ⟨vk, na, nb, nlo, nhi, ncls, ntext⟩ wr wr) := ⟨Below.refl _ _, HV.out⟩
                        refine wp_region_stable (S := (VkS w (some ⟨ba, oa, none⟩) l c ⟨vk, vb, vt, vp, ks⟩ (some ⟨gk, ok, none⟩) cv W (.slice A5 W.length c5) bn ⟨vk, na, nb, nlo, nhi, ncls, ntext⟩ wr)) (hSt := fun _ _ h hb => h.later hb) (plan := [[(2, none)], [(15, none)], [(146, some 0), (147, some 1)], [(3, none)], [(149, some 3)], [(14, none)], [(150, some 4), (151, some 5)], [(152, some 6)], [(148, some 2), (153, some 7)], [(154, some 8)], [(145, some 9)], [(145, some 9)], [(155, some 10)], [(156, some 11)]]) (by kernel_rfl) (by kernel_rfl) (by kernel_rfl) ?hS ?_
                        rotate_left
                        iterate 2 first
                          | (refine chain_skip (by rfl) (by rfl) ?_)
                          | (apply chain_want (by rfl)
                             · intro act wx hS hr
                               simp at hr
                               have d0 := hS.v.s.box.cell 0
                               simp at d0
                               obtain ⟨b0, b1, b2, b3, b4⟩ := vl_cells hS.v.s.bv
                               obtain ⟨p0, p1, p2, p3, p4⟩ := (HEL.out.later hS.bel).five
                               have hkv := (HEL.out.later hS.bel).isV
                               go_simp
                               (try go_ints)
                               first
                                 | (obtain ⟨x, hr1, sv, rfl, hx⟩ := hr; simp only [hr1, Option.getD_some]; go_simp; exact Done.same)
                                 | exact Done.same
                            )
                        (refine chain_rel (IsD (subL l q)) (IsD.later _) (by rfl) ?_ ?_
                         · intro act wx hS hr
                           simp at hr
                           have d0 := hS.v.s.box.cell 0
                           simp at d0
                           obtain ⟨b0, b1, b2, b3, b4⟩ := vl_cells hS.v.s.bv
                           obtain ⟨p0, p1, p2, p3, p4⟩ := (HEL.out.later hS.bel).five
                           have hkv := (HEL.out.later hS.bel).isV
                           all_goals go_simp
                           ((with_reducible refine (HSU.out _ hS.v.s).mono ?_); intro e w' hp; obtain ⟨sv, rfl, ho, hb⟩ := hp; exact Done.rel hb ho.isD)
                        )
                        iterate 5 first
                          | (refine chain_skip (by rfl) (by rfl) ?_)
                          | (apply chain_want (by rfl)
                             · intro act wx hS hr
                               simp at hr
                               have d0 := hS.v.s.box.cell 0
                               simp at d0
                               obtain ⟨b0, b1, b2, b3, b4⟩ := vl_cells hS.v.s.bv
                               obtain ⟨p0, p1, p2, p3, p4⟩ := (HEL.out.later hS.bel).five
                               have hkv := (HEL.out.later hS.bel).isV
                               go_simp
                               (try go_ints)
                               first
                                 | (obtain ⟨x, hr1, sv, rfl, hx⟩ := hr; simp only [hr1, Option.getD_some]; go_simp; exact Done.same)
                                 | exact Done.same
                            )
                        (refine chain_rel (TupV (some wk)) (TupV.later _) (by rfl) ?_ ?_
                         · intro act wx hS hr
                           simp at hr
                           have d0 := hS.v.s.box.cell 0
                           simp at d0
                           obtain ⟨b0, b1, b2, b3, b4⟩ := vl_cells hS.v.s.bv
                           obtain ⟨p0, p1, p2, p3, p4⟩ := (HEL.out.later hS.bel).five
                           have hkv := (HEL.out.later hS.bel).isV
                           obtain ⟨⟨x, hr1, hx⟩, hr2⟩ := hr
                           all_goals go_simp
                           (refine (HWR.isD hx (HSP.out.sub HQL.out) (sub_tx HTL.out q) HCK.out hkv HWSB.out).mono ?_; rintro e w' ⟨x, rfl, hx, hb⟩; exact Done.rel hb hx)
                        )
                        (refine chain_rel (TupV (some wk)) (TupV.later _) (by rfl) ?_ ?_
                         · intro act wx hS hr
                           simp at hr
                           have d0 := hS.v.s.box.cell 0
                           simp at d0
                           obtain ⟨b0, b1, b2, b3, b4⟩ := vl_cells hS.v.s.bv
                           obtain ⟨p0, p1, p2, p3, p4⟩ := (HEL.out.later hS.bel).five
                           have hkv := (HEL.out.later hS.bel).isV
                           obtain ⟨x, hr1, hx⟩ := hr
                           all_goals go_simp
                           exact Done.rel (Below.refl _ _) hx
                        )
                        (refine chain_rel (IsWp wk) (IsWp.later _) (by rfl) ?_ ?_
                         · intro act wx hS hr
                           simp at hr
                           have d0 := hS.v.s.box.cell 0
                           simp at d0
                           obtain ⟨b0, b1, b2, b3, b4⟩ := vl_cells hS.v.s.bv
                           obtain ⟨p0, p1, p2, p3, p4⟩ := (HEL.out.later hS.bel).five
                           have hkv := (HEL.out.later hS.bel).isV
                           obtain ⟨x, hr1, sv, rfl, hx⟩ := hr
                           all_goals go_simp
                           exact Done.rel (Below.refl _ _) hx
                        )
                        iterate 1 first
                          | (refine chain_skip (by rfl) (by rfl) ?_)
                          | (apply chain_want (by rfl)
                             · intro act wx hS hr
                               simp at hr
                               have d0 := hS.v.s.box.cell 0
                               simp at d0
                               obtain ⟨b0, b1, b2, b3, b4⟩ := vl_cells hS.v.s.bv
                               obtain ⟨p0, p1, p2, p3, p4⟩ := (HEL.out.later hS.bel).five
                               have hkv := (HEL.out.later hS.bel).isV
                               go_simp
                               (try go_ints)
                               first
                                 | (obtain ⟨x, hr1, sv, rfl, hx⟩ := hr; simp only [hr1, Option.getD_some]; go_simp; exact Done.same)
                                 | exact Done.same
                            )
                        (refine chain_rel (IsWp wk) (IsWp.later _) (by rfl) ?_ ?_
                         · intro act wx hS hr
                           simp at hr
                           have d0 := hS.v.s.box.cell 0
                           simp at d0
                           obtain ⟨b0, b1, b2, b3, b4⟩ := vl_cells hS.v.s.bv
                           obtain ⟨p0, p1, p2, p3, p4⟩ := (HEL.out.later hS.bel).five
                           have hkv := (HEL.out.later hS.bel).isV
                           obtain ⟨x, hr1, hx⟩ := hr
                           all_goals go_simp
                           exact Done.rel (Below.refl _ _) hx
                        )
                        iterate 1 first
                          | (refine chain_skip (by rfl) (by rfl) ?_)
                          | (apply chain_want (by rfl)
                             · intro act wx hS hr
                               simp at hr
                               have d0 := hS.v.s.box.cell 0
                               simp at d0
                               obtain ⟨b0, b1, b2, b3, b4⟩ := vl_cells hS.v.s.bv
                               obtain ⟨p0, p1, p2, p3, p4⟩ := (HEL.out.later hS.bel).five
                               have hkv := (HEL.out.later hS.bel).isV
                               go_simp
                               (try go_ints)
                               first
                                 | (obtain ⟨x, hr1, sv, rfl, hx⟩ := hr; simp only [hr1, Option.getD_some]; go_simp; exact Done.same)
                                 | exact Done.same
                            )
                        show ∀ w', _ → _
                        intro w24 hz24
                        simp [Act.put]
                        case hS => exact HK0.out
                        intro p1 _ p2 _ p3 _ p4 _ p5 hp5
                        have hp5 : IsW wk p5 w24 := hp5
                        have HP5 := Lib.hid hp5
                        have HO24 := Lib.hid (HO.out.later hz24.bel)
                        have HBL24 := Lib.hid (HBL.out.trans (hz24.bel.mono HLO.out))
                        have HL24 : Hid (H ≤ w24.heap.size) := Nat.le_trans HLO.out hz24.bel.size
                        clear hz24 hp5 HK0 HV HO HEL HSU HBL
                        go_wp2_with (at_builtin; refine wpList_append_w rfl _ _ rfl H u13 fl rfl HO24.out wk p5 rfl HP5.out (by have := HFB.out; omega) HL24.out ?_; intro v6 w6 h1 h2; have HO6 := Lib.hid h1; have HB6 := Lib.hid ((Below.refl H _).grown h2 HL24.out (fun k hk => (World.ownsRow.lt HO24.out k hk).1)); clear h1 h2)
                        have HBL6 := Lib.hid (HBL24.out.trans HB6.out)
                        go_wp2
                        go_roundw
                        case rel => exact ⟨k + 1, by omega, by go_num, by rw [HTK.out]; exact HO6.out, HBL6.out⟩
                        case measure => simp [intOf]; omega
                      · have y4 : (vk == 4) = false := by rw [beq_eq_false_iff_ne]; exact kr
                        obtain ⟨q, hq, hql⟩ := HKQ.out k hlt
                        have hkk : kidN ⟨vk, na, nb, nlo, nhi, ncls, ntext⟩ vp k = na := by unfold kidN; rw [if_neg hif]
                        clear hif
                        have hwk := HWK.out k hlt
                        rw [hkk] at hq hwk
                        have HQE := Lib.hid hq
                        rw [hq] at hwk
                        have hqt : ((q : Int)).toNat = q := rfl
                        rw [hqt] at hwk
                        have hws := wr_sub hql (HFM.out.okTo hql) (ks.at k)
                        rw [hwk] at hws
                        have HSU : Hid (∀ w', WvS w (some ⟨ba, oa, none⟩) l c ⟨vk, vb, vt, vp, ks⟩ B cv w' → Calls Try.prog 19 #[.agg #[.slice (some ⟨ba, oa, none⟩) l.length c], .int .i64 na] w' (DPost w' (subL l q))) := fun w' h => by
                          rw [HQE.out]
                          exact IsD.rsub ⟨_, c, hc1, rfl, h.row⟩ HSP.out.sm hql
                        have HWSB := Lib.hid hws
                        have HCK : Hid (cntV (ks.at k) ≤ 100000) := by have h1 := cntVs_at ks k hlt; have h2 := HCN.out; unfold Hid cntV at *; simp only at *; omega
                        have HQL := Lib.hid hql
                        obtain ⟨gk, ok, Yk, ck, hBk, hel⟩ := VRow.el HV.out.s.kids hlt
                        have hBk : B = some ⟨gk, ok, none⟩ := hBk
                        have hel : ElS gk (ok + k * 5) (ks.at k) Yk ck wr := hel
                        have HEL := Lib.hid hel
                        have htk : (ws.take (k + 1)).flatten = (ws.take k).flatten ++ ws.getD k [] := by
                          rw [List.take_add_one, List.flatten_append, List.getD_eq_getElem?_getD, List.getElem?_eq_getElem (by have := HWL.out; omega)]
                          simp
                        have HTK := Lib.hid htk
                        have HFB := Lib.hid (HFL.out (k + 1))
                        rw [HTK.out, List.length_append] at HFB
                        generalize ws.getD k [] = wk at *
                        generalize (ws.take k).flatten = fl at *
                        clear hq hkk hwk hqt hws hel htk hql
                        generalize ks.at k = kv at *
                        obtain ⟨kk, kb, kt, kp, kks⟩ := kv
                        subst hBk
                        have hltz : (k : Int) < (ks.len : Int) := by omega
                        have hkb : (k : Int) ≤ 400 := by have h1 := cntVs_len ks; have h2 := HCN.out; unfold cntV at h2; simp only at h2; omega
                        go_upto_region 24 with (fail)
                        have HK0 : Hid (VkS w (some ⟨ba, oa, none⟩) l c ⟨vk, vb, vt, vp, ks⟩ (some ⟨gk, ok, none⟩) cv W (.slice A5 W.length c5) bn ⟨vk, na, nb, nlo, nhi, ncls, ntext⟩ wr wr) := ⟨Below.refl _ _, HV.out⟩
                        refine wp_region_stable (S := (VkS w (some ⟨ba, oa, none⟩) l c ⟨vk, vb, vt, vp, ks⟩ (some ⟨gk, ok, none⟩) cv W (.slice A5 W.length c5) bn ⟨vk, na, nb, nlo, nhi, ncls, ntext⟩ wr)) (hSt := fun _ _ h hb => h.later hb) (plan := [[(2, none)], [(15, none)], [(146, some 0), (147, some 1)], [(3, none)], [(149, some 3)], [(14, none)], [(150, some 4), (151, some 5)], [(152, some 6)], [(148, some 2), (153, some 7)], [(154, some 8)], [(145, some 9)], [(145, some 9)], [(155, some 10)], [(156, some 11)]]) (by kernel_rfl) (by kernel_rfl) (by kernel_rfl) ?hS ?_
                        rotate_left
                        iterate 2 first
                          | (refine chain_skip (by rfl) (by rfl) ?_)
                          | (apply chain_want (by rfl)
                             · intro act wx hS hr
                               simp at hr
                               have d0 := hS.v.s.box.cell 0
                               simp at d0
                               obtain ⟨b0, b1, b2, b3, b4⟩ := vl_cells hS.v.s.bv
                               obtain ⟨p0, p1, p2, p3, p4⟩ := (HEL.out.later hS.bel).five
                               have hkv := (HEL.out.later hS.bel).isV
                               go_simp
                               (try go_ints)
                               first
                                 | (obtain ⟨x, hr1, sv, rfl, hx⟩ := hr; simp only [hr1, Option.getD_some]; go_simp; exact Done.same)
                                 | exact Done.same
                            )
                        (refine chain_rel (IsD (subL l q)) (IsD.later _) (by rfl) ?_ ?_
                         · intro act wx hS hr
                           simp at hr
                           have d0 := hS.v.s.box.cell 0
                           simp at d0
                           obtain ⟨b0, b1, b2, b3, b4⟩ := vl_cells hS.v.s.bv
                           obtain ⟨p0, p1, p2, p3, p4⟩ := (HEL.out.later hS.bel).five
                           have hkv := (HEL.out.later hS.bel).isV
                           all_goals go_simp
                           ((with_reducible refine (HSU.out _ hS.v.s).mono ?_); intro e w' hp; obtain ⟨sv, rfl, ho, hb⟩ := hp; exact Done.rel hb ho.isD)
                        )
                        iterate 5 first
                          | (refine chain_skip (by rfl) (by rfl) ?_)
                          | (apply chain_want (by rfl)
                             · intro act wx hS hr
                               simp at hr
                               have d0 := hS.v.s.box.cell 0
                               simp at d0
                               obtain ⟨b0, b1, b2, b3, b4⟩ := vl_cells hS.v.s.bv
                               obtain ⟨p0, p1, p2, p3, p4⟩ := (HEL.out.later hS.bel).five
                               have hkv := (HEL.out.later hS.bel).isV
                               go_simp
                               (try go_ints)
                               first
                                 | (obtain ⟨x, hr1, sv, rfl, hx⟩ := hr; simp only [hr1, Option.getD_some]; go_simp; exact Done.same)
                                 | exact Done.same
                            )
                        (refine chain_rel (TupV (some wk)) (TupV.later _) (by rfl) ?_ ?_
                         · intro act wx hS hr
                           simp at hr
                           have d0 := hS.v.s.box.cell 0
                           simp at d0
                           obtain ⟨b0, b1, b2, b3, b4⟩ := vl_cells hS.v.s.bv
                           obtain ⟨p0, p1, p2, p3, p4⟩ := (HEL.out.later hS.bel).five
                           have hkv := (HEL.out.later hS.bel).isV
                           obtain ⟨⟨x, hr1, hx⟩, hr2⟩ := hr
                           all_goals go_simp
                           (refine (HWR.isD hx (HSP.out.sub HQL.out) (sub_tx HTL.out q) HCK.out hkv HWSB.out).mono ?_; rintro e w' ⟨x, rfl, hx, hb⟩; exact Done.rel hb hx)
                        )
                        (refine chain_rel (TupV (some wk)) (TupV.later _) (by rfl) ?_ ?_
                         · intro act wx hS hr
                           simp at hr
                           have d0 := hS.v.s.box.cell 0
                           simp at d0
                           obtain ⟨b0, b1, b2, b3, b4⟩ := vl_cells hS.v.s.bv
                           obtain ⟨p0, p1, p2, p3, p4⟩ := (HEL.out.later hS.bel).five
                           have hkv := (HEL.out.later hS.bel).isV
                           obtain ⟨x, hr1, hx⟩ := hr
                           all_goals go_simp
                           exact Done.rel (Below.refl _ _) hx
                        )
                        (refine chain_rel (IsWp wk) (IsWp.later _) (by rfl) ?_ ?_
                         · intro act wx hS hr
                           simp at hr
                           have d0 := hS.v.s.box.cell 0
                           simp at d0
                           obtain ⟨b0, b1, b2, b3, b4⟩ := vl_cells hS.v.s.bv
                           obtain ⟨p0, p1, p2, p3, p4⟩ := (HEL.out.later hS.bel).five
                           have hkv := (HEL.out.later hS.bel).isV
                           obtain ⟨x, hr1, sv, rfl, hx⟩ := hr
                           all_goals go_simp
                           exact Done.rel (Below.refl _ _) hx
                        )
                        iterate 1 first
                          | (refine chain_skip (by rfl) (by rfl) ?_)
                          | (apply chain_want (by rfl)
                             · intro act wx hS hr
                               simp at hr
                               have d0 := hS.v.s.box.cell 0
                               simp at d0
                               obtain ⟨b0, b1, b2, b3, b4⟩ := vl_cells hS.v.s.bv
                               obtain ⟨p0, p1, p2, p3, p4⟩ := (HEL.out.later hS.bel).five
                               have hkv := (HEL.out.later hS.bel).isV
                               go_simp
                               (try go_ints)
                               first
                                 | (obtain ⟨x, hr1, sv, rfl, hx⟩ := hr; simp only [hr1, Option.getD_some]; go_simp; exact Done.same)
                                 | exact Done.same
                            )
                        (refine chain_rel (IsWp wk) (IsWp.later _) (by rfl) ?_ ?_
                         · intro act wx hS hr
                           simp at hr
                           have d0 := hS.v.s.box.cell 0
                           simp at d0
                           obtain ⟨b0, b1, b2, b3, b4⟩ := vl_cells hS.v.s.bv
                           obtain ⟨p0, p1, p2, p3, p4⟩ := (HEL.out.later hS.bel).five
                           have hkv := (HEL.out.later hS.bel).isV
                           obtain ⟨x, hr1, hx⟩ := hr
                           all_goals go_simp
                           exact Done.rel (Below.refl _ _) hx
                        )
                        iterate 1 first
                          | (refine chain_skip (by rfl) (by rfl) ?_)
                          | (apply chain_want (by rfl)
                             · intro act wx hS hr
                               simp at hr
                               have d0 := hS.v.s.box.cell 0
                               simp at d0
                               obtain ⟨b0, b1, b2, b3, b4⟩ := vl_cells hS.v.s.bv
                               obtain ⟨p0, p1, p2, p3, p4⟩ := (HEL.out.later hS.bel).five
                               have hkv := (HEL.out.later hS.bel).isV
                               go_simp
                               (try go_ints)
                               first
                                 | (obtain ⟨x, hr1, sv, rfl, hx⟩ := hr; simp only [hr1, Option.getD_some]; go_simp; exact Done.same)
                                 | exact Done.same
                            )
                        show ∀ w', _ → _
                        intro w24 hz24
                        simp [Act.put]
                        case hS => exact HK0.out
                        intro p1 _ p2 _ p3 _ p4 _ p5 hp5
                        have hp5 : IsW wk p5 w24 := hp5
                        have HP5 := Lib.hid hp5
                        have HO24 := Lib.hid (HO.out.later hz24.bel)
                        have HBL24 := Lib.hid (HBL.out.trans (hz24.bel.mono HLO.out))
                        have HL24 : Hid (H ≤ w24.heap.size) := Nat.le_trans HLO.out hz24.bel.size
                        clear hz24 hp5 HK0 HV HO HEL HSU HBL
                        go_wp2_with (at_builtin; refine wpList_append_w rfl _ _ rfl H u13 fl rfl HO24.out wk p5 rfl HP5.out (by have := HFB.out; omega) HL24.out ?_; intro v6 w6 h1 h2; have HO6 := Lib.hid h1; have HB6 := Lib.hid ((Below.refl H _).grown h2 HL24.out (fun k hk => (World.ownsRow.lt HO24.out k hk).1)); clear h1 h2)
                        have HBL6 := Lib.hid (HBL24.out.trans HB6.out)
                        go_wp2
                        go_roundw
                        case rel => exact ⟨k + 1, by omega, by go_num, by rw [HTK.out]; exact HO6.out, HBL6.out⟩
                        case measure => simp [intOf]; omega
                  · skip
                    obtain rfl : k = ks.len := by omega
                    have hlast : ¬ ((ks.len : Nat) : Int) < (ks.len : Int) := by omega
                    have htk : ws.take ks.len = ws := List.take_of_length_le (by have := HWL.out; omega)
                    have hfb := HFL.out ks.len
                    rw [htk] at HO hfb
                    have HWL2 : Hid (W.length ≤ 10000000) := by
                      have h3 := wrV_len HTL.out _ _ _ HR.out
                      have h4 := HCN.out
                      have : (2000 + 2) * cntV ⟨vk, vb, vt, vp, ks⟩ ≤ (2000 + 2) * 400 := Nat.mul_le_mul_left _ h4
                      unfold Hid; omega
                    have hcp := HCAP.out
                    generalize ws.flatten = fl at *
                    obtain ⟨gA, gc, hgv, -⟩ := own8_form HO.out
                    have HXX := Lib.hid HV.out.x
                    have HBX := Lib.hid HV.out.s.bel
                    have HFW : Hid (IsW fl u13 wr) := own_isW HO.out (by omega)
                    unfold capW at hcp
                    simp only at hcp
                    rw [if_neg (by omega), if_neg (by omega)] at hcp
                    have HFBL := Lib.hid hfb
                    clear htk HO HCAP HFL HWL HKQ HWK
                    by_cases k8 : vk = 8
                    · rw [if_pos k8] at hcp
                      by_cases h255 : fl.length ≤ 255
                      · rw [if_pos h255] at hcp
                        have hW : byU fl.length :: fl = W := Option.some.inj hcp
                        have HW := Lib.hid hW
                        have z8 : (vk == 8) = true := by simp [k8]
                        have z9 : (vk == 9) = false := by rw [beq_eq_false_iff_ne]; omega
                        have hflz : (fl.length : Int) ≤ 255 := by omega
                        have HNB : Hid (Own8 (wr.alloc (.cells #[.int .u8 (fl.length : Int)] 5)) wr.heap.size (.slice (some ⟨wr.heap.size, 0, none⟩) 1 1) (nats [byU fl.length])) := own_new (w := wr) (W := [byU fl.length]) (cs := #[.int .u8 (fl.length : Int)]) (by
                          have hb : (byU fl.length).toNat = fl.length := by unfold byU; simp; omega
                          unfold bytesV nats; simp [hb]) (by simp)
                        have HAL : Hid (Below wr.heap.size wr (wr.alloc (.cells #[.int .u8 (fl.length : Int)] 5))) := (Below.refl _ _).alloc (Nat.le_refl _) _
                        clear hcp hW h255 k8
                        subst hgv
                        go_wp2_with (at_builtin; refine wpList_append_w rfl _ _ rfl wr.heap.size (.slice (some ⟨wr.heap.size, 0, none⟩) 1 1) [byU fl.length] rfl HNB.out fl (.slice gA fl.length gc) rfl (HFW.out.later HAL.out) (by simp only [List.length_cons, List.length_nil]; omega) HAL.out.size ?_; intro v6 w6 h1 h2; have HO6 := Lib.hid h1; have HB6 := Lib.hid (HAL.out.grown h2 HAL.out.size (fun k hk => (World.ownsRow.lt HNB.out k hk).1)); have HN6 := Lib.hid (HV.out.nd.later HB6.out); clear h1 h2 f0 f1 f2 f3 f4 f5 f6 f7 f8 f9; obtain ⟨f0, f1, f2, f3, f4, f5, f6, f7, f8, f9⟩ := ten_cells HN6.out)
                        have HWX : Hid (IsW W v6 w6) := by
                          have := own_isW HO6.out (by simp only [List.length_append, List.length_cons, List.length_nil]; omega)
                          rw [← HW.out]; exact this
                        have HXX := Lib.hid (HXX.out.later HB6.out)
                        have HBX := Lib.hid (HBX.out.trans (HB6.out.mono HBX.out.size))
                        obtain ⟨vA, vc, hv6, -⟩ := HWX.out.len
                        subst hv6
                        have CB : Hid (Calls Try.prog 13 #[(.slice vA W.length vc), .slice A5 W.length c5] w6 (Ans w6 (.bool true))) := by
                          have := bytes_rowV (nats W) (nats W) (.slice vA W.length vc) (.slice A5 W.length c5) w6 HWX.out.bytes HXX.out.bytes (by rw [nats_length]; have := HWL2.out; omega) (by rw [nats_length]; have := HWL2.out; omega)
                          rwa [show (nats W == nats W) = true by simp] at this
                        go_wp2_with fail
                        refine CB.out.mono ?_; rintro e wy ⟨rfl, hb⟩
                        have HBY := Lib.hid (HBX.out.trans (hb.mono HBX.out.size))
                        clear hb CB
                        go_wp2
                        go_ret
                        exact ⟨rfl, HBY.out⟩
                      · rw [if_neg h255] at hcp; cases hcp
                    · rw [if_neg k8] at hcp
                      have z8 : (vk == 8) = false := by rw [beq_eq_false_iff_ne]; exact k8
                      by_cases k9 : vk = 9
                      · rw [if_pos k9] at hcp
                        by_cases h65 : fl.length ≤ 65535
                        · rw [if_pos h65] at hcp
                          have hW : byU (fl.length / 256) :: byU (fl.length % 256) :: fl = W := Option.some.inj hcp
                          have HW := Lib.hid hW
                          have z9 : (vk == 9) = true := by simp [k9]
                          have hq1 : 0 ≤ (fl.length : Int) / 256 := by omega
                          have hq2 : (fl.length : Int) / 256 ≤ 255 := by omega
                          have hq3 : 0 ≤ (fl.length : Int) % 256 := by omega
                          have hq4 : (fl.length : Int) % 256 ≤ 255 := by omega
                          have hq5 : Int.tdiv (fl.length : Int) 256 = (fl.length : Int) / 256 := Int.tdiv_eq_ediv_of_nonneg (by omega)
                          have hq6 : Int.tmod (fl.length : Int) 256 = (fl.length : Int) % 256 := Int.tmod_eq_emod_of_nonneg (by omega)
                          have HNB : Hid (Own8 (wr.alloc (.cells #[.int .u8 ((fl.length : Int) / 256), .int .u8 ((fl.length : Int) % 256)] 5)) wr.heap.size (.slice (some ⟨wr.heap.size, 0, none⟩) 2 2) (nats [byU (fl.length / 256), byU (fl.length % 256)])) := own_new (w := wr) (W := [byU (fl.length / 256), byU (fl.length % 256)]) (cs := #[.int .u8 ((fl.length : Int) / 256), .int .u8 ((fl.length : Int) % 256)]) (by
                            have hb1 : (((byU (fl.length / 256)).toNat : Nat) : Int) = (fl.length : Int) / 256 := by unfold byU; simp; omega
                            have hb2 : (((byU (fl.length % 256)).toNat : Nat) : Int) = (fl.length : Int) % 256 := by unfold byU; simp
                            unfold bytesV nats; simp [hb1, hb2]) (by simp)
                          have HAL : Hid (Below wr.heap.size wr (wr.alloc (.cells #[.int .u8 ((fl.length : Int) / 256), .int .u8 ((fl.length : Int) % 256)] 5))) := (Below.refl _ _).alloc (Nat.le_refl _) _
                          clear hcp hW h65 k9 k8
                          subst hgv
                          go_wp2_with (at_builtin; refine wpList_append_w rfl _ _ rfl wr.heap.size (.slice (some ⟨wr.heap.size, 0, none⟩) 2 2) [byU (fl.length / 256), byU (fl.length % 256)] rfl HNB.out fl (.slice gA fl.length gc) rfl (HFW.out.later HAL.out) (by simp only [List.length_cons, List.length_nil]; omega) HAL.out.size ?_; intro v6 w6 h1 h2; have HO6 := Lib.hid h1; have HB6 := Lib.hid (HAL.out.grown h2 HAL.out.size (fun k hk => (World.ownsRow.lt HNB.out k hk).1)); clear h1 h2)
                          have HWX : Hid (IsW W v6 w6) := by
                            have := own_isW HO6.out (by simp only [List.length_append, List.length_cons, List.length_nil]; omega)
                            rw [← HW.out]; exact this
                          have HXX := Lib.hid (HXX.out.later HB6.out)
                          have HBX := Lib.hid (HBX.out.trans (HB6.out.mono HBX.out.size))
                          obtain ⟨vA, vc, hv6, -⟩ := HWX.out.len
                          subst hv6
                          have CB : Hid (Calls Try.prog 13 #[(.slice vA W.length vc), .slice A5 W.length c5] w6 (Ans w6 (.bool true))) := by
                            have := bytes_rowV (nats W) (nats W) (.slice vA W.length vc) (.slice A5 W.length c5) w6 HWX.out.bytes HXX.out.bytes (by rw [nats_length]; have := HWL2.out; omega) (by rw [nats_length]; have := HWL2.out; omega)
                            rwa [show (nats W == nats W) = true by simp] at this
                          go_wp2_with fail
                          refine CB.out.mono ?_; rintro e wy ⟨rfl, hb⟩
                          have HBY := Lib.hid (HBX.out.trans (hb.mono HBX.out.size))
                          clear hb CB
                          go_wp2
                          go_ret
                          exact ⟨rfl, HBY.out⟩
                        · rw [if_neg h65] at hcp; cases hcp
                      · rw [if_neg k9] at hcp
                        have hW : fl = W := Option.some.inj hcp
                        have z9 : (vk == 9) = false := by rw [beq_eq_false_iff_ne]; exact k9
                        have HWX : Hid (IsW W u13 wr) := by unfold Hid; rw [← hW]; exact HFW.out
                        obtain ⟨vA, vc, hv6, -⟩ := HWX.out.len
                        clear hcp k8 k9 hgv hW HFW HFBL
                        subst hv6
                        have CB : Hid (Calls Try.prog 13 #[(.slice vA W.length vc), .slice A5 W.length c5] wr (Ans wr (.bool true))) := by
                          have := bytes_rowV (nats W) (nats W) (.slice vA W.length vc) (.slice A5 W.length c5) wr HWX.out.bytes HXX.out.bytes (by rw [nats_length]; have := HWL2.out; omega) (by rw [nats_length]; have := HWL2.out; omega)
                          rwa [show (nats W == nats W) = true by simp] at this
                        go_wp2_with fail
                        refine CB.out.mono ?_; rintro e wy ⟨rfl, hb⟩
                        have HBY := Lib.hid (HBX.out.trans (hb.mono HBX.out.size))
                        clear hb CB
                        go_wp2
                        go_ret
                        exact ⟨rfl, HBY.out⟩
end Go.Proofs.Ytgdlbahfmddkaaa
