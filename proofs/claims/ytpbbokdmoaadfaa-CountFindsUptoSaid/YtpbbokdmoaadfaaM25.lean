/- Counting: so many Kids. Walked. -/
import Derived.Test.YtpbbokdmoaadfaaM24
namespace Go.Proofs.Ytpbbokdmoaadfaa
set_option maxHeartbeats 64000000
set_option maxRecDepth 1000000
set_option linter.all false
open Go Go.RowKit
theorem nF_below {l : List Nd} {a : Nat} {W : Wd} {F : Nat -> Nat} {f t b : Nat} (hF : ∀ j, j < f -> F j = 0) (hb : b < f) : nF l a W F t b = 0 := by
 unfold nF
 rw [sg_nil fun j _ => by
  rcases Nat.lt_or_ge j f with h | h
  ·rw [hF j h, Nat.zero_mul]
  ·have : nowV l a W j t b = 0 := by unfold nowV; rw [if_neg (by omega)]
   rw [this, Nat.mul_zero]]
 rfl
theorem ty_reach {first n : Nat} {S : List UInt8} {L : List (Nat × Nat)} (hS : first + S.length <= n \/ S = []) (hL : ∀ p ∈ L, first <= p.1 /\ p.1 < n) : first + (tyAll first S L).length <= n \/ tyAll first S L = [] := by
 rcases hS with hS | hS
 ·exact .inl (tyAll_reach hS hL)
 ·subst hS
  cases L with
  | nil => exact .inr rfl
  | cons r R =>
   have := hL r (by simp)
   exact .inl (tyAll_reach (by simp; omega) hL)
def rpF (l : List Nd) (a : Nat) (W : Wd) (F : Nat -> Nat) (lo : Int) (k b : Nat) : Nat := min 2 (sg k fun (t : Nat) => if lo <= (t : Int) then nF l a W F t b else 0)
theorem rpF_step {l : List Nd} {a : Nat} {W : Wd} {F : Nat -> Nat} {lo : Int} {k b : Nat} (h : lo <= (k : Int)) : rpF l a W F lo (k + 1) b = min 2 (rpF l a W F lo k b + nF l a W F k b) := by
 unfold rpF; rw [sg_succ, if_pos h]; omega
theorem rpF_skip {l : List Nd} {a : Nat} {W : Wd} {F : Nat -> Nat} {lo : Int} {k b : Nat} (h : ¬ lo <= (k : Int)) : rpF l a W F lo (k + 1) b = rpF l a W F lo k b := by
 unfold rpF; rw [sg_succ, if_neg h, Nat.add_zero]
theorem rpF_le {l : List Nd} {a : Nat} {W : Wd} {F : Nat -> Nat} {lo : Int} {k b : Nat} : rpF l a W F lo k b <= 2 := by unfold rpF; omega
def RpL (m : Nat) (l : List Nd) (V : Wd) (tb first a : Nat) (lo hi : Int) (W : Wd) (F : Nat -> Nat) (w0 : World) (lv x : Value) (w : World) : Prop :=
 ∃ (k : Nat) (S : List UInt8) (v : Value), x = .int .i64 (k : Int) /\ (k : Int) <= hi + 1 /\ (first + S.length <= W.length + 1 \/ S = []) /\ (∀ b, b < W.length + 1 -> tyF first S b = rpF l a W F lo k b) /\ TyS w0.heap.size tb first v S w /\ Rk m l V w0.heap.size [] w0 w /\ IsR w lv (plF (W.length + 1) (nF l a W F (k - 1)))
theorem crep_any {l : List Nd} {c m ba oa : Nat} {V : Wd} {i : Nat} (hF : Form l) (hin : i < l.length) (hk7 : (atN l i).kind = 7) (hE : EndsC (some ⟨ba, oa, none⟩) l c m V (atN l i).a.toNat) (rb : Nat) (u : Value) (W : Wd) (F : Nat -> Nat) (vl : Value) (w : World)
 (hr : Rdr rb (some ⟨ba, oa, none⟩) l c u W V m w) (hW : W <+: V) (hn : V.length <= 900) (hF2 : ∀ b, F b <= 2) (hv : IsR w vl (plF (W.length + 1) F)) (hne : plF (W.length + 1) F ≠ []) :
 Calls Try.prog 71 #[.pointer (some ⟨rb, 0, none⟩), .pointer (some ⟨ba, oa + i * 10, none⟩), vl] w (EndP m l V w (plF (W.length + 1) (thV l i W F))) := by
 have hWn : W.length <= 900 := by obtain ⟨t, rfl⟩ := hW; simp at hn; omega
 have ha := cnt_kidA hF hin (by omega)
 have hal : (atN l i).a.toNat < l.length := by omega
 have haz : (((atN l i).a.toNat : Nat) : Int) = (atN l i).a := by
  have hcs := (hF.2.1 i hin).cs rfl
  cases hcs with
  | leaf h1 hf => unfold leafK at h1; omega
  | one h1 hi0 ha hb h7 hr hcl hf => omega
  | two h1 hi0 hb ha hf0 hl hcl hf => omega
 have h0b := rep_lo hF hin hk7
 have hpos : 0 < (plF (W.length + 1) F).length := List.length_pos_iff.2 hne
 have hL0 : plF (W.length + 1) (nF l (atN l i).a.toNat W F (0 - 1)) = plF (W.length + 1) F := plF_congr fun b hb => nF_zero hF hal hb (hF2 b)
 have HV0 : Hid (IsR w vl (plF (W.length + 1) (nF l (atN l i).a.toNat W F (0 - 1)))) := by unfold Hid; rw [hL0]; exact hv
 obtain ⟨Al, cl, rfl, hlc, hrow⟩ := hv
 obtain ⟨first, hfe⟩ : ∃ first, ((plF (W.length + 1) F).getD 0 (0, 0)).1 = first := ⟨_, rfl⟩
 have hf0 : first < W.length + 1 := by rw [<- hfe]; exact (mem_plF.1 (getD_mem0 (d := (0, 0)) hpos)).1
 have HFZ : Hid (∀ j, j < first -> F j = 0) := fun j hj => plF_first_zero hne (by omega) (by rw [hfe]; exact hj)
 obtain ⟨bl, ol, hA, hblt, hc⟩ := hrow.two hne
 have d0 := (hc 0 hpos).1
 rw [Nat.zero_mul, Nat.add_zero, hfe] at d0
 subst hA
 have hb1 := (Below.refl w.heap.size w).alloc (Nat.le_refl _) (.cells #[.int .i64 (first : Int), .slice none 0 0] 118)
 have HTY1 : Hid (TyS w.heap.size w.heap.size first (.slice none 0 0) [] (w.alloc (.cells #[.int .i64 (first : Int), .slice none 0 0] 118))) := ⟨Blk.new w _ _, Nat.le_refl _, Own8.nil _ _⟩
 have HEND := Lib.hid (fun (k b : Nat) (hb : b < W.length + 1) (h1 : (k : Int) <= (atN l i).hi + 1) (h0 : ∀ t : Nat, k <= t -> (t : Int) <= (atN l i).hi -> nF l (atN l i).a.toNat W F t b = 0) => th_rep hF hin hb hk7 h1 h0)
 have HDEAD := Lib.hid (fun (t : Nat) (h : ∀ b, b < W.length + 1 -> nF l (atN l i).a.toNat W F t b = 0) => nF_dead hF hal h)
 have HMORE := Lib.hid (fun (t b : Nat) (hb : b < W.length + 1) => nF_more (F := F) (t := t) hF hal hb)
 have HR := Lib.hid hr
 have HE := Lib.hid hE
 have HS0 : Hid (RpL m l V w.heap.size first (atN l i).a.toNat (atN l i).lo (atN l i).hi W F w (.slice (some ⟨bl, ol, none⟩) (plF (W.length + 1) F).length cl) (.int .i64 0) (w.alloc (.cells #[.int .i64 (first : Int), .slice none 0 0] 118))) :=
  ⟨0, [], _, rfl, by omega, .inr rfl, (fun b hb => by rw [tyF_nil]; rfl), HTY1.out, .of_below hb1, HV0.out.later hb1⟩
 have hposz : (0 : Int) < ((plF (W.length + 1) F).length : Int) := by omega
 generalize (plF (W.length + 1) F).length = ln at *
 clear hr hrow hb1 hc hE hfe hL0 HV0 HTY1 hF2 hlc ha hal hF
 generalize (atN l i).a.toNat = a at *
 generalize hnd : atN l i = nd at *
 obtain ⟨kk, na, nb, nlo, nhi, ncls, ntext⟩ := nd
 simp only at haz h0b HS0 HEND HDEAD hk7
 subst haz
 have HND := Lib.hid hnd
 clear hnd
 go_enter Try.func71, Try.ntmps71
 go_upto_region 2 with (fail)
 clear d0
 generalize w.alloc (.cells #[.int .i64 (first : Int), .slice none 0 0] 118) = w1 at *
 go_wp2
 go_loopw [2, 8] (RpL m l V w.heap.size first a nlo nhi W F w) (fun _ x _ => 300 - (intOf x).toNat)
 case atStart => exact HS0.out
 case round =>
  obtain ⟨k, S, v3, rfl, hk1, hS, hT, hty, hrk, hli⟩ := hrel
  have HS := Lib.hid hS
  have HT3 := Lib.hid hT
  have HTY := Lib.hid hty
  have HRK := Lib.hid hrk
  have HLI := Lib.hid hli
  have HRR := Lib.hid (HR.out.at_ (Nat.le_refl _) hrk)
  obtain ⟨Ak, ck, hke, hck, hrowk⟩ := hli
  subst hke
  clear hS hT hty hrk HS0
  obtain ⟨b8, o8, hA8, hg8⟩ := HRR.out.rd.row.at10 hin
  cases hA8
  rw [HND.out] at hg8
  unfold At10 at hg8
  simp only at hg8
  obtain ⟨h0, h1, h2, h3, h4, h5, h6, h7, h8, h9⟩ := hg8
  clear h5 h6 h7 h8 h9
  by_cases hkh : (k : Int) <= nhi
  ·by_cases hle : plF (W.length + 1) (nF l a W F (k - 1)) = []
   ·have hl0 : ¬ ((((plF (W.length + 1) (nF l a W F (k - 1))).length : Nat) : Int) > 0) := by rw [hle]; decide
    have HFN : Hid (∀ b, b < W.length + 1 -> rpF l a W F nlo k b = thV l i W F b) := fun b hb => HEND.out k b hb hk1 fun t ht _ => HDEAD.out (k - 1) (plF_empty hle) t b (by omega) hb
    clear hle hrowk hck
    generalize (plF (W.length + 1) (nF l a W F (k - 1))).length = lnk at *
    have HRE : Hid (S.length <= 1000) := by
     rcases HS.out with h | h
     ·unfold Hid; omega
     ·unfold Hid; rw [h]; exact Nat.zero_le _
    have hBw := HRK.out.size
    have HD := Lib.hid (cplaces_any w.heap.size w.heap.size first S v3 wr HTY.out (by omega) HRE.out)
    have HFQ : Hid (plF (first + S.length) (tyF first S) = plF (W.length + 1) (thV l i W F)) := by
     have e : plF (W.length + 1) (tyF first S) = plF (W.length + 1) (thV l i W F) := plF_congr fun b hb => by rw [HT3.out b hb, HFN.out b hb]
     rcases HS.out with h | h
     ·unfold Hid; rw [plF_ty_end h, e]
     ·unfold Hid
      rw [<- e, h, plF_nil fun b _ => tyF_nil, plF_nil fun b _ => tyF_nil]
    rw [HFQ.out] at HD
    clear HTY HRE HFQ HFN HT3 HLI
    go_wp2_with fail
    refine HD.out.mono ?_; rintro e w5 ⟨r, rfl, ho, hb⟩
    have HPF : Hid (EndP m l V w (plF (W.length + 1) (thV l i W F)) (.returned r) w5) := ⟨r, rfl, ho.isR, HRK.out.later hBw hb, fun X hX _ => (ho.nw.mono hBw).out hX⟩
    obtain ⟨a9, c9, hv9, -⟩ := ho.isR
    subst hv9
    clear ho hb HD HRK
    generalize (plF (W.length + 1) (thV l i W F)).length = z at *
    go_wp2
    go_ret
    exact HPF.out
   ·have hl0 : (((plF (W.length + 1) (nF l a W F (k - 1))).length : Nat) : Int) > 0 := by have := List.length_pos_iff.2 hle; omega
    by_cases hk0 : k = 0
    ·have hkz : ¬ (k : Int) > 0 := by omega
     have hkk : k - 1 = k := by omega
     rw [hkk] at hck hrowk HLI hle hl0 ⊢
     have hcm := hck
     have hrm := hrowk
     clear hk0 hkk hck hrowk HLI hle
     have HFK := Lib.hid (fun b (hb : b < first) => nF_below (l := l) (a := a) (W := W) (t := k) HFZ.out hb)
     have HNK : Hid (∀ p ∈ plF (W.length + 1) (nF l a W F k), first <= p.1 /\ p.1 < W.length + 1 /\ p.2 <= 1000) := fun p hp => by
      have h := mem_plF.1 hp
      refine ⟨?_, h.1, by rw [<- h.2.1]; exact Nat.le_trans nF_le (by decide)⟩
      rcases Nat.lt_or_ge p.1 first with h1 | h1
      ·have := HFK.out _ h1; have := h.2.1; have := h.2.2; omega
      ·exact h1
     have HSK : Hid (∀ b, b < W.length + 1 -> sumAt (plF (W.length + 1) (nF l a W F k)) b = nF l a W F k b) := fun b hb => by rw [sumAt_plF, if_pos hb]
     have HLK : Hid ((plF (W.length + 1) (nF l a W F k)).length <= W.length + 1) := plF_length
     have HKE : Hid (k + 1 - 1 = k) := by unfold Hid; omega
     generalize hM : plF (W.length + 1) (nF l a W F k) = M at *
     have HM := Lib.hid hM
     clear hM
     have HRM := Lib.hid hrm
     have HCM := Lib.hid hcm
     clear hrm
     try clear h0 h1 h2 h3 h4
     obtain ⟨b8, o8, hA8, hg8⟩ := HRR.out.rd.row.at10 hin
     cases hA8
     rw [HND.out] at hg8
     unfold At10 at hg8
     simp only at hg8
     obtain ⟨h0, h1, h2, h3, h4, h5, h6, h7, h8, h9⟩ := hg8
     clear h5 h6 h7 h8 h9
     by_cases hlo : nlo <= (k : Int)
     ·have hloz : (k : Int) >= nlo := hlo
      have HB := HRK.out.size
      have HCA := Lib.hid (caddAll_any w.heap.size w.heap.size first (W.length + 1) S v3 (.slice Ak M.length ck) M wr HTY.out HB ⟨Ak, ck, rfl, hcm, HRM.out⟩ (by omega) (by omega) HS.out HNK.out (by have := HLK.out; omega))
      clear hcm
      go_wp2_with fail
      refine HCA.out.mono ?_; rintro e w6 ⟨v6, rfl, hty, hkt⟩
      have HTY6 := Lib.hid hty
      have HRK6 := Lib.hid (HRK.out.kt hkt)
      have HI6 : Hid (IsR w6 (.slice Ak M.length ck) (plF (W.length + 1) (nF l a W F (k + 1 - 1)))) := by unfold Hid; rw [HKE.out, HM.out]; exact ⟨Ak, ck, rfl, HCM.out, HRM.out.kt hkt⟩
      have HT6 : Hid (∀ b, b < W.length + 1 -> tyF first (tyAll first S M) b = rpF l a W F nlo (k + 1) b) := fun b hb => by
       rw [tyF_all (fun p hp => (HNK.out p hp).1) (by rw [HT3.out b hb]; exact rpF_le), HSK.out b hb, HT3.out b hb, rpF_step hlo]
      have HS6 := Lib.hid (ty_reach HS.out fun p hp => ⟨(HNK.out p hp).1, (HNK.out p hp).2.1⟩)
      clear hty hkt HCA HTY HRK HT3 HRM
      go_wp2
      go_roundw
      case rel => exact ⟨k + 1, _, v6, by go_num, by omega, HS6.out, HT6.out, HTY6.out, HRK6.out, HI6.out⟩
      case measure => simp [intOf]; omega
     ·have hloz : ¬ (k : Int) >= nlo := hlo
      have HI6 : Hid (IsR wr (.slice Ak M.length ck) (plF (W.length + 1) (nF l a W F (k + 1 - 1)))) := by unfold Hid; rw [HKE.out, HM.out]; exact ⟨Ak, ck, rfl, hcm, HRM.out⟩
      have HT6 : Hid (∀ b, b < W.length + 1 -> tyF first S b = rpF l a W F nlo (k + 1) b) := fun b hb => by rw [HT3.out b hb, rpF_skip hlo]
      clear hcm
      go_wp2
      go_roundw
      case rel => exact ⟨k + 1, S, v3, by go_num, by omega, HS.out, HT6.out, HTY.out, HRK.out, HI6.out⟩
      case measure => simp [intOf]; omega
    ·have hkz : (k : Int) > 0 := by omega
     have HC := Lib.hid (cmore_any HE.out rb u W (nF l a W F (k - 1)) _ wr HRR.out hW hn (fun b => nF_le) HLI.out hle)
     have HEQ : Hid (plF (W.length + 1) (fun b => min 2 (sg (W.length + 1) fun p => nF l a W F (k - 1) p * if p < b then rowV l a W p b else 0)) = plF (W.length + 1) (nF l a W F k)) := plF_congr fun b hb => by
      have := HMORE.out (k - 1) b hb
      rw [show k - 1 + 1 = k by omega] at this
      exact this
     rw [HEQ.out] at HC
     clear hk0 hle hrowk hck HEQ HLI
     generalize (plF (W.length + 1) (nF l a W F (k - 1))).length = lnk at *
     go_wp2_with fail
     refine HC.out.mono ?_; rintro e w4 ⟨v4, rfl, hi4, hrk4, -⟩
     obtain ⟨Am, cm, rfl, hcm, hrm⟩ := hi4
     have hkc := hrk4.kc ⟨_, HRR.out.kept⟩
     have HTY4 := Lib.hid (HTY.out.kc hkc)
     have HRK4 := Lib.hid (HRK.out.call HRK.out.size hrk4)
     have HRR4 := Lib.hid (HRR.out.rk hrk4)
     clear hkc hrk4 HC HTY HRK HRR h0 h1 h2 h3 h4
     have HTY := HTY4
     have HRK := HRK4
     have HRR := HRR4
     clear HTY4 HRK4 HRR4
     have HFK := Lib.hid (fun b (hb : b < first) => nF_below (l := l) (a := a) (W := W) (t := k) HFZ.out hb)
     have HNK : Hid (∀ p ∈ plF (W.length + 1) (nF l a W F k), first <= p.1 /\ p.1 < W.length + 1 /\ p.2 <= 1000) := fun p hp => by
      have h := mem_plF.1 hp
      refine ⟨?_, h.1, by rw [<- h.2.1]; exact Nat.le_trans nF_le (by decide)⟩
      rcases Nat.lt_or_ge p.1 first with h1 | h1
      ·have := HFK.out _ h1; have := h.2.1; have := h.2.2; omega
      ·exact h1
     have HSK : Hid (∀ b, b < W.length + 1 -> sumAt (plF (W.length + 1) (nF l a W F k)) b = nF l a W F k b) := fun b hb => by rw [sumAt_plF, if_pos hb]
     have HLK : Hid ((plF (W.length + 1) (nF l a W F k)).length <= W.length + 1) := plF_length
     have HKE : Hid (k + 1 - 1 = k) := by unfold Hid; omega
     generalize hM : plF (W.length + 1) (nF l a W F k) = M at *
     have HM := Lib.hid hM
     clear hM
     have HRM := Lib.hid hrm
     have HCM := Lib.hid hcm
     clear hrm
     try clear h0 h1 h2 h3 h4
     obtain ⟨b8, o8, hA8, hg8⟩ := HRR.out.rd.row.at10 hin
     cases hA8
     rw [HND.out] at hg8
     unfold At10 at hg8
     simp only at hg8
     obtain ⟨h0, h1, h2, h3, h4, h5, h6, h7, h8, h9⟩ := hg8
     clear h5 h6 h7 h8 h9
     by_cases hlo : nlo <= (k : Int)
     ·have hloz : (k : Int) >= nlo := hlo
      have HB := HRK.out.size
      have HCA := Lib.hid (caddAll_any w.heap.size w.heap.size first (W.length + 1) S v3 (.slice Am M.length cm) M w4 HTY.out HB ⟨Am, cm, rfl, hcm, HRM.out⟩ (by omega) (by omega) HS.out HNK.out (by have := HLK.out; omega))
      clear hcm
      go_wp2_with fail
      refine HCA.out.mono ?_; rintro e w6 ⟨v6, rfl, hty, hkt⟩
      have HTY6 := Lib.hid hty
      have HRK6 := Lib.hid (HRK.out.kt hkt)
      have HI6 : Hid (IsR w6 (.slice Am M.length cm) (plF (W.length + 1) (nF l a W F (k + 1 - 1)))) := by unfold Hid; rw [HKE.out, HM.out]; exact ⟨Am, cm, rfl, HCM.out, HRM.out.kt hkt⟩
      have HT6 : Hid (∀ b, b < W.length + 1 -> tyF first (tyAll first S M) b = rpF l a W F nlo (k + 1) b) := fun b hb => by
       rw [tyF_all (fun p hp => (HNK.out p hp).1) (by rw [HT3.out b hb]; exact rpF_le), HSK.out b hb, HT3.out b hb, rpF_step hlo]
      have HS6 := Lib.hid (ty_reach HS.out fun p hp => ⟨(HNK.out p hp).1, (HNK.out p hp).2.1⟩)
      clear hty hkt HCA HTY HRK HT3 HRM
      go_wp2
      go_roundw
      case rel => exact ⟨k + 1, _, v6, by go_num, by omega, HS6.out, HT6.out, HTY6.out, HRK6.out, HI6.out⟩
      case measure => simp [intOf]; omega
     ·have hloz : ¬ (k : Int) >= nlo := hlo
      have HI6 : Hid (IsR w4 (.slice Am M.length cm) (plF (W.length + 1) (nF l a W F (k + 1 - 1)))) := by unfold Hid; rw [HKE.out, HM.out]; exact ⟨Am, cm, rfl, hcm, HRM.out⟩
      have HT6 : Hid (∀ b, b < W.length + 1 -> tyF first S b = rpF l a W F nlo (k + 1) b) := fun b hb => by rw [HT3.out b hb, rpF_skip hlo]
      clear hcm
      go_wp2
      go_roundw
      case rel => exact ⟨k + 1, S, v3, by go_num, by omega, HS.out, HT6.out, HTY.out, HRK.out, HI6.out⟩
      case measure => simp [intOf]; omega
  ·have HFN : Hid (∀ b, b < W.length + 1 -> rpF l a W F nlo k b = thV l i W F b) := fun b hb => HEND.out k b hb hk1 fun t ht h => by omega
   clear hrowk hck
   generalize (plF (W.length + 1) (nF l a W F (k - 1))).length = lnk at *
   have HRE : Hid (S.length <= 1000) := by
    rcases HS.out with h | h
    ·unfold Hid; omega
    ·unfold Hid; rw [h]; exact Nat.zero_le _
   have hBw := HRK.out.size
   have HD := Lib.hid (cplaces_any w.heap.size w.heap.size first S v3 wr HTY.out (by omega) HRE.out)
   have HFQ : Hid (plF (first + S.length) (tyF first S) = plF (W.length + 1) (thV l i W F)) := by
    have e : plF (W.length + 1) (tyF first S) = plF (W.length + 1) (thV l i W F) := plF_congr fun b hb => by rw [HT3.out b hb, HFN.out b hb]
    rcases HS.out with h | h
    ·unfold Hid; rw [plF_ty_end h, e]
    ·unfold Hid
     rw [<- e, h, plF_nil fun b _ => tyF_nil, plF_nil fun b _ => tyF_nil]
   rw [HFQ.out] at HD
   clear HTY HRE HFQ HFN HT3 HLI
   go_wp2_with fail
   refine HD.out.mono ?_; rintro e w5 ⟨r, rfl, ho, hb⟩
   have HPF : Hid (EndP m l V w (plF (W.length + 1) (thV l i W F)) (.returned r) w5) := ⟨r, rfl, ho.isR, HRK.out.later hBw hb, fun X hX _ => (ho.nw.mono hBw).out hX⟩
   obtain ⟨a9, c9, hv9, -⟩ := ho.isR
   subst hv9
   clear ho hb HD HRK
   generalize (plF (W.length + 1) (thV l i W F)).length = z at *
   go_wp2
   go_ret
   exact HPF.out
def CwyP (m : Nat) (l : List Nd) (V : Wd) (w0 : World) (x : Nat) (e : Ending) (w : World) : Prop := e = .returned (.int .i64 (x : Int)) /\ Rk m l V w0.heap.size [] w0 w
theorem cways_any {A : Option Addr} {l : List Nd} {c m : Nat} {V : Wd} {i : Nat} (hE : EndsC A l c m V i) (rb : Nat) (u : Value) (W : Wd) (a b : Nat) (w : World)
 (hr : Rdr rb A l c u W V m w) (hW : W <+: V) (hn : V.length <= 900) (ha : a <= W.length) (hb : b <= W.length) :
 Calls Try.prog 30 #[.pointer (some ⟨rb, 0, none⟩), .int .i64 (i : Int), .int .i64 (a : Int), .int .i64 (b : Int)] w (CwyP m l V w (rowV l i W a b)) := by
 have hWn : W.length <= 900 := by obtain ⟨t, rfl⟩ := hW; simp at hn; omega
 have HC := Lib.hid (hE rb u W a w hr hW ha)
 have HD : Hid (∀ v w', IsR w' v (plF (W.length + 1) (rowV l i W a)) -> Calls Try.prog 44 #[v, .int .i64 (b : Int)] w' (Ans w' (.int .i64 ((rowV l i W a b : Nat) : Int)))) := fun v w' h => cwaysTo_any (W.length + 1) (rowV l i W a) v b (by omega) (by omega) w' h
 clear hr hE hW
 generalize rowV l i W a b = x at *
 go_enter Try.func30, Try.ntmps30
 go_wp2_with fail
 refine HC.out.mono ?_; rintro e w2 ⟨v, rfl, hi, hk, -⟩
 have HDD := Lib.hid (HD.out v w2 hi)
 have HK := Lib.hid hk
 obtain ⟨a7, c7, hv7, -⟩ := hi
 subst hv7
 clear hk HC HD
 generalize (plF (W.length + 1) (rowV l i W a)).length = z at *
 go_wp2_with fail
 refine HDD.out.mono ?_; rintro e w3 ⟨rfl, hb3⟩
 have HK3 := Lib.hid (HK.out.call (Nat.le_trans (Nat.le_refl _) HK.out.size) (.of_below hb3))
 clear hb3 HDD HK
 go_wp2
 go_ret
 exact ⟨rfl, HK3.out⟩
theorem frE_le {W : Wd} {head a e : Nat} (hh : head = 1 \/ head = 2) (h : frE W head a = some e) : a + head <= e /\ e <= W.length := by
 by_cases h1 : a + head <= W.length
 ·rw [frE_some hh h1] at h
  by_cases h2 : a + head + hdV W a head <= W.length
  ·rw [if_pos h2] at h
   have := Option.some.inj h
   omega
  ·rw [if_neg h2] at h; cases h
 ·unfold frE at h; rw [if_neg h1] at h; cases h
abbrev frX (l : List Nd) (a : Nat) (W : Wd) (head : Nat) (L : List (Nat × Nat)) : List (Nat × Nat) := frL (frE W head) (fun j e => rowV l a W (j + head) e) L
structure CfmS (m : Nat) (A : Option Addr) (l : List Nd) (c : Nat) (u : Value) (W V : Wd) (rb : Nat) (O : List Nat) (Al : Option Addr) (L : List (Nat × Nat)) (r : Value) (M : List (Nat × Nat)) (w0 : World) (w : World) : Prop where
 rk : Rk m l V w0.heap.size O w0 w
 rd : Rdr rb A l c u W V m w
 row : RcRow w Al L
 own : OwnR w w0.heap.size r M
theorem CfmS.later {m : Nat} {A : Option Addr} {l : List Nd} {c : Nat} {u : Value} {W V : Wd} {rb : Nat} {O : List Nat} {Al : Option Addr} {L : List (Nat × Nat)} {r : Value} {M : List (Nat × Nat)} {w0 w w' : World} (h : CfmS m A l c u W V rb O Al L r M w0 w) (hb : Below w.heap.size w w') : CfmS m A l c u W V rb O Al L r M w0 w' :=
 ⟨h.rk.later h.rk.size hb, h.rd.later hb, h.row.later hb, h.own.later hb⟩
structure CfmB (m : Nat) (A : Option Addr) (l : List Nd) (c : Nat) (u : Value) (W V : Wd) (rb : Nat) (O : List Nat) (Al : Option Addr) (L : List (Nat × Nat)) (r : Value) (M : List (Nat × Nat)) (bx p q : Nat) (w0 : World) (w : World) : Prop where
 s : CfmS m A l c u W V rb O Al L r M w0 w
 x : Blk w bx #[.int .i64 (p : Int), .int .i64 (q : Int)] 92
theorem CfmB.later {m : Nat} {A : Option Addr} {l : List Nd} {c : Nat} {u : Value} {W V : Wd} {rb : Nat} {O : List Nat} {Al : Option Addr} {L : List (Nat × Nat)} {r : Value} {M : List (Nat × Nat)} {bx p q : Nat} {w0 w w' : World} (h : CfmB m A l c u W V rb O Al L r M bx p q w0 w) (hb : Below w.heap.size w w') : CfmB m A l c u W V rb O Al L r M bx p q w0 w' := ⟨h.s.later hb, h.x.later hb⟩
def CfmL (m : Nat) (A : Option Addr) (l : List Nd) (c : Nat) (u : Value) (W V : Wd) (rb a head : Nat) (Al : Option Addr) (L : List (Nat × Nat)) (w0 : World) (i r : Value) (w : World) : Prop :=
 ∃ (k : Nat) (O : List Nat), k <= L.length /\ i = .int .i64 (k : Int) /\ CfmS m A l c u W V rb O Al L r (frX l a W head (L.take k)) w0 w /\ ∀ kk, r.ownBlock = some kk -> kk ∈ O
def UtR (A : Option Addr) (l : List Nd) (c : Nat) (W V : Wd) (m : Nat) (v : Value) (w : World) : Prop := ∃ rb u, v = .pointer (some ⟨rb, 0, none⟩) /\ Rdr rb A l c u W V m w
theorem UtR.later (A : Option Addr) (l : List Nd) (c : Nat) (W V : Wd) (m : Nat) : ∀ v w w', UtR A l c W V m v w -> Below w.heap.size w w' -> UtR A l c W V m v w' := fun v w w' ⟨rb, u, h1, h2⟩ hb => ⟨rb, u, h1, h2.later hb⟩
theorem cframe_any {l : List Nd} {c m ba oa : Nat} {V : Wd} {i head : Nat} (hF : Form l) (hin : i < l.length) (hk89 : (atN l i).kind = 8 /\ head = 1 \/ (atN l i).kind = 9 /\ head = 2) (hE : EndsC (some ⟨ba, oa, none⟩) l c m V (atN l i).a.toNat) (rb : Nat) (u : Value) (W : Wd) (F : Nat -> Nat) (vl : Value) (w : World)
 (hr : Rdr rb (some ⟨ba, oa, none⟩) l c u W V m w) (hW : W <+: V) (hn : V.length <= 900) (hF2 : ∀ b, F b <= 2) (hv : IsR w vl (plF (W.length + 1) F)) :
 Calls Try.prog 72 #[.pointer (some ⟨rb, 0, none⟩), .pointer (some ⟨ba, oa + i * 10, none⟩), vl] w (EndP m l V w (plF (W.length + 1) (thV l i W F))) := by
 have hWn : W.length <= 900 := by obtain ⟨t, rfl⟩ := hW; simp at hn; omega
 have ha := cnt_kidA hF hin (by omega)
 have haz : (((atN l i).a.toNat : Nat) : Int) = (atN l i).a := by
  have hcs := (hF.2.1 i hin).cs rfl
  cases hcs with
  | leaf h1 hf => unfold leafK at h1; omega
  | one h1 hi0 ha hb h7 hr hcl hf => omega
  | two h1 hi0 hb ha hf0 hl hcl hf => omega
 have hh : head = 1 \/ head = 2 := by omega
 have HFIN : Hid (plF (W.length + 1) (fun b => min 2 (sumAt (frX l (atN l i).a.toNat W head (plF (W.length + 1) F)) b)) = plF (W.length + 1) (thV l i W F)) := plF_congr fun b hb => th_k89 hF hin hb hk89
 have HPP : Hid (∀ p ∈ frX l (atN l i).a.toNat W head (plF (W.length + 1) F), p.1 < W.length + 1 /\ p.2 ≠ 0 /\ p.2 <= 2) := fun p hp => by
  obtain ⟨h1, h2, j, hj⟩ := frL_two (fun q hq => (mem_plF.1 hq).2.2) hp
  exact ⟨by have := frE_le hh hj; omega, h1, h2⟩
 have HFL : Hid (∀ k, (frX l (atN l i).a.toNat W head ((plF (W.length + 1) F).take k)).length <= W.length + 1) := fun k => by
  have h1 : (frX l (atN l i).a.toNat W head ((plF (W.length + 1) F).take k)).length <= ((plF (W.length + 1) F).take k).length := List.length_filterMap_le _ _
  have h2 := plF_length (n := W.length + 1) (F := F)
  rw [List.length_take] at h1
  unfold frX at h1 ⊢
  omega
 have hhd : hdN (atN l i).kind = head := by unfold hdN; rcases hk89 with ⟨h1, h2⟩ | ⟨h1, h2⟩ <;> rw [h1, h2] <;> rfl
 have HLP : Hid (∀ k, k < (plF (W.length + 1) F).length -> ((plF (W.length + 1) F).getD k (0, 0)).1 < W.length + 1 /\ 1 <= ((plF (W.length + 1) F).getD k (0, 0)).2 /\ ((plF (W.length + 1) F).getD k (0, 0)).2 <= 2) := fun k hk => by
  have := mem_plF.1 (getD_mem0 (d := (0, 0)) hk)
  exact ⟨this.1, by have := this.2.2; omega, by rw [<- this.2.1]; exact hF2 _⟩
 have hLn : (plF (W.length + 1) F).length <= W.length + 1 := plF_length
 obtain ⟨Al, cl, rfl, hlc, hrow⟩ := hv
 obtain ⟨Au, cu, rfl, hcu⟩ := hr.rd.wd.len
 have HS0 : Hid (CfmL m (some ⟨ba, oa, none⟩) l c (.slice Au W.length cu) W V rb (atN l i).a.toNat head Al (plF (W.length + 1) F) w (.int .i64 0) (.slice none 0 0) w) := ⟨0, [], Nat.zero_le _, rfl, ⟨.refl _ _, hr, hrow, OwnR.nil _ _⟩, (fun kk h => by cases h)⟩
 have HR := Lib.hid hr
 have HR0 : Hid (∀ (O : List Nat) (w' : World), Rk m l V w.heap.size O w w' -> RcRow w' Al (plF (W.length + 1) F)) := fun O w' h => by
  have hk : Rk m l V w.heap.size [] w w' := h.drop
  exact (hk.kc ⟨_, hr.kept⟩).rrow hrow
 have HE := Lib.hid hE
 generalize plF (W.length + 1) F = L at *
 clear hr hrow hE hF2 hlc ha hF
 generalize (atN l i).a.toNat = a at *
 generalize hnd : atN l i = nd at *
 obtain ⟨kk, na, nb, nlo, nhi, ncls, ntext⟩ := nd
 simp only at haz hk89 hhd
 subst haz
 have HND := Lib.hid hnd
 have HHD : Hid (∀ w', Calls Try.prog 52 #[.int .i64 kk] w' (Pure w' (.int .i64 ((head : Nat) : Int)))) := fun w' => by rw [<- hhd]; exact chead_any kk w'
 clear hnd hhd hk89
 go_enter Try.func72, Try.ntmps72
 go_wp2
 go_loopw [16, 7] (CfmL m (some ⟨ba, oa, none⟩) l c (.slice Au W.length cu) W V rb a head Al L w) (fun x _ _ => L.length - (intOf x).toNat)
 case atStart => exact HS0.out
 case round =>
  obtain ⟨k, O, hk, rfl, hs, hO⟩ := hrel
  have HS := Lib.hid hs
  have HO := Lib.hid hO
  obtain ⟨a7, c7, hv7, -⟩ := HS.out.own.isR
  subst hv7
  clear hs hO HS0
  by_cases hlt : k < L.length
  ·have hltz : (k : Int) < (L.length : Int) := by omega
   obtain ⟨bl, ol, hA, hblt, hc⟩ := HS.out.row.two (fun e => by rw [e] at hlt; exact absurd hlt (Nat.not_lt_zero _))
   subst hA
   obtain ⟨c0, c1⟩ := hc k hlt
   have HPK := Lib.hid (HLP.out k hlt)
   have HN : Hid (frX l a W head (L.take (k + 1)) = frX l a W head (L.take k) ++ match frE W head (L.getD k (0, 0)).1 with
    | none => []
    | some e => if rowV l a W ((L.getD k (0, 0)).1 + head) e = 0 then [] else [(e, min 2 ((L.getD k (0, 0)).2 * rowV l a W ((L.getD k (0, 0)).1 + head) e))]) := by
    unfold Hid frX; rw [take_snoc (d := (0, 0)) hlt]; exact frL_snoc
   have HML := Lib.hid (HFL.out k)
   generalize (L.getD k (0, 0)).1 = p at *
   generalize (L.getD k (0, 0)).2 = y at *
   generalize frX l a W head (L.take k) = M at *
   clear hc
   have hb3 := (Below.refl wr.heap.size wr).alloc (Nat.le_refl _) (.cells #[.int .i64 (p : Int), .int .i64 (y : Int)] 92)
   have HX3 : Hid (CfmB m (some ⟨ba, oa, none⟩) l c (.slice Au W.length cu) W V rb O (some ⟨bl, ol, none⟩) L (.slice a7 M.length c7) M wr.heap.size p y w (wr.alloc (.cells #[.int .i64 (p : Int), .int .i64 (y : Int)] 92))) := ⟨HS.out.later hb3, Blk.new wr _ _⟩
   clear hb3 HS
   have hpz : (p : Int) <= 1000 := by have := HPK.out.1; omega
   have hhz : (head : Int) <= 2 := by omega
   obtain ⟨ph, hph⟩ : ∃ ph, p + head = ph := ⟨_, rfl⟩
   have hphz : (p : Int) + (head : Int) = (ph : Int) := by omega
   have HPH := Lib.hid hph
   clear hph
   go_upto_region 5 with (fail)
   clear c0 c1
   generalize wr.alloc (.cells #[.int .i64 (p : Int), .int .i64 (y : Int)] 92) = w3 at *
   generalize wr.heap.size = bx at *
   refine wp_region_stable (S := (CfmB m (some ⟨ba, oa, none⟩) l c (.slice Au W.length cu) W V rb O (some ⟨bl, ol, none⟩) L (.slice a7 M.length c7) M bx p y w)) (hSt := fun _ _ h hb => h.later hb) (plan := [[(9, none)], [(20, some 0)], [(1, none)], [(22, some 2)], [(23, some 3)], [(24, some 4)], [(25, some 5)], [(21, some 1), (26, some 6)], [(27, some 7)]]) (by kernel_rfl) (by kernel_rfl) (by kernel_rfl) ?hS ?_
   rotate_left
   iterate 9 first
    | (refine chain_skip (by rfl) (by rfl) ?_)
    | (apply chain_want (by rfl)
       ·intro act wx hS hr
        simp at hr
        have g := hS.s.rd.rd.row.at10 hin
        obtain ⟨b8, o8, hA8, hg8⟩ := g
        have hA8 := Option.some.inj hA8
        cases hA8
        rw [HND.out] at hg8
        unfold At10 at hg8
        simp only at hg8
        obtain ⟨g0, g1, g2, g3, g4, g5, g6, g7, g8, g9⟩ := hg8
        have x0 := hS.x.cell 0
        have x1 := hS.x.cell 1
        have r1 := hS.s.rd.rd.blk.cell 1
        simp at x0 x1 r1
        go_simp
        (try go_ints)
        first
         | ((with_reducible refine (HHD.out _).mono ?_); rintro e w5 ⟨rfl, rfl⟩; exact Done.same)
         | exact Done.same
      )
   show ∀ w', _ -> _
   intro w5 hw5
   simp [Act.put]
   case hS => exact HX3.out
   have HX5 := Lib.hid hw5
   clear hw5 HX3
   have HFE : Hid (∀ w', CfmB m (some ⟨ba, oa, none⟩) l c (.slice Au W.length cu) W V rb O (some ⟨bl, ol, none⟩) L (.slice a7 M.length c7) M bx p y w w' -> Calls Try.prog 84 #[.slice Au W.length cu, .int .i64 (p : Int), .int .i64 ((ph : Nat) : Int)] w' (FeP W p head w')) := fun w' h => by
    rw [<- HPH.out]
    exact cframeEnd_any W (.slice Au W.length cu) p head w' h.s.rd.rd.wd hh (by have := HPK.out.1; omega) (by omega)
   go_upto_region 6 with (fail)
   refine wp_region_stable (S := (CfmB m (some ⟨ba, oa, none⟩) l c (.slice Au W.length cu) W V rb O (some ⟨bl, ol, none⟩) L (.slice a7 M.length c7) M bx p y w)) (hSt := fun _ _ h hb => h.later hb) (plan := [[(0, none)], [(29, some 0)], [(30, some 1)], [(31, some 2)], [(9, none)], [(33, some 4)], [(10, none)], [(32, some 3), (34, some 5), (35, some 6)], [(36, some 7)], [(28, some 8)], [(28, some 8)], [(37, some 9)], [(38, some 10)]]) (by kernel_rfl) (by kernel_rfl) (by kernel_rfl) ?hS ?_
   rotate_left
   iterate 13 first
    | (refine chain_skip (by rfl) (by rfl) ?_)
    | (apply chain_want (by rfl)
       ·intro act wx hS hr
        simp at hr
        have HFE1 := Lib.hid (HFE.out _ hS)
        have g := hS.s.rd.rd.row.at10 hin
        obtain ⟨b8, o8, hA8, hg8⟩ := g
        have hA8 := Option.some.inj hA8
        cases hA8
        rw [HND.out] at hg8
        unfold At10 at hg8
        simp only at hg8
        obtain ⟨g0, g1, g2, g3, g4, g5, g6, g7, g8, g9⟩ := hg8
        have x0 := hS.x.cell 0
        have x1 := hS.x.cell 1
        have r1 := hS.s.rd.rd.blk.cell 1
        simp at x0 x1 r1
        go_simp
        (try go_ints)
        first
         | ((with_reducible refine HFE1.out.mono ?_); rintro e w6 ⟨rfl, rfl⟩; exact Done.same)
         | exact Done.same
      )
   show ∀ w', _ -> _
   intro w6 hw6
   simp [Act.put]
   case hS => exact HX5.out
   have HX6 := Lib.hid hw6
   clear hw6 HX5 HFE
   cases hfe : frE W head p with
   | none =>
    have HN2 : Hid (frX l a W head (L.take (k + 1)) = M) := by unfold Hid; rw [HN.out, hfe]; exact List.append_nil _
    have hsome : (none : Option Nat).isSome = false := rfl
    clear hfe HN
    go_wp2
    go_roundw
    case rel => exact ⟨k + 1, O, by omega, by go_num, by rw [HN2.out]; exact HX6.out.s, HO.out⟩
    case measure => simp [intOf]; omega
   | some e =>
    have hsome : (some e : Option Nat).isSome = true := rfl
    have HEL := Lib.hid (frE_le hh hfe)
    have hfx := feX_some hh hfe
    rw [hfx]
    have HWE : Hid ((W.take e).length = e) := by unfold Hid; rw [List.length_take]; have := HEL.out.2; omega
    obtain ⟨x, hx⟩ : ∃ x, rowV l a W ph e = x := ⟨_, rfl⟩
    have HXR : Hid (rowV l a (W.take e) ph e = x) := by unfold Hid; rw [row_take (Nat.le_refl _)]; exact hx
    have hx2 : x <= 2 := by rw [<- hx]; exact rowV_le
    have HN2 : Hid (frX l a W head (L.take (k + 1)) = M ++ if x = 0 then [] else [(e, min 2 (y * x))]) := by
     unfold Hid; rw [HN.out, hfe]; simp only; rw [HPH.out, hx]
    have HUT : Hid (∀ w', CfmB m (some ⟨ba, oa, none⟩) l c (.slice Au W.length cu) W V rb O (some ⟨bl, ol, none⟩) L (.slice a7 M.length c7) M bx p y w w' -> Calls Try.prog 51 #[.pointer (some ⟨rb, 0, none⟩), .int .i64 (e : Int)] w' (UtP w' (some ⟨ba, oa, none⟩) l c (W.take e) m)) := fun w' h => cupTo_any rb _ l c _ W m e w' h.s.rd.rd HEL.out.2
    have HPE : Hid (W.take e <+: V) := (List.take_prefix e W).trans hW
    clear hfe HN hfx hx
    go_upto_region 8 with (fail)
    refine wp_region_stable_tail 9 (S := (CfmB m (some ⟨ba, oa, none⟩) l c (.slice Au W.length cu) W V rb O (some ⟨bl, ol, none⟩) L (.slice a7 M.length c7) M bx p y w)) (hSt := fun _ _ h hb => h.later hb) (plan := [[(0, none)], [(11, none)], [(41, some 0), (42, some 1)], [(1, none)], [(44, some 3)], [(45, some 4)], [(46, some 5)], [(10, none)], [(11, none)]]) rfl rfl (by kernel_rfl) (by kernel_rfl) (by kernel_rfl) (by kernel_rfl) ?hS ?_
    rotate_left
    iterate 2 first
     | (refine chain_skip (by rfl) (by rfl) ?_)
     | (apply chain_want (by rfl)
        ·intro act wx hS hr
         simp at hr
         have HUT1 := Lib.hid (HUT.out _ hS)
         have g := hS.s.rd.rd.row.at10 hin
         obtain ⟨b8, o8, hA8, hg8⟩ := g
         have hA8 := Option.some.inj hA8
         cases hA8
         rw [HND.out] at hg8
         unfold At10 at hg8
         simp only at hg8
         obtain ⟨g0, g1, g2, g3, g4, g5, g6, g7, g8, g9⟩ := hg8
         have x0 := hS.x.cell 0
         have x1 := hS.x.cell 1
         have r1 := hS.s.rd.rd.blk.cell 1
         simp at x0 x1 r1
         go_simp
         (try go_ints)
         first
          | exact Done.same
       )
    (refine chain_rel (UtR (some ⟨ba, oa, none⟩) l c (W.take e) V m) (UtR.later (some ⟨ba, oa, none⟩) l c (W.take e) V m) (by rfl) ?_ ?_
     ·intro act wx hS hr
      simp at hr
      have HUT1 := Lib.hid (HUT.out _ hS)
      have g := hS.s.rd.rd.row.at10 hin
      obtain ⟨b8, o8, hA8, hg8⟩ := g
      have hA8 := Option.some.inj hA8
      cases hA8
      rw [HND.out] at hg8
      unfold At10 at hg8
      simp only at hg8
      obtain ⟨g0, g1, g2, g3, g4, g5, g6, g7, g8, g9⟩ := hg8
      have x0 := hS.x.cell 0
      have x1 := hS.x.cell 1
      have r1 := hS.s.rd.rd.blk.cell 1
      simp at x0 x1 r1
      all_goals go_simp
      (with_reducible refine HUT1.out.mono ?_); rintro e w7 ⟨rb7, u7, rfl, h7, hb7, -⟩; exact Done.rel hb7 ⟨rb7, u7, rfl, ⟨h7, (hS.s.rd.later hb7).kept⟩⟩
    )
    iterate 6 first
     | (refine chain_skip (by rfl) (by rfl) ?_)
     | (apply chain_want (by rfl)
        ·intro act wx hS hr
         simp at hr
         have HUT1 := Lib.hid (HUT.out _ hS)
         have g := hS.s.rd.rd.row.at10 hin
         obtain ⟨b8, o8, hA8, hg8⟩ := g
         have hA8 := Option.some.inj hA8
         cases hA8
         rw [HND.out] at hg8
         unfold At10 at hg8
         simp only at hg8
         obtain ⟨g0, g1, g2, g3, g4, g5, g6, g7, g8, g9⟩ := hg8
         have x0 := hS.x.cell 0
         have x1 := hS.x.cell 1
         have r1 := hS.s.rd.rd.blk.cell 1
         simp at x0 x1 r1
         go_simp
         (try go_ints)
         first
          | exact Done.same
       )
    show ∀ w', _ -> _
    intro w8 hw8
    simp [Act.put]
    case hS => exact HX6.out
    intro v43 hv43
    obtain ⟨rb8, u8, rfl, hr8⟩ := hv43
    have HX8 := Lib.hid hw8
    have HC := Lib.hid (cways_any HE.out rb8 u8 (W.take e) ph e w8 hr8 HPE.out hn (by rw [HWE.out]; have := HEL.out.1; have := HPH.out; omega) (by rw [HWE.out]; exact Nat.le_refl _))
    rw [HXR.out] at HC
    clear hw8 hr8 HX6 HUT HXR
    go_wp2_with fail
    refine HC.out.mono ?_; rintro e9 w9 ⟨rfl, hrk9⟩
    have hkc := hrk9.kc ⟨_, HX8.out.s.rd.kept⟩
    have HRK9 := Lib.hid (HX8.out.s.rk.call HX8.out.s.rk.size hrk9)
    have HX9 : Hid (CfmB m (some ⟨ba, oa, none⟩) l c (.slice Au W.length cu) W V rb O (some ⟨bl, ol, none⟩) L (.slice a7 M.length c7) M bx p y w w9) := ⟨⟨HRK9.out, HX8.out.s.rd.rk hrk9, HR0.out _ _ HRK9.out, hkc.owns HX8.out.s.own⟩, hkc.block _ HX8.out.x.lt _ _ HX8.out.x⟩
    clear hkc hrk9 HC HX8 HRK9
    by_cases hx0 : x = 0
    ·have hxz : ¬ (x : Int) > 0 := by omega
     rw [if_pos hx0, List.append_nil] at HN2
     clear hx0
     go_wp2
     go_roundw
     case rel => exact ⟨k + 1, O, by omega, by go_num, by rw [HN2.out]; exact HX9.out.s, HO.out⟩
     case measure => simp [intOf]; omega
    ·have hxz : (x : Int) > 0 := by omega
     rw [if_neg hx0] at HN2
     have hyx : y * x <= 2 * 2 := Nat.mul_le_mul HPK.out.2.2 hx2
     obtain ⟨yx, hyxe⟩ : ∃ yx, y * x = yx := ⟨_, rfl⟩
     have hyxz : (y : Int) * (x : Int) = (yx : Int) := by rw [<- hyxe]; exact (Int.natCast_mul y x).symm
     rw [hyxe] at HN2 hyx
     have HM := Lib.hid (fun w' => cmost_any yx (by omega) w')
     obtain ⟨mn, hmn⟩ : ∃ mn, min 2 yx = mn := ⟨_, rfl⟩
     rw [hmn] at HN2 HM
     have x1 := HX9.out.x.cell 1
     simp at x1
     have hlow := HX9.out.s.rk.size
     have hb3 := (Below.refl w9.heap.size w9).alloc (Nat.le_refl _) (.cells #[.int .i64 (e : Int), .int .i64 (mn : Int)] 92)
     have HS10 := Lib.hid (HX9.out.s.later hb3)
     have HX10 : Hid (Blk (w9.alloc (.cells #[.int .i64 (e : Int), .int .i64 (mn : Int)] 92)) w9.heap.size (rcC (e, mn)) 92) := Blk.new w9 _ _
     have hlow2 := HS10.out.rk.size
     have HMZ : Hid (M.length < 1073741824) := by have := HML.out; unfold Hid; omega
     clear hx0 hyxe hmn hb3 HX9
     go_wp2_with fail
     refine (HM.out _).mono ?_; rintro e11 w11 ⟨rfl, rfl⟩
     clear x1 HM
     go_wp2_with (at_builtin; refine wpList_append_rc2 rfl _ _ rfl w.heap.size _ M rfl HS10.out.own _ (e, mn) rfl HX10.out HMZ.out hlow2 ?_; intro v' w6 h1 h2 h3; obtain ⟨O', hrk', hO'⟩ := HS10.out.rk.growO hlow2 HS10.out.own h1 HO.out h2 h3; have HS11 : Hid (CfmS m (some ⟨ba, oa, none⟩) l c (.slice Au W.length cu) W V rb O' (some ⟨bl, ol, none⟩) L v' (M ++ [(e, mn)]) w w6) := ⟨hrk', HR.out.at_ (Nat.le_refl _) hrk', HR0.out _ _ hrk', h1⟩; have HO11 := Lib.hid hO'; clear h1 h2 h3 hrk' hO')
     clear HS10 HX10
     go_wp2
     go_roundw
     case rel => exact ⟨k + 1, O', by omega, by go_num, by rw [HN2.out]; exact HS11.out, HO11.out⟩
     case measure => simp [intOf]; omega
  ·obtain rfl : k = L.length := by omega
   have hlast : ¬ ((L.length : Nat) : Int) < (L.length : Int) := by omega
   have hll : L.take L.length = L := List.take_length
   rw [hll] at HS ⊢
   have HNW : Hid (Nw w.heap.size (.slice a7 (frX l a W head L).length c7)) := HS.out.own.nw
   have HD := Lib.hid (csorted_any (W.length + 1) (.slice a7 (frX l a W head L).length c7) (frX l a W head L) wr HS.out.own.isR (by omega) (by have := HFL.out L.length; rw [hll] at this; omega) HPP.out)
   rw [HFIN.out] at HD
   have HRK := Lib.hid HS.out.rk
   clear HS HO hll HFIN
   generalize (frX l a W head L).length = z at *
   go_wp2_with fail
   refine HD.out.mono ?_; rintro e w5 ⟨r, rfl, hi, hb, hor⟩
   have HPF : Hid (EndP m l V w (plF (W.length + 1) (thV l i W F)) (.returned r) w5) := ⟨r, rfl, hi, (HRK.out.later HRK.out.size hb).drop, fun X hX _ => by
    rcases hor with h | h
    ·rw [h]; exact HNW.out.out hX
    ·exact (h.mono HRK.out.size).out hX⟩
   obtain ⟨a9, c9, hv9, -⟩ := hi
   subst hv9
   clear hb hor HD HRK HNW
   generalize (plF (W.length + 1) (thV l i W F)).length = zz at *
   go_wp2
   go_ret
   exact HPF.out
theorem mapEsR_inj : ∀ (p q : List (Ky × Value)) (i : Nat), mapEsR p i = mapEsR q i -> p = q := fun p => by
 induction p with
 | nil => intro q i e; cases q with
  | nil => rfl
  | cons _ _ => cases e
 | cons x p ih => intro q i e; cases q with
  | nil => cases e
  | cons y q =>
   unfold mapEsR at e
   have e1 := (List.cons.inj e).1
   have e2 := ih q (i + 1) (List.cons.inj e).2
   injection e1 with a1 a2 a3
   obtain ⟨⟨x1, x2, x3⟩, xv⟩ := x
   obtain ⟨⟨y1, y2, y3⟩, yv⟩ := y
   simp [kyV] at a1
   simp at a2
   obtain ⟨b1, b2, b3⟩ := a1
   obtain rfl : x1 = y1 := by omega
   obtain rfl : x2 = y2 := by omega
   obtain rfl : x3 = y3 := by omega
   rw [e2, a2]
theorem ismap_inj {w : World} {m : Nat} {es es' : List (Ky × Value)} (h : IsMapR w m es) (h' : IsMapR w m es') : es' = es := by
 unfold IsMapR at h h'
 rw [h] at h'
 have := Option.some.inj h'
 injection this with a b
 have a := Array.toList_inj.2 a
 simp only [List.toList_toArray] at a
 exact (mapEsR_inj _ _ _ a).symm
def putER (l : List (Ky × Value)) (k : Ky) (v : Value) : List (Ky × Value) := match findER l k 0 with
 | none => l ++ [(k, v)]
 | some (j, _) => l.set j (k, v)
theorem mem_putER {l : List (Ky × Value)} {k : Ky} {v : Value} {p : Ky × Value} (h : p ∈ putER l k v) : p ∈ l \/ p = (k, v) := by
 unfold putER at h
 split at h
 ·rcases List.mem_append.1 h with h | h
  ·exact .inl h
  ·exact .inr (List.mem_singleton.1 h)
 ·exact List.mem_or_eq_of_mem_set h
theorem findER_at {k : Ky} {v : Value} {j : Nat} : ∀ {l : List (Ky × Value)} {i : Nat}, findER l k i = some (j, v) -> i <= j /\ l[j - i]? = some (k, v)
 | [], i, h => by cases h
 | p :: l, i, h => by
  unfold findER at h
  split at h
  ·rename_i e
   cases h
   exact ⟨Nat.le_refl _, by rw [Nat.sub_self]; obtain ⟨p1, p2⟩ := p; cases e; rfl⟩
  ·obtain ⟨h1, h2⟩ := findER_at h
   exact ⟨by omega, by rw [show j - i = (j - (i + 1)) + 1 by omega]; exact h2⟩
theorem mapEsR_set (k : Ky) (v : Value) : ∀ (l : List (Ky × Value)) (i j : Nat), mapEsR (l.set j (k, v)) i = (mapEsR l i).modify j fun e => { e with key := kyV k, val := v }
 | [], i, j => by simp [mapEsR]
 | p :: l, i, 0 => rfl
 | p :: l, i, j + 1 => by
  show _ :: mapEsR (l.set j (k, v)) (i + 1) = _
  rw [mapEsR_set k v l (i + 1) j]; rfl
theorem mapEsR_get (l : List (Ky × Value)) : ∀ (i j : Nat), (mapEsR l i)[j]? = (l[j]?).map fun p => { key := kyV p.1, val := p.2, born := i + j } := by
 induction l with
 | nil => intro i j; simp [mapEsR]
 | cons p l ih =>
  intro i j
  cases j with
  | zero => simp [mapEsR]
  | succ j =>
   show (mapEsR l (i + 1))[j]? = _
   rw [ih]
   simp only [List.getElem?_cons_succ]
   congr 2
   funext p
   rw [show i + 1 + j = i + (j + 1) by omega]
theorem same_ky (k : Ky) : Instr.sameBits 10000 (kyV k) (kyV k) = true := by
 obtain ⟨a, b, c⟩ := k
 rw [show (10000 : Nat) = 9998 + 1 + 1 from rfl]
 simp [kyV, Instr.sameBits]
theorem run_update_kyE (w : World) (m : Nat) (l : List (Ky × Value)) (k : Ky) (v : Value) (hm : IsMapR w m l) :
 (Instr.mapUpdate 74 (.map (some m)) (kyV k) v).run Try.prog w = .ok () (putMapR w m (putER l k v)) := by
 cases hf : findER l k 0 with
 | none =>
  have e : putER l k v = l ++ [(k, v)] := by unfold putER; rw [hf]
  rw [e]
  exact run_update_ky w m l k v hm hf
 | some p =>
  obtain ⟨j, u⟩ := p
  have e : putER l k v = l.set j (k, v) := by unfold putER; rw [hf]
  rw [e]
  have hlt := hm.lt
  have hat := (findER_at hf).2
  rw [Nat.sub_zero] at hat
  unfold IsMapR at hm
  have hk : ((mapEsR l 0).toArray[j]?.map (·.key)).getD (kyV k) = kyV k := by
   rw [List.getElem?_toArray, mapEsR_get, hat]; rfl
  simp only [Instr.mapUpdate, Sem.run_bind, run_underlying Try.underlying74, Result.andThen, getObj, Sem.run, hm, checkKey_ky, run_findKey_ky, hf]
  simp only [hk, Instr.keyThatStays, same_ky, if_true]
  simp only [setObj, Sem.run, hm]
  unfold putMapR
  rw [mapEsR_set]
  simp [Sem.run, hm, setObj, Result.andThen]
theorem Rk.putE {m : Nat} {l : List Nd} {V : Wd} {B : Nat} {w0 w : World} (h : Rk m l V B [] w0 w) {es : List (Ky × Value)} (hm : IsMapR w m es) {k : Ky} {A : Option Addr} {c : Nat} (h1 : k.1 < l.length) (h2 : k.2.1 <= k.2.2) (h3 : k.2.2 <= V.length) (h4 : (plF (k.2.2 + 1) (rowV l k.1 V k.2.1)).length <= c) (h5 : RcRow w A (plF (k.2.2 + 1) (rowV l k.1 V k.2.1)))
 (h6 : ∀ X, (∀ g, X g -> g < B) -> KeptX w0 m l V X -> Out (.slice A (plF (k.2.2 + 1) (rowV l k.1 V k.2.1)).length c) X) :
 Rk m l V B [] w0 (putMapR w m (putER es k (.slice A (plF (k.2.2 + 1) (rowV l k.1 V k.2.1)).length c))) := by
 refine ⟨h.os, h.tape, h.output, by rw [putMapR_size]; exact h.size, fun b hb hne => (putMapR_other hne _).trans (h.block b hb hne), (fun g hg => by cases hg), fun X hX hKX => ?_, fun b o hb ho hn => (putMapR_other hb _).trans (h.nc b o hb ho hn)⟩
 obtain ⟨es', hm', hes⟩ := h.map X hX hKX
 have he := ismap_inj hm hm'
 subst he
 refine ⟨_, putMapR_is hm.lt _, fun k' v' hk' => ?_⟩
 have hkeep : ∀ b cur, Blk w b cur 92 -> Blk (putMapR w m (putER es' k (.slice A (plF (k.2.2 + 1) (rowV l k.1 V k.2.1)).length c))) b cur 92 := fun b cur hb => (putMapR_other (ismap_blk hm hb) _).trans hb
 rcases mem_putER hk' with hk' | hk'
 ·obtain ⟨a, b, c', A', cc, d, e, f, g⟩ := hes k' v' hk'
  exact ⟨a, b, c', A', cc, d, e, f.keep hkeep, g⟩
 ·cases hk'
  exact ⟨h1, h2, h3, A, c, rfl, h4, h5.keep hkeep, fun hn b o ho hx => by
   rcases hx with hx | hx
   ·exact h6 X hX hKX _ _ _ rfl (fun e => hn (List.length_eq_zero_iff.1 e)) b o ho hx
   ·cases hx⟩
theorem row_leaf {l : List Nd} {i : Nat} {W : Wd} {j b : Nat} (hF : Form l) (hi : i < l.length) (hk : (atN l i).kind <= 3) (hb : b < W.length + 1) : rowV l i W j b = if b = j + lfN (atN l i) /\ okL (atN l i) W j then 1 else 0 := by
 have hkr := kind_range hF hi
 unfold okL lfOk lfN
 by_cases h1 : (atN l i).kind = 1
 ·have n2 : ¬ (atN l i).kind = 2 := by omega
  have n3 : ¬ (atN l i).kind = 3 := by omega
  rw [row_k1 (by omega) h1, if_neg n2, if_neg n3, if_pos h1]
  by_cases e : b = j
  ·rw [if_pos e, if_pos ⟨by omega, rfl⟩]
  ·rw [if_neg e, if_neg (fun h => e (by omega))]
 by_cases h2 : (atN l i).kind = 2
 ·rw [row_k2 (by omega) h2, if_pos h2, if_neg h1, if_pos h2]
  by_cases e : b = j + 1
  ·have hd : (W.drop j).getD 0 0 = W.getD j 0 := by rw [List.getD_eq_getElem?_getD, List.getD_eq_getElem?_getD, List.getElem?_drop, Nat.add_zero]
   have hne : W.drop j ≠ [] := drop_ne (by omega)
   by_cases hc : (atN l i).cls.getLsbD (W.getD j 0).toNat = true
   ·rw [if_pos ⟨e, hc⟩, if_pos ⟨e, decide_eq_true ⟨hne, by rw [hd]; exact hc⟩⟩]
   ·rw [if_neg (fun h => hc h.2), if_neg (fun h => hc (by have := (of_decide_eq_true h.2).2; rwa [hd] at this))]
  ·rw [if_neg (fun h => e h.1), if_neg (fun h => e h.1)]
 have h3 : (atN l i).kind = 3 := by omega
 rw [row_k3 (by omega) h3, if_neg h2, if_pos h3, if_neg h1, if_neg h2, if_pos h3]
 by_cases e : b = j + (atN l i).text.length
 ·have hs : sgW W j b = (W.drop j).take (atN l i).text.length := by unfold sgW; rw [List.drop_take, e, Nat.add_sub_cancel_left]
  by_cases hc : sgW W j b = (atN l i).text
  ·rw [if_pos ⟨e, hc⟩, if_pos ⟨e, decide_eq_true ⟨by rw [List.length_drop]; omega, by rw [<- hs]; exact hc⟩⟩]
  ·rw [if_neg (fun h => hc h.2), if_neg (fun h => hc (by rw [hs]; exact (of_decide_eq_true h.2).2))]
 ·rw [if_neg (fun h => e h.1), if_neg (fun h => e h.1)]
theorem leaf_end {l : List Nd} {i : Nat} {W : Wd} {F : Nat -> Nat} (hF : Form l) (hi : i < l.length) (hk : (atN l i).kind <= 3) (h2 : ∀ j, F j <= 2) : lfL (lfN (atN l i)) (okL (atN l i) W) (plF (W.length + 1) F) = plF (W.length + 1) (thV l i W F) := by
 refine lfL_plF (fun j hj hjn => ?_) fun b hb => th_leaf hF hi hb h2 fun j _ => row_leaf hF hi hk hb
 have hkr := kind_range hF hi
 unfold okL lfOk at hj
 unfold lfN
 by_cases h1 : (atN l i).kind = 1
 ·rw [if_neg (by omega), if_neg (by omega)]; exact hjn
 by_cases h2 : (atN l i).kind = 2
 ·rw [if_neg h1, if_pos h2] at hj
  rw [if_pos h2]
  have := List.length_pos_iff.2 (of_decide_eq_true hj).1
  rw [List.length_drop] at this; omega
 have h3 : (atN l i).kind = 3 := by omega
 rw [if_neg h1, if_neg h2, if_pos h3] at hj
 rw [if_neg h2, if_pos h3]
 have := (of_decide_eq_true hj).1
 rw [List.length_drop] at this; omega
end Go.Proofs.Ytpbbokdmoaadfaa
