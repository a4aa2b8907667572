/- Counting: one Kid more, any number of Kids. Walked. -/
import Derived.Test.YtpbbokdmoaadfaaM23
import Derived.Test.YtpbbokdmoaadfaaM21
namespace Go.Proofs.Ytpbbokdmoaadfaa
set_option maxHeartbeats 64000000
set_option maxRecDepth 1000000
set_option linter.all false
open Go Go.RowKit
theorem Rk.then {m : Nat} {l : List Nd} {V : Wd} {B : Nat} {a b c : World} (h : Rk m l V B [] a b) (k : Rk m l V B [] b c) : Rk m l V B [] a c :=
 ⟨k.os.trans h.os, k.tape.trans h.tape, k.output.trans h.output, Nat.le_trans h.size k.size, fun b hb hm => (k.block b hb hm).trans (h.block b hb hm), (fun g hg => by cases hg), fun X hX hK => (k.map X hX ((h.map X hX hK).less fun g hg => .inl hg)).less fun g hg => hg, fun b o hb ho hn => k.nc b o hb (h.nc b o hb ho hn) hn⟩
def MoL (m : Nat) (l : List Nd) (V : Wd) (tb first n : Nat) (R : Nat -> Nat -> Nat) (Al : Option Addr) (L : List (Nat × Nat)) (w0 : World) (i : Value) (w : World) : Prop :=
 ∃ (k : Nat) (v : Value), k <= L.length /\ i = .int .i64 (k : Int) /\ TyS w0.heap.size tb first v (moS first n R [] (L.take k)) w /\ Rk m l V w0.heap.size [] w0 w /\ RcRow w Al L
theorem plF_first {n : Nat} {F : Nat -> Nat} (h : plF n F ≠ []) : ∀ p ∈ plF n F, ((plF n F).getD 0 (0, 0)).1 <= p.1 := fun p hp => by
 obtain ⟨k, hk, he⟩ := List.mem_iff_getElem.1 hp
 have e : (plF n F).getD k (0, 0) = p := by rw [List.getD_eq_getElem?_getD, List.getElem?_eq_getElem hk, he]; rfl
 rcases Nat.eq_zero_or_pos k with h0 | h0
 ·subst h0; rw [e]; exact Nat.le_refl _
 ·have := rise_get plF_rise h0 hk
  rw [e] at this; omega
theorem plF_first_zero {n : Nat} {F : Nat -> Nat} (h : plF n F ≠ []) {b : Nat} (hb : b < n) (hl : b < ((plF n F).getD 0 (0, 0)).1) : F b = 0 := by
 rcases Nat.eq_zero_or_pos (F b) with h0 | h0
 ·exact h0
 ·have := plF_first h (b, F b) (mem_plF.2 ⟨hb, rfl, by show F b ≠ 0; omega⟩)
  simp only at this; omega
theorem getD_mem0 {α : Type} {d : α} {L : List α} {k : Nat} (hk : k < L.length) : L.getD k d ∈ L := by rw [List.getD_eq_getElem?_getD, List.getElem?_eq_getElem hk]; exact List.getElem_mem _
theorem more_end {n first : Nat} {F : Nat -> Nat} {R : Nat -> Nat -> Nat} (hL : ∀ p ∈ plF n F, first <= p.1) (hf : first <= n) :
 plF (first + (moS first n R [] (plF n F)).length) (tyF first (moS first n R [] (plF n F))) = plF n fun b => min 2 (sg n fun p => F p * if p < b then R p b else 0) := by
 obtain ⟨k1, k2, k3⟩ := moS_F (R := R) (n := n) hL (.inr (rfl : ([] : List UInt8) = [])) (fun b => by rw [tyF_nil]; omega)
 have e : ∀ b, b < n -> tyF first (moS first n R [] (plF n F)) b = min 2 (sg n fun p => F p * if p < b then R p b else 0) := fun b hb => by
  rw [k3 b hb, tyF_nil, Nat.zero_add, thrL_plF]; rfl
 have hr : first + (moS first n R [] (plF n F)).length <= n := by
  rcases k1 with k1 | k1
  ·exact k1
  ·rw [k1]; exact hf
 rw [plF_ty_end hr]
 exact plF_congr e
theorem cmore_any {A : Option Addr} {l : List Nd} {c m : Nat} {V : Wd} {i : Nat} (hE : EndsC A l c m V i) (rb : Nat) (u : Value) (W : Wd) (F : Nat -> Nat) (vl : Value) (w : World)
 (hr : Rdr rb A l c u W V m w) (hW : W <+: V) (hn : V.length <= 900) (hF : ∀ b, F b <= 2) (hv : IsR w vl (plF (W.length + 1) F)) (hne : plF (W.length + 1) F ≠ []) :
 Calls Try.prog 63 #[.pointer (some ⟨rb, 0, none⟩), .int .i64 (i : Int), vl] w (EndP m l V w (plF (W.length + 1) fun b => min 2 (sg (W.length + 1) fun p => F p * if p < b then rowV l i W p b else 0))) := by
 have hWn : W.length <= 900 := by obtain ⟨t, rfl⟩ := hW; simp at hn; omega
 obtain ⟨Al, cl, rfl, hlc, hrow⟩ := hv
 have HF0 := Lib.hid (plF_first hne)
 have hpos : 0 < (plF (W.length + 1) F).length := List.length_pos_iff.2 hne
 have HLP : Hid (∀ k, k < (plF (W.length + 1) F).length -> ((plF (W.length + 1) F).getD k (0, 0)).1 < W.length + 1 /\ 1 <= ((plF (W.length + 1) F).getD k (0, 0)).2 /\ ((plF (W.length + 1) F).getD k (0, 0)).2 <= 2) := fun k hk => by
  have := mem_plF.1 (getD_mem0 (d := (0, 0)) hk)
  exact ⟨this.1, by have := this.2.2; omega, by rw [<- this.2.1]; exact hF _⟩
 have HF1 : Hid (∀ k, k < (plF (W.length + 1) F).length -> ((plF (W.length + 1) F).getD 0 (0, 0)).1 <= ((plF (W.length + 1) F).getD k (0, 0)).1) := fun k hk => HF0.out _ (getD_mem0 hk)
 have HEND := Lib.hid (more_end (R := rowV l i W) HF0.out (by have := (HLP.out 0 hpos).1; omega))
 have HMO := Lib.hid (fun k => moS_F (first := ((plF (W.length + 1) F).getD 0 (0, 0)).1) (R := rowV l i W) (n := W.length + 1) (L := (plF (W.length + 1) F).take k) (fun p hp => HF0.out p (List.mem_of_mem_take hp)) (.inr (rfl : ([] : List UInt8) = [])) (fun b => by rw [tyF_nil]; omega))
 have hLn : (plF (W.length + 1) F).length <= W.length + 1 := plF_length
 generalize (plF (W.length + 1) fun b => min 2 (sg (W.length + 1) fun p => F p * if p < b then rowV l i W p b else 0)) = M at *
 generalize plF (W.length + 1) F = L at *
 obtain ⟨bl, ol, hA, hblt, hc⟩ := hrow.two hne
 have d0 := (hc 0 hpos).1
 rw [Nat.zero_mul, Nat.add_zero] at d0
 have hf0 := (HLP.out 0 hpos).1
 obtain ⟨first, hfe⟩ : ∃ first, (L.getD 0 (0, 0)).1 = first := ⟨_, rfl⟩
 rw [hfe] at d0 HF1 HEND HMO hf0
 subst hA
 have hb1 := (Below.refl w.heap.size w).alloc (Nat.le_refl _) (.cells #[.int .i64 (first : Int), .slice none 0 0] 118)
 have HS0 : Hid (MoL m l V w.heap.size first (W.length + 1) (rowV l i W) (some ⟨bl, ol, none⟩) L w (.int .i64 0) (w.alloc (.cells #[.int .i64 (first : Int), .slice none 0 0] 118))) := ⟨0, _, Nat.zero_le _, rfl, ⟨Blk.new w _ _, Nat.le_refl _, Own8.nil _ _⟩, .of_below hb1, hrow.later hb1⟩
 have HR := Lib.hid hr
 have HE := Lib.hid hE
 have HR0 : Hid (∀ w', Rk m l V w.heap.size [] w w' -> RcRow w' (some ⟨bl, ol, none⟩) L) := fun w' h => (h.kc ⟨_, hr.kept⟩).rrow hrow
 have hposz : (0 : Int) < (L.length : Int) := by omega
 clear hr hrow hb1 hc hE hF hfe HF0 hne
 go_enter Try.func63, Try.ntmps63
 go_upto_region 2 with (fail)
 clear d0
 generalize w.alloc (.cells #[.int .i64 (first : Int), .slice none 0 0] 118) = w1 at *
 go_wp2
 go_loopw [18] (MoL m l V w.heap.size first (W.length + 1) (rowV l i W) (some ⟨bl, ol, none⟩) L w) (fun i _ => L.length - (intOf i).toNat)
 case atStart => exact HS0.out
 case round =>
  obtain ⟨k, v2, hk, rfl, hty, hrk, hrow⟩ := hrel
  have HTY := Lib.hid hty
  have HRK := Lib.hid hrk
  have HRO := Lib.hid hrow
  clear hty hrk hrow HS0
  by_cases hlt : k < L.length
  ·have hltz : (k : Int) < (L.length : Int) := by omega
   obtain ⟨b, off, hA, hblt2, hc⟩ := HRO.out.two (fun e => by rw [e] at hlt; exact absurd hlt (Nat.not_lt_zero _))
   cases hA
   obtain ⟨c0, c1⟩ := hc k hlt
   have HPK := Lib.hid (HLP.out k hlt)
   have HFK := Lib.hid (HF1.out k hlt)
   have HN : Hid (moS first (W.length + 1) (rowV l i W) [] (L.take (k + 1)) = tyAll first (moS first (W.length + 1) (rowV l i W) [] (L.take k)) (kdL (L.getD k (0, 0)).1 (L.getD k (0, 0)).2 (plF (W.length + 1) (rowV l i W (L.getD k (0, 0)).1)))) := by
    unfold Hid; rw [take_snoc (d := (0, 0)) hlt, moS_snoc]
   generalize (L.getD k (0, 0)).1 = p at *
   generalize (L.getD k (0, 0)).2 = y at *
   clear hc
   have hb3 := (Below.refl wr.heap.size wr).alloc (Nat.le_refl _) (.cells #[.int .i64 (p : Int), .int .i64 (y : Int)] 92)
   have hBw := HRK.out.size
   have HTY3 := Lib.hid (HTY.out.later hb3)
   have HRK3 := Lib.hid (HRK.out.later hBw hb3)
   have HRO3 := Lib.hid (HRO.out.later hb3)
   have HP3 := Lib.hid (Blk.new wr #[.int .i64 (p : Int), .int .i64 (y : Int)] 92)
   clear hb3 HTY HRK HRO
   go_upto_region 5 with (fail)
   clear c0 c1
   generalize wr.alloc (.cells #[.int .i64 (p : Int), .int .i64 (y : Int)] 92) = w3 at *
   generalize wr.heap.size = bx at *
   have e0 := HP3.out.cell 0
   have e1 := HP3.out.cell 1
   simp at e0 e1
   have HR3 := Lib.hid (HR.out.at_ (Nat.le_refl _) HRK3.out)
   have HC := Lib.hid (ckid_any HE.out rb u W w.heap.size w.heap.size first v2 (moS first (W.length + 1) (rowV l i W) [] (L.take k)) p y w3 HR3.out hW hn HTY3.out HRK3.out.size HFK.out (by have := HPK.out.1; omega) HPK.out.2.1 HPK.out.2.2 (HMO.out k).1)
   rw [<- HN.out] at HC
   clear HP3 HTY3
   go_wp2_with fail
   refine HC.out.mono ?_; rintro e w4 ⟨v4, rfl, hty, hrk⟩
   have HTY4 := Lib.hid hty
   have HRK4 := Lib.hid (HRK3.out.then hrk)
   have HRO4 : Hid (RcRow w4 (some ⟨bl, ol, none⟩) L) := HR0.out _ HRK4.out
   clear hty hrk HC e0 e1 HRK3 HRO3 HR3
   go_wp2
   go_roundw
   case rel => exact ⟨k + 1, v4, by omega, by go_num, HTY4.out, HRK4.out, HRO4.out⟩
   case measure => simp [intOf]; omega
  ·obtain rfl : k = L.length := by omega
   have hlast : ¬ ((L.length : Nat) : Int) < (L.length : Int) := by omega
   have hBw := HRK.out.size
   have HRE : Hid ((moS first (W.length + 1) (rowV l i W) [] L).length <= 1000) := by
    have := (HMO.out L.length).1
    rw [List.take_length] at this
    rcases this with h | h
    ·unfold Hid; omega
    ·unfold Hid; rw [h]; exact Nat.zero_le _
   have HTY2 : Hid (TyS w.heap.size w.heap.size first v2 (moS first (W.length + 1) (rowV l i W) [] L) wr) := by have := HTY.out; rwa [List.take_length] at this
   have HD := Lib.hid (cplaces_any w.heap.size w.heap.size first (moS first (W.length + 1) (rowV l i W) [] L) v2 wr HTY2.out (by omega) HRE.out)
   rw [HEND.out] at HD
   clear HTY HTY2 HRE
   go_wp2_with fail
   refine HD.out.mono ?_; rintro e w5 ⟨r, rfl, ho, hb⟩
   have HPF : Hid (EndP m l V w M (.returned r) w5) := ⟨r, rfl, ho.isR, HRK.out.later hBw hb, fun X hX _ => (ho.nw.mono hBw).out hX⟩
   obtain ⟨a9, c9, hv9, -⟩ := ho.isR
   subst hv9
   clear ho hb HD HRK HRO
   generalize M.length = z at *
   go_wp2
   go_ret
   exact HPF.out
def StL (m : Nat) (l : List Nd) (V : Wd) (tb first i a : Nat) (W : Wd) (F : Nat -> Nat) (w0 : World) (x : Value) (w : World) : Prop :=
 ∃ (k : Nat) (S : List UInt8) (v : Value), x = .int .i64 (k : Int) /\ first + k <= 2000 /\ (first + S.length <= W.length + 1 \/ S = []) /\ (∀ b, b < W.length + 1 -> tyF first S b = stF l i a W F (first + k) b) /\ TyS w0.heap.size tb first v S w /\ Rk m l V w0.heap.size [] w0 w
structure StS (m : Nat) (l : List Nd) (V : Wd) (tb first : Nat) (v : Value) (S : List UInt8) (w0 : World) (w : World) : Prop where
 ty : TyS w0.heap.size tb first v S w
 rk : Rk m l V w0.heap.size [] w0 w
theorem StS.later {m : Nat} {l : List Nd} {V : Wd} {tb first : Nat} {v : Value} {S : List UInt8} {w0 w w' : World} (h : StS m l V tb first v S w0 w) (hb : Below w.heap.size w w') : StS m l V tb first v S w0 w' := ⟨h.ty.later hb, h.rk.later h.rk.size hb⟩
theorem cstar_any {A : Option Addr} {l : List Nd} {c m : Nat} {V : Wd} {i : Nat} (hF : Form l) (hi : i < l.length) (hk6 : (atN l i).kind = 6) (hE : EndsC A l c m V (atN l i).a.toNat) (rb : Nat) (u : Value) (W : Wd) (F : Nat -> Nat) (vl : Value) (w : World)
 (hr : Rdr rb A l c u W V m w) (hW : W <+: V) (hn : V.length <= 900) (hF2 : ∀ b, F b <= 2) (hv : IsR w vl (plF (W.length + 1) F)) (hne : plF (W.length + 1) F ≠ []) :
 Calls Try.prog 70 #[.pointer (some ⟨rb, 0, none⟩), .int .i64 ((atN l i).a.toNat : Int), vl] w (EndP m l V w (plF (W.length + 1) (thV l i W F))) := by
 have hWn : W.length <= 900 := by obtain ⟨t, rfl⟩ := hW; simp at hn; omega
 have HV := Lib.hid hv
 obtain ⟨Al, cl, rfl, hlc, hrow⟩ := hv
 have HF0 := Lib.hid (plF_first hne)
 have HFZ := Lib.hid (fun b (hb : b < W.length + 1) => plF_first_zero hne hb)
 have hpos : 0 < (plF (W.length + 1) F).length := List.length_pos_iff.2 hne
 have HLP : Hid (∀ p ∈ plF (W.length + 1) F, p.1 < W.length + 1 /\ p.2 <= 2) := fun p hp => by
  have := mem_plF.1 hp
  exact ⟨this.1, by rw [<- this.2.1]; exact hF2 _⟩
 have HSUM : Hid (∀ b, b < W.length + 1 -> sumAt (plF (W.length + 1) F) b = F b) := fun b hb => by rw [sumAt_plF, if_pos hb]
 have hf0 := (HLP.out _ (getD_mem0 (d := (0, 0)) hpos)).1
 have hLn : (plF (W.length + 1) F).length <= W.length + 1 := plF_length
 generalize plF (W.length + 1) F = L at *
 obtain ⟨bl, ol, hA, hblt, hc⟩ := hrow.two hne
 have d0 := (hc 0 hpos).1
 rw [Nat.zero_mul, Nat.add_zero] at d0
 obtain ⟨first, hfe⟩ : ∃ first, (L.getD 0 (0, 0)).1 = first := ⟨_, rfl⟩
 rw [hfe] at d0 hf0 HF0 HFZ
 subst hA
 have hb1 := (Below.refl w.heap.size w).alloc (Nat.le_refl _) (.cells #[.int .i64 (first : Int), .slice none 0 0] 118)
 have HTY1 : Hid (TyS w.heap.size w.heap.size first (.slice none 0 0) [] (w.alloc (.cells #[.int .i64 (first : Int), .slice none 0 0] 118))) := ⟨Blk.new w _ _, Nat.le_refl _, Own8.nil _ _⟩
 have HB1 := Lib.hid hb1
 have HV1 := Lib.hid (HV.out.later hb1)
 have HR := Lib.hid hr
 have HE := Lib.hid hE
 have hposz : (0 : Int) < (L.length : Int) := by omega
 have HA1 := Lib.hid (caddAll_any w.heap.size w.heap.size first (W.length + 1) [] (.slice none 0 0) (.slice (some ⟨bl, ol, none⟩) L.length cl) L (w.alloc (.cells #[.int .i64 (first : Int), .slice none 0 0] 118)) HTY1.out hb1.size HV1.out (by omega) (by omega) (.inr rfl) (fun p hp => ⟨HF0.out p hp, (HLP.out p hp).1, by have := (HLP.out p hp).2; omega⟩) (by omega))
 have HS1 : Hid (first + (tyAll first [] L).length <= W.length + 1) := tyAll_reach (by simp; omega) (fun p hp => ⟨HF0.out p hp, (HLP.out p hp).1⟩)
 have HT1 : Hid (∀ b, b < W.length + 1 -> tyF first (tyAll first [] L) b = stF l i (atN l i).a.toNat W F (first + 0) b) := fun b hb => by
  rw [tyF_all HF0.out (by rw [tyF_nil]; omega), tyF_nil, HSUM.out b hb, Nat.zero_add, Nat.add_zero, stF_start fun j hj => HFZ.out j (by omega) hj]
 have HDN := Lib.hid (fun (q b : Nat) (hb : b < W.length + 1) (hq : b <= q) => stF_done (F := F) hF hi hb hk6 hq)
 have HEN := Lib.hid (fun (q : Nat) (h0 : ∀ b, q <= b -> b < W.length + 1 -> stF l i (atN l i).a.toNat W F q b = 0) => stF_end hF hi hk6 h0)
 clear hr hrow hb1 hc hE hfe HF0 HFZ hne HV HV1 HLP HSUM hF2
 generalize (atN l i).a.toNat = a at *
 go_enter Try.func70, Try.ntmps70
 go_upto_region 2 with (fail)
 clear d0
 generalize w.alloc (.cells #[.int .i64 (first : Int), .slice none 0 0] 118) = w1 at *
 go_wp2_with fail
 refine HA1.out.mono ?_; rintro e w2 ⟨v2, rfl, hty, hkt⟩
 have HS0 : Hid (StL m l V w.heap.size first i a W F w (.int .i64 0) w2) := ⟨0, _, v2, rfl, by omega, .inl HS1.out, HT1.out, hty, (Rk.of_below HB1.out).kt hkt⟩
 clear hty hkt HA1 HS1 HT1 HTY1 HB1
 go_wp2
 go_loopw [8] (StL m l V w.heap.size first i a W F w) (fun x _ => 2001 - (intOf x).toNat)
 case atStart => exact HS0.out
 case round =>
  obtain ⟨k, S, v3, rfl, hk2, hS, hty3, hty, hrk⟩ := hrel
  have HT3 := Lib.hid hty3
  have HRK := Lib.hid hrk
  have HS := Lib.hid hS
  obtain ⟨A7, c7, hv7, hc7⟩ : ∃ A c, v3 = .slice A S.length c /\ S.length <= c := by
   obtain ⟨_, ⟨hv, hn⟩ | ⟨g, cap, cu, hv, _, hgg, hc, _⟩⟩ := hty.own
   ·rw [nats_length] at hn; exact ⟨none, 0, by rw [hv, hn], by omega⟩
   ·rw [nats_length] at hv hc; exact ⟨_, cap, hv, hc⟩
  subst hv7
  have HTY := Lib.hid hty
  clear hty3 hrk hS hty HS0
  have t0 := HTY.out.blk.cell 0
  have t1 := HTY.out.blk.cell 1
  simp at t0 t1
  by_cases hlt : k < S.length
  ·have hltz : (k : Int) < (S.length : Int) := by omega
   have hSn : first + S.length <= W.length + 1 := by
    rcases HS.out with h | h
    ·exact h
    ·rw [h] at hlt; exact absurd hlt (Nat.not_lt_zero _)
   obtain ⟨g, cap, cur, hvv, hbg, hblk, hcl, hcm, -, -⟩ := own8_blk HTY.out.own (fun e => by rw [e] at hlt; exact absurd hlt (Nat.not_lt_zero _))
   obtain ⟨rfl, -, rfl⟩ := Value.slice.inj hvv
   have c2 := (own8_set HTY.out.own k hlt 0).2.2.1
   have HY : Hid ((S.getD k 0).toNat = thV l i W F (first + k)) := by
    unfold Hid
    rw [<- tyF_at (first := first), HT3.out _ (by omega), HDN.out _ _ (by omega) (Nat.le_refl _)]
   have hy2 : (S.getD k 0).toNat <= 2 := by rw [HY.out]; exact thV_le
   obtain ⟨y, hye⟩ : ∃ y, (S.getD k 0).toNat = y := ⟨_, rfl⟩
   have HYE := Lib.hid hye
   rw [hye] at c2 hy2 HY
   clear hye hvv hbg hblk hcl hcm
   obtain ⟨q, hq⟩ : ∃ q, first + k = q := ⟨_, rfl⟩
   have hqz : (first : Int) + (k : Int) = (q : Int) := by omega
   rw [hq] at HY HT3
   by_cases hy : y = 0
   ·subst hy
    have hz : ¬ ((0 : Nat) : Int) > 0 := by omega
    have HT4 : Hid (∀ b, b < W.length + 1 -> tyF first S b = stF l i a W F (first + (k + 1)) b) := fun b hb => by
     rw [<- Nat.add_assoc, hq, stF_step, <- HY.out, Nat.zero_mul, Nat.add_zero, HT3.out b hb]
     have := stF_le (l := l) (i := i) (a := a) (W := W) (F := F) (q := q) (b := b)
     split <;> omega
    go_wp2
    go_roundw
    case rel => exact ⟨k + 1, S, _, by go_num, by omega, HS.out, HT4.out, HTY.out, HRK.out⟩
    case measure => simp [intOf]; omega
   ·have hz : (y : Int) > 0 := by omega
    have hyb : (y : Int) <= 2 := by omega
    have HX : Hid (StS m l V w.heap.size first (.slice (some ⟨g, 0, none⟩) S.length c7) S w wr) := ⟨HTY.out, HRK.out⟩
    have HCL : Hid (∀ w', StS m l V w.heap.size first (.slice (some ⟨g, 0, none⟩) S.length c7) S w w' -> w'.cell? ⟨w.heap.size, 0, none⟩ = some (.int .i64 (first : Int)) /\ w'.cell? ⟨w.heap.size, 1, none⟩ = some (.slice (some ⟨g, 0, none⟩) S.length c7) /\ w'.cell? ⟨g, k, none⟩ = some (.int .u8 (y : Int))) := fun w' h => by
     have c0 := h.ty.blk.cell 0
     have c1 := h.ty.blk.cell 1
     simp at c0 c1
     have c3 := (own8_set h.ty.own k hlt 0).2.2.1
     rw [HYE.out] at c3
     exact ⟨c0, c1, c3⟩
    have HKT := Lib.hid (kd_tally (first := first) (q := q) (x := y) (n := W.length + 1) (S := S) (G := rowV l a W q) (by omega) (.inl hSn) (fun b => by
     rcases Nat.lt_or_ge b (W.length + 1) with h | h
     ·rw [HT3.out b h]; exact stF_le
     ·rw [tyF_out (by omega)]; omega))
    clear HTY
    go_upto_region 7 with (fail)
    clear t0 t1 c2
    refine wp_region_stable_tail 18 (S := (StS m l V w.heap.size first (.slice (some ⟨g, 0, none⟩) S.length c7) S w)) (hSt := fun _ _ h hb => h.later hb) (plan := [[(0, none)], [(7, none)], [(1, none)], [(7, none)], [(38, some 3)], [(39, some 4)], [(40, some 5)], [(8, none)], [(41, some 6), (42, some 7)], [(7, none)], [(44, some 9)], [(45, some 10)], [(46, some 11)], [(8, none)], [(47, some 12), (48, some 13)], [(49, some 14)], [(50, some 15)], [(43, some 8), (51, some 16)]]) rfl rfl (by kernel_rfl) (by kernel_rfl) (by kernel_rfl) (by kernel_rfl) ?hS ?_
    rotate_left
    iterate 18 first
     | (refine chain_skip (by rfl) (by rfl) ?_)
     | (apply chain_want (by rfl)
        ·intro act wx hS hr
         simp at hr
         obtain ⟨t0, t1, t2⟩ := HCL.out _ hS
         go_simp
         (try go_ints)
         first
          | exact Done.same
       )
    show ∀ w', _ -> _
    intro w9 hw9
    simp [Act.put]
    case hS => exact HX.out
    have HW9 := Lib.hid hw9
    clear hw9 HX HCL
    have HC := Lib.hid (ckid_any HE.out rb u W w.heap.size w.heap.size first (.slice (some ⟨g, 0, none⟩) S.length c7) S q y w9 (HR.out.at_ (Nat.le_refl _) HW9.out.rk) hW hn HW9.out.ty HW9.out.rk.size (by omega) (by omega) (by omega) hy2 (.inl hSn))
    go_wp2_with fail
    refine HC.out.mono ?_; rintro e w4 ⟨v4, rfl, hty, hrk⟩
    have HTY4 := Lib.hid hty
    have HRK4 := Lib.hid (HW9.out.rk.then hrk)
    have HT4 : Hid (∀ b, b < W.length + 1 -> tyF first (tyAll first S (kdL q y (plF (W.length + 1) (rowV l a W q)))) b = stF l i a W F (first + (k + 1)) b) := fun b hb => by
     rw [HKT.out.2 b hb, <- Nat.add_assoc, hq, stF_step, <- HY.out, HT3.out b hb]
    have HS4 := Lib.hid HKT.out.1
    clear hty hrk HC HW9 HKT HT3
    go_wp2
    go_roundw
    case rel => exact ⟨k + 1, _, v4, by go_num, by omega, HS4.out, HT4.out, HTY4.out, HRK4.out⟩
    case measure => simp [intOf]; omega
  ·have hlast : ¬ (k : Int) < (S.length : Int) := by omega
   have hBw := HRK.out.size
   have HRE : Hid (S.length <= 1000) := by
    rcases HS.out with h | h
    ·unfold Hid; omega
    ·unfold Hid; rw [h]; exact Nat.zero_le _
   have HD := Lib.hid (cplaces_any w.heap.size w.heap.size first S (.slice A7 S.length c7) wr HTY.out (by omega) HRE.out)
   have HFN : Hid (plF (first + S.length) (tyF first S) = plF (W.length + 1) (thV l i W F)) := by
    have hz : ∀ b, first + k <= b -> b < W.length + 1 -> stF l i a W F (first + k) b = 0 := fun b h1 h2 => by
     rw [<- HT3.out b h2]; exact tyF_out (by omega)
    have hE := HEN.out _ hz
    have e : plF (W.length + 1) (tyF first S) = plF (W.length + 1) (thV l i W F) := plF_congr fun b hb => by rw [HT3.out b hb, hE b hb]
    rcases HS.out with h | h
    ·unfold Hid; rw [plF_ty_end h, e]
    ·unfold Hid
     rw [<- e, h, plF_nil fun b _ => tyF_nil, plF_nil fun b _ => tyF_nil]
   rw [HFN.out] at HD
   clear HTY HRE HFN HT3
   go_wp2_with fail
   refine HD.out.mono ?_; rintro e w5 ⟨r, rfl, ho, hb⟩
   have HPF : Hid (EndP m l V w (plF (W.length + 1) (thV l i W F)) (.returned r) w5) := ⟨r, rfl, ho.isR, HRK.out.later hBw hb, fun X hX _ => (ho.nw.mono hBw).out hX⟩
   obtain ⟨a9, c9, hv9, -⟩ := ho.isR
   subst hv9
   clear ho hb HD HRK
   generalize (plF (W.length + 1) (thV l i W F)).length = z at *
   go_wp2
   go_ret
   exact HPF.out
end Go.Proofs.Ytpbbokdmoaadfaa
namespace Go.Proofs.Ytpbbokdmoaadfaa
set_option maxHeartbeats 64000000
set_option maxRecDepth 1000000
set_option linter.all false
open Go
def crL (ks : List Nat) (P : Nat -> List (List Vl)) (g : Nat -> List Vl) : List (List Vl) := ks.flatMap fun k => (P k).flatMap fun xs => (g k).map fun x => xs ++ [x]
theorem idx_flat {α β : Type} {f : α -> List β} {l1 : List α} {a : α} {l2 : List α} {j : Nat} {b : β} (h : (f a)[j]? = some b) : ((l1 ++ a :: l2).flatMap f)[(l1.map fun x => (f x).length).sum + j]? = some b := by
 rw [List.flatMap_append, List.getElem?_append_right (by rw [List.length_flatMap]; omega), List.length_flatMap, Nat.add_sub_cancel_left, List.flatMap_cons, List.getElem?_append_left (List.getElem?_eq_some_iff.1 h).1]
 exact h
theorem len_fm2 {P : List (List Vl)} {g : List Vl} : (P.flatMap fun xs => g.map fun x => xs ++ [x]).length = P.length * g.length := by
 rw [len_fc (n := g.length)]
 intro a _
 rw [List.length_map]
theorem idx_two {P : List (List Vl)} {g : List Vl} {ρ σ : Nat} {xs : List Vl} {x : Vl} (h1 : P[ρ]? = some xs) (h2 : g[σ]? = some x) : (P.flatMap fun xs => g.map fun x => xs ++ [x])[ρ * g.length + σ]? = some (xs ++ [x]) := by
 obtain ⟨hl, he⟩ := List.getElem?_eq_some_iff.1 h1
 have e : P = P.take ρ ++ xs :: P.drop (ρ + 1) := by
  conv => lhs; rw [<- List.take_append_drop ρ P]
  congr 1
  rw [List.drop_eq_getElem_cons hl, he]
 have hs : ((P.take ρ).map fun xs => (g.map fun x => xs ++ [x]).length).sum = ρ * g.length := by
  have : ∀ (l : List (List Vl)), (l.map fun xs => (g.map fun x => xs ++ [x]).length).sum = l.length * g.length := fun l => by
   induction l with
   | nil => simp
   | cons a l ih => rw [List.map_cons, List.sum_cons, ih, List.length_map, List.length_cons, Nat.add_mul]; omega
  rw [this, List.length_take, Nat.min_eq_left (by omega)]
 conv => lhs; rw [e]
 rw [<- hs]
 exact idx_flat (by rw [List.getElem?_map, h2]; rfl)
theorem cr_len {ks : List Nat} {P : Nat -> List (List Vl)} {g : Nat -> List Vl} : (crL ks P g).length = (ks.map fun k => (P k).length * (g k).length).sum := by
 unfold crL
 rw [List.length_flatMap]
 congr 1
 exact List.map_congr_left fun k _ => len_fm2
theorem cr_idx {k1 : List Nat} {k : Nat} {k2 : List Nat} {P : Nat -> List (List Vl)} {g : Nat -> List Vl} {ρ σ : Nat} {xs : List Vl} {x : Vl} (h1 : (P k)[ρ]? = some xs) (h2 : (g k)[σ]? = some x) :
 (crL (k1 ++ k :: k2) P g)[(k1.map fun k => (P k).length * (g k).length).sum + (ρ * (g k).length + σ)]? = some (xs ++ [x]) := by
 have := idx_flat (f := fun k => (P k).flatMap fun xs => (g k).map fun x => xs ++ [x]) (l1 := k1) (a := k) (l2 := k2) (idx_two h1 h2)
 rw [List.map_congr_left (g := fun k => (P k).length * (g k).length) fun k _ => len_fm2] at this
 exact this
theorem crL_congr {P P' : Nat -> List (List Vl)} {g g' : Nat -> List Vl} : ∀ {ks : List Nat}, (∀ k ∈ ks, P k = P' k) -> (∀ k ∈ ks, g k = g' k) -> crL ks P g = crL ks P' g'
 | [], _, _ => rfl
 | k :: ks, h, h' => by
  have ih := crL_congr (fun j hj => h j (List.mem_cons_of_mem _ hj)) (fun j hj => h' j (List.mem_cons_of_mem _ hj))
  have h1 := h k (by simp)
  have h2 := h' k (by simp)
  unfold crL at ih ⊢
  rw [List.flatMap_cons, List.flatMap_cons, ih]
  simp only [h1, h2]
theorem mem_cr {ks : List Nat} {P : Nat -> List (List Vl)} {g : Nat -> List Vl} {ys : List Vl} : ys ∈ crL ks P g ↔ ∃ k ∈ ks, ∃ xs ∈ P k, ∃ x ∈ g k, ys = xs ++ [x] := by
 unfold crL
 constructor
 ·intro h
  obtain ⟨k, hk, h⟩ := List.mem_flatMap.1 h
  obtain ⟨xs, hx, h⟩ := List.mem_flatMap.1 h
  obtain ⟨x, hx2, rfl⟩ := List.mem_map.1 h
  exact ⟨k, hk, xs, hx, x, hx2, rfl⟩
 ·rintro ⟨k, hk, xs, hx, x, hx2, rfl⟩
  exact List.mem_flatMap.2 ⟨k, hk, List.mem_flatMap.2 ⟨xs, hx, List.mem_map.2 ⟨x, hx2, rfl⟩⟩⟩
theorem snoc_inj {α : Type} {a b : List α} {x y : α} (h : a ++ [x] = b ++ [y]) : a = b /\ x = y := by
 have := List.append_inj' h rfl
 exact ⟨this.1, by simpa using this.2⟩
theorem nodup_cr {ks : List Nat} {P : Nat -> List (List Vl)} {g : Nat -> List Vl} (hk : ks.Nodup) (hP : ∀ k ∈ ks, (P k).Nodup) (hg : ∀ k ∈ ks, (g k).Nodup) (hd : ∀ j ∈ ks, ∀ k ∈ ks, ∀ x, x ∈ g j -> x ∈ g k -> j = k) : (crL ks P g).Nodup := by
 refine nodup_fm hk (fun k hk' => nodup_fm (hP k hk') (fun xs _ => nodup_mp (hg k hk') fun a _ b _ e => (snoc_inj e).2) ?_) ?_
 ·intro a _ b _ y ha hb
  obtain ⟨x, _, rfl⟩ := List.mem_map.1 ha
  obtain ⟨x', _, e⟩ := List.mem_map.1 hb
  exact (snoc_inj e).1.symm
 ·intro j hj k hk' y h1 h2
  obtain ⟨xs, _, h1⟩ := List.mem_flatMap.1 h1
  obtain ⟨x, hx, rfl⟩ := List.mem_map.1 h1
  obtain ⟨xs', _, h2⟩ := List.mem_flatMap.1 h2
  obtain ⟨x', hx', e⟩ := List.mem_map.1 h2
  rw [<- (snoc_inj e).2] at hx
  exact hd j hj k hk' _ hx hx'
def stE (g : Wd -> List Vl) : Nat -> Wd -> List (List Vl)
 | 0, u => if u = [] then [[]] else []
 | f + 1, u => if u = [] then [[]] else crL (List.range u.length).reverse (fun k => stE g f (u.take k)) fun k => g (u.drop k)
def rtE (g : Wd -> List Vl) : Nat -> Wd -> List (List Vl)
 | 0, u => if u = [] then [[]] else []
 | t + 1, u => crL (List.range u.length).reverse (fun k => rtE g t (u.take k)) fun k => g (u.drop k)
def sqE : List (Wd -> List Vl) -> Wd -> List (List Vl)
 | [], u => if u = [] then [[]] else []
 | g :: gs, u => crL (List.range (u.length + 1)) (fun k => sqE gs (u.take k)) fun k => g (u.drop k)
theorem stE_succ {g : Wd -> List Vl} {f : Nat} {u : Wd} : stE g (f + 1) u = if u = [] then [[]] else crL (List.range u.length).reverse (fun k => stE g f (u.take k)) fun k => g (u.drop k) := rfl
theorem stE_none {g : Wd -> List Vl} {f : Nat} {u : Wd} (h : u = []) : stE g f u = [[]] := by
 cases f with
 | zero => unfold stE; rw [if_pos h]
 | succ f => rw [stE_succ, if_pos h]
theorem stE_fuel {g : Wd -> List Vl} : ∀ {f f' : Nat} {u : Wd}, u.length <= f -> u.length <= f' -> stE g f u = stE g f' u
 | 0, f', u, h, _ => by
  have : u = [] := List.length_eq_zero_iff.1 (by omega)
  rw [stE_none this, stE_none this]
 | f + 1, 0, u, _, h => by
  have : u = [] := List.length_eq_zero_iff.1 (by omega)
  rw [stE_none this, stE_none this]
 | f + 1, f' + 1, u, h, h' => by
  rw [stE_succ, stE_succ]
  by_cases hu : u = []
  ·rw [if_pos hu, if_pos hu]
  ·rw [if_neg hu, if_neg hu]
   refine crL_congr (fun k hk => ?_) fun _ _ => rfl
   have := List.mem_range.1 (List.mem_reverse.1 hk)
   exact stE_fuel (by rw [List.length_take]; omega) (by rw [List.length_take]; omega)
def stW (g : Wd -> List Vl) (u : Wd) : List (List Vl) := stE g u.length u
theorem stW_nil {g : Wd -> List Vl} : stW g [] = [[]] := rfl
theorem stW_eq {g : Wd -> List Vl} {u : Wd} (h : u ≠ []) : stW g u = crL (List.range u.length).reverse (fun k => stW g (u.take k)) fun k => g (u.drop k) := by
 have hl : 0 < u.length := List.length_pos_iff.2 h
 obtain ⟨m, hm⟩ : ∃ m, u.length = m + 1 := ⟨u.length - 1, by omega⟩
 unfold stW
 rw [hm, stE_succ, if_neg h, hm]
 refine crL_congr (fun k hk => ?_) fun _ _ => rfl
 have := List.mem_range.1 (List.mem_reverse.1 hk)
 exact stE_fuel (by rw [List.length_take]; omega) (Nat.le_refl _)
theorem sum_rev {n : Nat} {f : Nat -> Nat} : ((List.range n).reverse.map f).sum = sg n f := by rw [List.map_reverse, List.sum_reverse]; rfl
def upS (p b : Nat) (f : Nat -> Nat) : Nat := sg (b - p - 1) fun j => f (p + 1 + j)
theorem rev_split {n k : Nat} (h : k < n) : (List.range n).reverse = ((List.range (n - k - 1)).map fun j => k + 1 + j).reverse ++ k :: (List.range k).reverse := by
 have : List.range n = List.range k ++ k :: (List.range (n - k - 1)).map fun j => k + 1 + j := by
  have e : n = k + (1 + (n - k - 1)) := by omega
  conv => lhs; rw [e]
  rw [List.range_add, List.range_add]
  simp [Nat.add_assoc]
 rw [this, List.reverse_append, List.reverse_cons]
 simp
theorem cr_idx_rev {n k : Nat} {P : Nat -> List (List Vl)} {g : Nat -> List Vl} {ρ σ : Nat} {xs : List Vl} {x : Vl} (h : k < n) (h1 : (P k)[ρ]? = some xs) (h2 : (g k)[σ]? = some x) :
 (crL (List.range n).reverse P g)[upS k n (fun k => (P k).length * (g k).length) + (ρ * (g k).length + σ)]? = some (xs ++ [x]) := by
 have := cr_idx (k1 := ((List.range (n - k - 1)).map fun j => k + 1 + j).reverse) (k2 := (List.range k).reverse) h1 h2
 rw [<- rev_split h, List.map_reverse, List.sum_reverse, List.map_map] at this
 exact this
theorem cr_idx_fwd {n k : Nat} {P : Nat -> List (List Vl)} {g : Nat -> List Vl} {ρ σ : Nat} {xs : List Vl} {x : Vl} (h : k < n) (h1 : (P k)[ρ]? = some xs) (h2 : (g k)[σ]? = some x) :
 (crL (List.range n) P g)[sg k (fun k => (P k).length * (g k).length) + (ρ * (g k).length + σ)]? = some (xs ++ [x]) := by
 have e : List.range n = List.range k ++ k :: (List.range (n - k - 1)).map fun j => k + 1 + j := by
  have e : n = k + (1 + (n - k - 1)) := by omega
  conv => lhs; rw [e]
  rw [List.range_add, List.range_add]
  simp [Nat.add_assoc]
 rw [e]
 exact cr_idx h1 h2
theorem rows_of {g : Wd -> List Vl} {xs : List Vl} {u v : Wd} {x : Vl} (hv : v ≠ []) (hx : x ∈ g v) (h : ∃ ws : List Wd, ws.length = xs.length /\ ws.flatten = u /\ (∀ j, j < xs.length -> xs.getD j vl0 ∈ g (ws.getD j [])) /\ ∀ w ∈ ws, w ≠ []) :
 ∃ ws : List Wd, ws.length = (xs ++ [x]).length /\ ws.flatten = u ++ v /\ (∀ j, j < (xs ++ [x]).length -> (xs ++ [x]).getD j vl0 ∈ g (ws.getD j [])) /\ ∀ w ∈ ws, w ≠ [] := by
 obtain ⟨ws, h1, h2, h3, h4⟩ := h
 refine ⟨ws ++ [v], by simp [h1], by simp [h2], fun j hj => ?_, fun w hw => ?_⟩
 ·rcases Nat.lt_or_ge j xs.length with h | h
  ·rw [getD_ap h, getD_ap (by omega)]; exact h3 j h
  ·have : j = xs.length := by simp at hj; omega
   rw [getD_ap1 this, getD_ap1 (by omega)]; exact hx
 ·rcases List.mem_append.1 hw with h | h
  ·exact h4 w h
  ·rw [List.mem_singleton.1 h]; exact hv
theorem drop_ne {u : Wd} {k : Nat} (h : k < u.length) : u.drop k ≠ [] := fun e => by
 have := congrArg List.length e
 rw [List.length_drop] at this
 simp at this; omega
theorem stW_sound {g : Wd -> List Vl} : ∀ (m : Nat) {u : Wd} {xs : List Vl}, u.length <= m -> xs ∈ stW g u -> ∃ ws : List Wd, ws.length = xs.length /\ ws.flatten = u /\ (∀ j, j < xs.length -> xs.getD j vl0 ∈ g (ws.getD j [])) /\ ∀ w ∈ ws, w ≠ [] := by
 intro m
 induction m with
 | zero =>
  intro u xs hm h
  have hu : u = [] := List.length_eq_zero_iff.1 (by omega)
  subst hu
  rw [stW_nil, List.mem_singleton] at h
  subst h
  exact ⟨[], rfl, rfl, fun j hj => absurd hj (Nat.not_lt_zero j), fun w hw => by cases hw⟩
 | succ m ih =>
  intro u xs hm h
  by_cases hu : u = []
  ·subst hu
   rw [stW_nil, List.mem_singleton] at h
   subst h
   exact ⟨[], rfl, rfl, fun j hj => absurd hj (Nat.not_lt_zero j), fun w hw => by cases hw⟩
  ·rw [stW_eq hu] at h
   obtain ⟨k, hk, ys, hy, x, hx, rfl⟩ := mem_cr.1 h
   have hk := List.mem_range.1 (List.mem_reverse.1 hk)
   have := rows_of (drop_ne hk) hx (ih (by rw [List.length_take]; omega) hy)
   rwa [List.take_append_drop] at this
theorem rtE_sound {g : Wd -> List Vl} : ∀ (t : Nat) {u : Wd} {xs : List Vl}, xs ∈ rtE g t u -> xs.length = t /\ ∃ ws : List Wd, ws.length = xs.length /\ ws.flatten = u /\ (∀ j, j < xs.length -> xs.getD j vl0 ∈ g (ws.getD j [])) /\ ∀ w ∈ ws, w ≠ [] := by
 intro t
 induction t with
 | zero =>
  intro u xs h
  unfold rtE at h
  split at h
  ·rename_i hu
   subst hu
   rw [List.mem_singleton] at h
   subst h
   exact ⟨rfl, [], rfl, rfl, fun j hj => absurd hj (Nat.not_lt_zero j), fun w hw => by cases hw⟩
  ·cases h
 | succ t ih =>
  intro u xs h
  unfold rtE at h
  obtain ⟨k, hk, ys, hy, x, hx, rfl⟩ := mem_cr.1 h
  have hk := List.mem_range.1 (List.mem_reverse.1 hk)
  obtain ⟨h1, h2⟩ := ih hy
  have := rows_of (drop_ne hk) hx h2
  rw [List.take_append_drop] at this
  exact ⟨by simp [h1], this⟩
theorem drop_det {u : Wd} {j k : Nat} (hj : j <= u.length) (hk : k <= u.length) (h : u.drop j = u.drop k) : j = k := by
 have := congrArg List.length h
 rw [List.length_drop, List.length_drop] at this
 omega
theorem range_nodup {n : Nat} : (List.range n).Nodup := List.nodup_range
theorem range_rev {n : Nat} : (List.range n).reverse.Nodup := by
 unfold List.Nodup
 rw [List.pairwise_reverse]
 exact (range_nodup (n := n)).imp fun h => Ne.symm h
theorem nodup_stW {g : Wd -> List Vl} (hg : ∀ u, (g u).Nodup) (hd : ∀ x u u', x ∈ g u -> x ∈ g u' -> u = u') : ∀ (m : Nat) {u : Wd}, u.length <= m -> (stW g u).Nodup := by
 intro m
 induction m with
 | zero =>
  intro u hm
  have hu : u = [] := List.length_eq_zero_iff.1 (by omega)
  subst hu
  exact List.pairwise_singleton _ _
 | succ m ih =>
  intro u hm
  by_cases hu : u = []
  ·subst hu; exact List.pairwise_singleton _ _
  ·rw [stW_eq hu]
   refine nodup_cr (range_rev) (fun k hk => ?_) (fun k _ => hg _) (fun j hj k hk x h1 h2 => ?_)
   ·have := List.mem_range.1 (List.mem_reverse.1 hk)
    exact ih (by rw [List.length_take]; omega)
   ·have := List.mem_range.1 (List.mem_reverse.1 hk)
    have := List.mem_range.1 (List.mem_reverse.1 hj)
    exact drop_det (by omega) (by omega) (hd x _ _ h1 h2)
theorem nodup_rtE {g : Wd -> List Vl} (hg : ∀ u, (g u).Nodup) (hd : ∀ x u u', x ∈ g u -> x ∈ g u' -> u = u') : ∀ (t : Nat) {u : Wd}, (rtE g t u).Nodup := by
 intro t
 induction t with
 | zero =>
  intro u
  unfold rtE
  split
  ·exact List.pairwise_singleton _ _
  ·exact List.Pairwise.nil
 | succ t ih =>
  intro u
  unfold rtE
  refine nodup_cr (range_rev) (fun k _ => ih) (fun k _ => hg _) (fun j hj k hk x h1 h2 => ?_)
  have := List.mem_range.1 (List.mem_reverse.1 hk)
  have := List.mem_range.1 (List.mem_reverse.1 hj)
  exact drop_det (by omega) (by omega) (hd x _ _ h1 h2)
theorem nodup_sqE : ∀ {gs : List (Wd -> List Vl)}, (∀ g ∈ gs, (∀ u, (g u).Nodup) /\ ∀ x u u', x ∈ g u -> x ∈ g u' -> u = u') -> ∀ {u : Wd}, (sqE gs u).Nodup
 | [], _, u => by
  unfold sqE
  split
  ·exact List.pairwise_singleton _ _
  ·exact List.Pairwise.nil
 | g :: gs, h, u => by
  unfold sqE
  have hg := h g (by simp)
  refine nodup_cr range_nodup (fun k _ => nodup_sqE fun g' hg' => h g' (List.mem_cons_of_mem _ hg')) (fun k _ => hg.1 _) (fun j hj k hk x h1 h2 => ?_)
  have := List.mem_range.1 hk
  have := List.mem_range.1 hj
  exact drop_det (by omega) (by omega) (hg.2 x _ _ h1 h2)
theorem sqE_sound : ∀ {gs : List (Wd -> List Vl)} {u : Wd} {xs : List Vl}, xs ∈ sqE gs u -> xs.length = gs.length /\ ∃ ws : List Wd, ws.length = gs.length /\ ws.flatten = u /\ ∀ j, j < gs.length -> ∀ g, gs.reverse[j]? = some g -> xs.getD j vl0 ∈ g (ws.getD j [])
 | [], u, xs, h => by
  unfold sqE at h
  split at h
  ·rename_i hu
   rw [List.mem_singleton] at h
   subst h
   exact ⟨rfl, [], rfl, hu.symm, fun j hj => absurd hj (Nat.not_lt_zero j)⟩
  ·cases h
 | g :: gs, u, xs, h => by
  unfold sqE at h
  obtain ⟨k, hk, ys, hy, x, hx, rfl⟩ := mem_cr.1 h
  obtain ⟨h1, ws, h2, h3, h4⟩ := sqE_sound hy
  refine ⟨by simp [h1], ws ++ [u.drop k], by simp [h2], by simp [h3], fun j hj g' hg' => ?_⟩
  rw [List.reverse_cons] at hg'
  rcases Nat.lt_or_ge j gs.length with h | h
  ·rw [List.getElem?_append_left (by rw [List.length_reverse]; exact h)] at hg'
   rw [getD_ap (by omega), getD_ap (by omega)]
   exact h4 j h g' hg'
  ·have e : j = gs.length := by simp at hj; omega
   rw [List.getElem?_append_right (by rw [List.length_reverse]; exact h), List.length_reverse, e, Nat.sub_self] at hg'
   cases hg'
   rw [getD_ap1 (by omega), getD_ap1 (by omega)]
   exact hx
theorem rep_lo {l : List Nd} (hF : Form l) {i : Nat} (hi : i < l.length) (hk : (atN l i).kind = 7) : 0 <= (atN l i).lo /\ (atN l i).lo <= (atN l i).hi /\ (atN l i).hi <= 255 := by
 have hcs := (hF.2.1 i hi).cs rfl
 cases hcs with
 | leaf h1 hf => unfold leafK at h1; omega
 | one h1 hi0 ha hb h7 hr hcl hf => exact hr hk
 | two h1 hi0 hb ha hf0 hl hcl hf => omega
def memN (l : List Nd) (i : Nat) : List Nat :=
 if h : (atN l i).kind = 4 /\ (atN l i).a.toNat < i /\ (atN l i).b.toNat < i then memN l (atN l i).a.toNat ++ memN l (atN l i).b.toNat else [i]
termination_by i
decreasing_by all_goals omega
def nestN (l : List Nd) (i : Nat) (xs : List Vl) : Vl :=
 if h : (atN l i).kind = 4 /\ (atN l i).a.toNat < i /\ (atN l i).b.toNat < i then ⟨4, 0, [], 0, Vs.of [nestN l (atN l i).a.toNat (xs.take (memN l (atN l i).a.toNat).length), nestN l (atN l i).b.toNat (xs.drop (memN l (atN l i).a.toNat).length)]⟩ else xs.getD 0 vl0
termination_by i
decreasing_by all_goals omega
def EN (l : List Nd) (i : Nat) (u : Wd) : List Vl :=
 if (atN l i).kind = 1 then (if u = [] then [⟨1, 0, [], 0, .nil⟩] else [])
 else if (atN l i).kind = 2 then (if u.length = 1 /\ (atN l i).cls.getLsbD (u.getD 0 0).toNat = true then [⟨2, u.getD 0 0, [], 0, .nil⟩] else [])
 else if (atN l i).kind = 3 then (if u = (atN l i).text then [⟨3, 0, (atN l i).text, 0, .nil⟩] else [])
 else if (atN l i).kind = 4 then (sqE ((memN l i).reverse.map fun j u => if h : j < i then EN l j u else []) u).map (nestN l i)
 else if (atN l i).kind = 5 then ((if h : (atN l i).a.toNat < i then EN l (atN l i).a.toNat u else []).map fun x => ⟨5, 0, [], 0, Vs.of [x]⟩) ++ ((if h : (atN l i).b.toNat < i then EN l (atN l i).b.toNat u else []).map fun x => ⟨5, 0, [], 1, Vs.of [x]⟩)
 else if (atN l i).kind = 6 then (stW (fun u => if h : (atN l i).a.toNat < i then EN l (atN l i).a.toNat u else []) u).map fun xs => ⟨6, 0, [], 0, Vs.of xs⟩
 else if (atN l i).kind = 7 then ((List.range ((atN l i).hi + 1 - (atN l i).lo).toNat).flatMap fun t => rtE (fun u => if h : (atN l i).a.toNat < i then EN l (atN l i).a.toNat u else []) ((atN l i).lo.toNat + t) u).map fun xs => ⟨7, 0, [], 0, Vs.of xs⟩
 else if (atN l i).kind = 8 then (if 1 <= u.length /\ u.length - 1 <= 255 /\ u.getD 0 0 = byU (u.length - 1) then (if h : (atN l i).a.toNat < i then EN l (atN l i).a.toNat (u.drop 1) else []).map (fun x => ⟨8, 0, [], 0, Vs.of [x]⟩) else [])
 else if (atN l i).kind = 9 then (if 2 <= u.length /\ u.length - 2 <= 65535 /\ u.getD 0 0 = byU ((u.length - 2) / 256) /\ u.getD 1 0 = byU ((u.length - 2) % 256) then (if h : (atN l i).a.toNat < i then EN l (atN l i).a.toNat (u.drop 2) else []).map (fun x => ⟨9, 0, [], 0, Vs.of [x]⟩) else [])
 else []
termination_by i
decreasing_by all_goals omega
section
variable {l : List Nd} {i : Nat} {u : Wd} (hF : Form l)
include hF
theorem memN_k4 (hi : i < l.length) (hk : (atN l i).kind = 4) : memN l i = memN l (atN l i).a.toNat ++ memN l (atN l i).b.toNat := by
 have ha := cnt_kidA hF hi (by omega)
 have hb := cnt_kidB hF hi (.inl hk)
 conv => lhs; rw [memN]
 rw [dif_pos ⟨hk, ha, hb⟩]
omit hF in
theorem memN_one (hk : (atN l i).kind ≠ 4) : memN l i = [i] := by
 rw [memN, dif_neg (fun h => hk h.1)]
theorem nestN_k4 (hi : i < l.length) (hk : (atN l i).kind = 4) {xs : List Vl} : nestN l i xs = ⟨4, 0, [], 0, Vs.of [nestN l (atN l i).a.toNat (xs.take (memN l (atN l i).a.toNat).length), nestN l (atN l i).b.toNat (xs.drop (memN l (atN l i).a.toNat).length)]⟩ := by
 have ha := cnt_kidA hF hi (by omega)
 have hb := cnt_kidB hF hi (.inl hk)
 conv => lhs; rw [nestN]
 rw [dif_pos ⟨hk, ha, hb⟩]
omit hF in
theorem nestN_one (hk : (atN l i).kind ≠ 4) {xs : List Vl} : nestN l i xs = xs.getD 0 vl0 := by
 rw [nestN, dif_neg (fun h => hk h.1)]
theorem memN_le : ∀ {i : Nat}, i < l.length -> ∀ j ∈ memN l i, j <= i /\ (atN l j).kind ≠ 4 := by
 intro i
 induction i using Nat.strongRecOn with
 | ind i ih =>
  intro hi j hj
  by_cases hk : (atN l i).kind = 4
  ·have ha := cnt_kidA hF hi (by omega)
   have hb := cnt_kidB hF hi (.inl hk)
   rw [memN_k4 hF hi hk] at hj
   rcases List.mem_append.1 hj with h | h
   ·have := ih _ ha (by omega) j h; exact ⟨by omega, this.2⟩
   ·have := ih _ hb (by omega) j h; exact ⟨by omega, this.2⟩
  ·rw [memN_one hk, List.mem_singleton] at hj
   subst hj
   exact ⟨Nat.le_refl _, hk⟩
theorem memN_lt (hi : i < l.length) (hk : (atN l i).kind = 4) : ∀ j ∈ memN l i, j < i := fun j hj => by
 have := memN_le hF hi j hj
 rcases Nat.lt_or_ge j i with h | h
 ·exact h
 ·obtain rfl : j = i := by omega
  exact absurd hk this.2
theorem memN_pos : ∀ {i : Nat}, i < l.length -> 1 <= (memN l i).length := by
 intro i
 induction i using Nat.strongRecOn with
 | ind i ih =>
  intro hi
  by_cases hk : (atN l i).kind = 4
  ·have ha := cnt_kidA hF hi (by omega)
   rw [memN_k4 hF hi hk, List.length_append]
   have := ih _ ha (by omega); omega
  ·rw [memN_one hk]; exact Nat.le_refl _
theorem EN_k4 (hi : i < l.length) (hk : (atN l i).kind = 4) : EN l i u = (sqE ((memN l i).reverse.map (EN l)) u).map (nestN l i) := by
 have hm := memN_lt hF hi hk
 conv => lhs; rw [EN]
 rw [if_neg (by omega), if_neg (by omega), if_neg (by omega), if_pos hk]
 congr 2
 refine List.map_congr_left fun j hj => ?_
 funext u
 rw [dif_pos (hm j (List.mem_reverse.1 hj))]
theorem EN_k5 (hi : i < l.length) (hk : (atN l i).kind = 5) : EN l i u = ((EN l (atN l i).a.toNat u).map fun x => ⟨5, 0, [], 0, Vs.of [x]⟩) ++ (EN l (atN l i).b.toNat u).map fun x => ⟨5, 0, [], 1, Vs.of [x]⟩ := by
 have ha := cnt_kidA hF hi (by omega)
 have hb := cnt_kidB hF hi (.inr hk)
 conv => lhs; rw [EN]
 rw [if_neg (by omega), if_neg (by omega), if_neg (by omega), if_neg (by omega), if_pos hk, dif_pos ha, dif_pos hb]
theorem EN_kid (hi : i < l.length) (hk : 6 <= (atN l i).kind) : (fun u => if h : (atN l i).a.toNat < i then EN l (atN l i).a.toNat u else []) = EN l (atN l i).a.toNat := by
 have ha := cnt_kidA hF hi (by omega)
 funext u
 rw [dif_pos ha]
theorem EN_k6 (hi : i < l.length) (hk : (atN l i).kind = 6) : EN l i u = (stW (EN l (atN l i).a.toNat) u).map fun xs => ⟨6, 0, [], 0, Vs.of xs⟩ := by
 conv => lhs; rw [EN]
 rw [if_neg (by omega), if_neg (by omega), if_neg (by omega), if_neg (by omega), if_neg (by omega), if_pos hk, EN_kid hF hi (by omega)]
theorem EN_k7 (hi : i < l.length) (hk : (atN l i).kind = 7) : EN l i u = ((List.range ((atN l i).hi + 1 - (atN l i).lo).toNat).flatMap fun t => rtE (EN l (atN l i).a.toNat) ((atN l i).lo.toNat + t) u).map fun xs => ⟨7, 0, [], 0, Vs.of xs⟩ := by
 conv => lhs; rw [EN]
 rw [if_neg (by omega), if_neg (by omega), if_neg (by omega), if_neg (by omega), if_neg (by omega), if_neg (by omega), if_pos hk, EN_kid hF hi (by omega)]
theorem EN_k8 (hi : i < l.length) (hk : (atN l i).kind = 8) : EN l i u = if 1 <= u.length /\ u.length - 1 <= 255 /\ u.getD 0 0 = byU (u.length - 1) then (EN l (atN l i).a.toNat (u.drop 1)).map (fun x => ⟨8, 0, [], 0, Vs.of [x]⟩) else [] := by
 have ha := cnt_kidA hF hi (by omega)
 conv => lhs; rw [EN]
 rw [if_neg (by omega), if_neg (by omega), if_neg (by omega), if_neg (by omega), if_neg (by omega), if_neg (by omega), if_neg (by omega), if_pos hk, dif_pos ha]
theorem EN_k9 (hi : i < l.length) (hk : (atN l i).kind = 9) : EN l i u = if 2 <= u.length /\ u.length - 2 <= 65535 /\ u.getD 0 0 = byU ((u.length - 2) / 256) /\ u.getD 1 0 = byU ((u.length - 2) % 256) then (EN l (atN l i).a.toNat (u.drop 2)).map (fun x => ⟨9, 0, [], 0, Vs.of [x]⟩) else [] := by
 have ha := cnt_kidA hF hi (by omega)
 conv => lhs; rw [EN]
 rw [if_neg (by omega), if_neg (by omega), if_neg (by omega), if_neg (by omega), if_neg (by omega), if_neg (by omega), if_neg (by omega), if_neg (by omega), if_pos hk, dif_pos ha]
omit hF in
theorem EN_k123 (hk : (atN l i).kind <= 3) : EN l i u = vlsN l (i + 1) i u := by
 conv => lhs; rw [EN]
 unfold vlsN
 by_cases h1 : (atN l i).kind = 1
 ·rw [if_pos h1, if_pos h1]
 by_cases h2 : (atN l i).kind = 2
 ·rw [if_neg h1, if_pos h2, if_neg h1, if_pos h2]
 by_cases h3 : (atN l i).kind = 3
 ·rw [if_neg h1, if_neg h2, if_pos h3, if_neg h1, if_neg h2, if_pos h3]
 ·repeat rw [if_neg (by omega)]
theorem nest_wr : ∀ {i : Nat}, i < l.length -> ∀ (xs : List Vl) (ws : List Wd), xs.length = (memN l i).length -> ws.length = (memN l i).length -> (∀ j m, (memN l i)[j]? = some m -> wrV l m (xs.getD j vl0) = some (ws.getD j [])) -> wrV l i (nestN l i xs) = some ws.flatten := by
 intro i
 induction i using Nat.strongRecOn with
 | ind i ih =>
  intro hi xs ws hx hw h
  by_cases hk : (atN l i).kind = 4
  ·have ha := cnt_kidA hF hi (by omega)
   have hb := cnt_kidB hF hi (.inl hk)
   rw [memN_k4 hF hi hk] at hx hw h
   rw [nestN_k4 hF hi hk]
   obtain ⟨m, hm⟩ : ∃ m, (memN l (atN l i).a.toNat).length = m := ⟨_, rfl⟩
   rw [List.length_append, hm] at hx hw
   have h1 := ih _ ha (by omega) (xs.take m) (ws.take m) (by rw [List.length_take, hm]; omega) (by rw [List.length_take, hm]; omega) (fun j k hj => by
    have hjl := (List.getElem?_eq_some_iff.1 hj).1
    have := h j k (by rw [List.getElem?_append_left hjl]; exact hj)
    rw [List.getD_eq_getElem?_getD, List.getD_eq_getElem?_getD, List.getElem?_take_of_lt (by omega), List.getElem?_take_of_lt (by omega), <- List.getD_eq_getElem?_getD, <- List.getD_eq_getElem?_getD]
    exact this)
   have h2 := ih _ hb (by omega) (xs.drop m) (ws.drop m) (by rw [List.length_drop]; omega) (by rw [List.length_drop]; omega) (fun j k hj => by
    have := h (m + j) k (by rw [List.getElem?_append_right (by omega), hm, Nat.add_sub_cancel_left]; exact hj)
    rw [List.getD_eq_getElem?_getD, List.getD_eq_getElem?_getD, List.getElem?_drop, List.getElem?_drop, <- List.getD_eq_getElem?_getD, <- List.getD_eq_getElem?_getD]
    exact this)
   rw [hm, wr_k4 rfl hk, if_pos ⟨rfl, rfl, rfl, rfl, rfl⟩]
   have e0 : ∀ x y : Vl, (Vs.of [x, y]).at 0 = x := fun x y => by unfold Vs.at; rw [Vs.list_of]; rfl
   have e1 : ∀ x y : Vl, (Vs.of [x, y]).at 1 = y := fun x y => by unfold Vs.at; rw [Vs.list_of]; rfl
   simp only [e0, e1]
   rw [h1, h2]
   show some (_ ++ _) = _
   rw [<- List.flatten_append, List.take_append_drop]
  ·rw [memN_one hk] at hx hw h
   rw [nestN_one hk, h 0 i rfl]
   obtain ⟨w, rfl⟩ := List.length_eq_one_iff.1 hw
   simp
theorem nest_inj : ∀ {i : Nat}, i < l.length -> ∀ (xs ys : List Vl), xs.length = (memN l i).length -> ys.length = (memN l i).length -> nestN l i xs = nestN l i ys -> xs = ys := by
 intro i
 induction i using Nat.strongRecOn with
 | ind i ih =>
  intro hi xs ys hx hy h
  by_cases hk : (atN l i).kind = 4
  ·have ha := cnt_kidA hF hi (by omega)
   have hb := cnt_kidB hF hi (.inl hk)
   rw [memN_k4 hF hi hk] at hx hy
   rw [nestN_k4 hF hi hk, nestN_k4 hF hi hk] at h
   obtain ⟨m, hm⟩ : ∃ m, (memN l (atN l i).a.toNat).length = m := ⟨_, rfl⟩
   rw [List.length_append, hm] at hx hy
   rw [hm] at h
   have h := of_inj (Vl.mk.inj h).2.2.2.2
   simp only [List.cons.injEq, and_true] at h
   have h1 := ih _ ha (by omega) _ _ (by rw [List.length_take, hm]; omega) (by rw [List.length_take, hm]; omega) h.1
   have h2 := ih _ hb (by omega) _ _ (by rw [List.length_drop]; omega) (by rw [List.length_drop]; omega) h.2
   rw [<- List.take_append_drop m xs, h1, h2, List.take_append_drop]
  ·rw [memN_one hk] at hx hy
   rw [nestN_one hk, nestN_one hk] at h
   obtain ⟨x, rfl⟩ := List.length_eq_one_iff.1 hx
   obtain ⟨y, rfl⟩ := List.length_eq_one_iff.1 hy
   have : x = y := by simpa using h
   rw [this]
theorem EN_sound : ∀ {i : Nat}, i < l.length -> (∀ u v, v ∈ EN l i u -> wrV l i v = some u) /\ ∀ u, (EN l i u).Nodup := by
 intro i
 induction i using Nat.strongRecOn with
 | ind i ih =>
  intro hi
  have hkr := kind_range hF hi
  have hdet : ∀ j, j < i -> ∀ x u u', x ∈ EN l j u -> x ∈ EN l j u' -> u = u' := fun j hj x u u' h1 h2 => by
   have := (ih j hj (by omega)).1 _ _ h1
   rw [(ih j hj (by omega)).1 _ _ h2] at this
   exact (Option.some.inj this).symm
  have hv : ∀ j, j < i -> ∀ u v, v ∈ EN l j u -> v ∈ vlsN l i j u := fun j hj u v h => (mem_vls hF _ _ _ _ (by omega) hj).2 ((ih j hj (by omega)).1 _ _ h)
  by_cases h3 : (atN l i).kind <= 3
  ·exact ⟨fun u v h => by rw [EN_k123 h3] at h; exact (mem_vls hF _ _ _ _ hi (by omega)).1 h, fun u => by rw [EN_k123 h3]; exact nodup_vls hF _ _ _ hi (by omega)⟩
  have ha := cnt_kidA hF hi (by omega)
  by_cases h4 : (atN l i).kind = 4
  ·have hm := memN_lt hF hi h4
   refine ⟨fun u v h => ?_, fun u => ?_⟩
   ·rw [EN_k4 hF hi h4] at h
    obtain ⟨xs, hx, rfl⟩ := List.mem_map.1 h
    obtain ⟨h1, ws, h2, h3, h5⟩ := sqE_sound hx
    rw [List.length_map, List.length_reverse] at h1 h2
    rw [<- h3]
    refine nest_wr hF hi xs ws h1 h2 fun j m hj => ?_
    have hjl := (List.getElem?_eq_some_iff.1 hj).1
    have := h5 j (by rw [List.length_map, List.length_reverse]; exact hjl) (EN l m) (by rw [<- List.map_reverse, List.reverse_reverse, List.getElem?_map, hj]; rfl)
    have hmi := hm m (List.mem_of_getElem? hj)
    exact (ih m hmi (by omega)).1 _ _ this
   ·rw [EN_k4 hF hi h4]
    refine nodup_mp (nodup_sqE fun g hg => ?_) fun a h1 b h2 e => ?_
    ·obtain ⟨m, hm2, rfl⟩ := List.mem_map.1 hg
     have hmi := hm m (List.mem_reverse.1 hm2)
     exact ⟨(ih m hmi (by omega)).2, hdet m hmi⟩
    ·have k1 := (sqE_sound h1).1
     have k2 := (sqE_sound h2).1
     rw [List.length_map, List.length_reverse] at k1 k2
     exact nest_inj hF hi a b k1 k2 e
  have hnA := (ih _ ha (by omega)).2
  by_cases h5 : (atN l i).kind = 5
  ·have hb := cnt_kidB hF hi (.inr h5)
   refine ⟨fun u v h => ?_, fun u => ?_⟩
   ·refine (vl_k5 h5 (fun u v => mem_vls hF i _ u v (by omega) ha) (fun u v => mem_vls hF i _ u v (by omega) hb)).1 ?_
    rw [EN_k5 hF hi h5] at h
    rcases List.mem_append.1 h with h | h
    ·obtain ⟨x, hx, rfl⟩ := List.mem_map.1 h
     exact List.mem_append_left _ (List.mem_map.2 ⟨x, hv _ ha _ _ hx, rfl⟩)
    ·obtain ⟨x, hx, rfl⟩ := List.mem_map.1 h
     exact List.mem_append_right _ (List.mem_map.2 ⟨x, hv _ hb _ _ hx, rfl⟩)
   ·rw [EN_k5 hF hi h5]
    refine nodup_ap (nodup_mp (hnA u) fun a _ b _ e => ?_) (nodup_mp ((ih _ hb (by omega)).2 u) fun a _ b _ e => ?_) fun x h1 h2 => ?_
    ·simpa using of_inj (Vl.mk.inj e).2.2.2.2
    ·simpa using of_inj (Vl.mk.inj e).2.2.2.2
    ·obtain ⟨y, _, rfl⟩ := List.mem_map.1 h1
     obtain ⟨z, _, e⟩ := List.mem_map.1 h2
     have := (Vl.mk.inj e).2.2.2.1
     exact absurd this (by decide)
  have hrun : ∀ (u : Wd) (xs : List Vl), (∃ ws : List Wd, ws.length = xs.length /\ ws.flatten = u /\ (∀ j, j < xs.length -> xs.getD j vl0 ∈ EN l (atN l i).a.toNat (ws.getD j [])) /\ ∀ w ∈ ws, w ≠ []) -> ((atN l i).kind = 7 -> (atN l i).lo <= (xs.length : Int) /\ (xs.length : Int) <= (atN l i).hi) -> ((atN l i).kind = 6 \/ (atN l i).kind = 7) -> wrV l i ⟨(atN l i).kind, 0, [], 0, Vs.of xs⟩ = some u := fun u xs hws h7 hk => by
   obtain ⟨ws, h1, h2, h3, h4⟩ := hws
   have el : (Vs.of xs).len = xs.length := by unfold Vs.len; rw [Vs.list_of]
   rw [<- h2]
   refine wr_k67 rfl hk ⟨rfl, rfl, rfl, rfl, rfl⟩ (fun h => by show _ <= ((Vs.of xs).len : Int) /\ ((Vs.of xs).len : Int) <= _; rw [el]; exact h7 h) (by show ws.length = (Vs.of xs).len; rw [el, h1]) (fun j hj => ?_) h4
   have hj : j < (Vs.of xs).len := hj
   rw [el] at hj
   have := (ih _ ha (by omega)).1 _ _ (h3 j hj)
   have e : (Vs.of xs).at j = xs.getD j vl0 := by unfold Vs.at; rw [Vs.list_of]
   rw [e]; exact this
  by_cases h6 : (atN l i).kind = 6
  ·refine ⟨fun u v h => ?_, fun u => ?_⟩
   ·rw [EN_k6 hF hi h6] at h
    obtain ⟨xs, hx, rfl⟩ := List.mem_map.1 h
    have := hrun u xs (stW_sound _ (Nat.le_refl _) hx) (fun h => by omega) (.inl h6)
    rwa [h6] at this
   ·rw [EN_k6 hF hi h6]
    exact nodup_mp (nodup_stW hnA (hdet _ ha) _ (Nat.le_refl _)) fun a _ b _ e => of_inj (Vl.mk.inj e).2.2.2.2
  by_cases h7 : (atN l i).kind = 7
  ·refine ⟨fun u v h => ?_, fun u => ?_⟩
   ·rw [EN_k7 hF hi h7] at h
    obtain ⟨xs, hx, rfl⟩ := List.mem_map.1 h
    obtain ⟨t, ht, hx⟩ := List.mem_flatMap.1 hx
    have ht := List.mem_range.1 ht
    obtain ⟨k1, k2⟩ := rtE_sound _ hx
    have h0 := rep_lo hF hi h7
    have := hrun u xs k2 (fun h => by omega) (.inr h7)
    rwa [h7] at this
   ·rw [EN_k7 hF hi h7]
    refine nodup_mp (nodup_fm range_nodup (fun t _ => nodup_rtE hnA (hdet _ ha) _) fun a _ b _ y h1 h2 => ?_) fun a _ b _ e => of_inj (Vl.mk.inj e).2.2.2.2
    have k1 := (rtE_sound _ h1).1
    have k2 := (rtE_sound _ h2).1
    omega
  by_cases h8 : (atN l i).kind = 8
  ·refine ⟨fun u v h => ?_, fun u => ?_⟩
   ·refine (vl_k8 h8 (fun u v => mem_vls hF i _ u v (by omega) ha)).1 ?_
    rw [EN_k8 hF hi h8] at h
    split at h
    ·rename_i hc
     rw [if_pos hc]
     obtain ⟨x, hx, rfl⟩ := List.mem_map.1 h
     exact List.mem_map.2 ⟨x, hv _ ha _ _ hx, rfl⟩
    ·cases h
   ·rw [EN_k8 hF hi h8]
    split
    ·exact nodup_mp (hnA _) fun a _ b _ e => by simpa using of_inj (Vl.mk.inj e).2.2.2.2
    ·exact List.Pairwise.nil
  have h9 : (atN l i).kind = 9 := by omega
  refine ⟨fun u v h => ?_, fun u => ?_⟩
  ·refine (vl_k9 h9 (fun u v => mem_vls hF i _ u v (by omega) ha)).1 ?_
   rw [EN_k9 hF hi h9] at h
   split at h
   ·rename_i hc
    rw [if_pos hc]
    obtain ⟨x, hx, rfl⟩ := List.mem_map.1 h
    exact List.mem_map.2 ⟨x, hv _ ha _ _ hx, rfl⟩
   ·cases h
  ·rw [EN_k9 hF hi h9]
   split
   ·exact nodup_mp (hnA _) fun a _ b _ e => by simpa using of_inj (Vl.mk.inj e).2.2.2.2
   ·exact List.Pairwise.nil
end
def sV (gs : List (Wd -> List Vl)) (W : Wd) (a b : Nat) : Nat := if a <= b then (sqE gs (sgW W a b)).length else 0
def tV (l : List Nd) (i t : Nat) (W : Wd) (a b : Nat) : Nat := if a <= b then cntT l i t (sgW W a b) else 0
theorem sgW_all {u : Wd} : sgW u 0 u.length = u := by unfold sgW; rw [List.take_length]; rfl
theorem sV_nil {W : Wd} {a b : Nat} (hb : b <= W.length) : sV [] W a b = if b = a then 1 else 0 := by
 unfold sV sqE
 by_cases h : a <= b
 ·rw [if_pos h]
  by_cases e : b = a
  ·rw [if_pos ((sgW_nil hb h).2 e), if_pos e]; rfl
  ·rw [if_neg (fun h' => e ((sgW_nil hb h).1 h')), if_neg e]; rfl
 ·rw [if_neg h, if_neg (by omega)]
section
variable {l : List Nd} {i : Nat} {W : Wd} {a b : Nat}
theorem sV_cons {gs : List (Wd -> List Vl)} {g : Wd -> List Vl} (hg : ∀ u, (g u).length = cntN l i u) (hb : b <= W.length) : sV (g :: gs) W a b = sg (W.length + 1) fun p => sV gs W a p * cV l i W p b := by
 by_cases h : a <= b
 ·have hl : (sgW W a b).length = b - a := sgW_len hb
  conv => lhs; unfold sV sqE
  rw [if_pos h, cr_len, hl]
  unfold sg
  refine Eq.trans ?_ (sum_mid (a := a) (m := b - a + 1) (by omega) ?_).symm
  ·congr 1
   refine List.map_congr_left fun k hk => ?_
   have hk := List.mem_range.1 hk
   unfold sV cV
   rw [if_pos (by omega), if_pos (by omega), hg, sgW_take (by omega), sgW_drop]
  ·intro k hk h'
   unfold sV cV
   rcases h' with h' | h'
   ·rw [if_neg (c := a <= k) (by omega), Nat.zero_mul]
   ·rw [if_neg (c := k <= b) (by omega), Nat.mul_zero]
 ·unfold sV cV
  rw [if_neg h, sg_nil fun k _ => ?_]
  by_cases h1 : a <= k
  ·rw [if_neg (c := k <= b) (by omega), Nat.mul_zero]
  ·rw [if_neg h1, Nat.zero_mul]
variable (hF : Form l)
include hF
theorem cV_k4 (hi : i < l.length) (hk : (atN l i).kind = 4) (hb : b <= W.length) : cV l i W a b = sg (W.length + 1) fun p => cV l (atN l i).a.toNat W a p * cV l (atN l i).b.toNat W p b := by
 by_cases h : a <= b
 ·conv => lhs; unfold cV
  rw [if_pos h, cnt_k4 hF hi hk, sgW_len hb]
  unfold sg
  refine Eq.trans ?_ (sum_mid (a := a) (m := b - a + 1) (by omega) ?_).symm
  ·congr 1
   refine List.map_congr_left fun k hk => ?_
   have hk := List.mem_range.1 hk
   unfold cV
   rw [if_pos (by omega), if_pos (by omega), sgW_take (by omega), sgW_drop]
  ·intro k hk h'
   unfold cV
   rcases h' with h' | h'
   ·rw [if_neg (c := a <= k) (by omega), Nat.zero_mul]
   ·rw [if_neg (c := k <= b) (by omega), Nat.mul_zero]
 ·unfold cV
  rw [if_neg h, sg_nil fun k _ => ?_]
  by_cases h1 : a <= k
  ·rw [if_neg (c := k <= b) (by omega), Nat.mul_zero]
  ·rw [if_neg h1, Nat.zero_mul]
theorem sV_mem : ∀ {i : Nat}, i < l.length -> (∀ j, j <= i -> (atN l j).kind ≠ 4 -> ∀ u, (EN l j u).length = cntN l j u) -> ∀ {ms : List Nat} {b : Nat}, b <= W.length -> sV ((ms ++ memN l i).reverse.map (EN l)) W a b = sg (W.length + 1) fun p => sV (ms.reverse.map (EN l)) W a p * cV l i W p b := by
 intro i
 induction i using Nat.strongRecOn with
 | ind i ih =>
  intro hi hl ms b hb
  by_cases hk : (atN l i).kind = 4
  ·have ha := cnt_kidA hF hi (by omega)
   have hb' := cnt_kidB hF hi (.inl hk)
   rw [memN_k4 hF hi hk, <- List.append_assoc, ih _ hb' (by omega) (fun j hj => hl j (by omega)) hb]
   rw [sg_congr fun p hp => by rw [ih _ ha (by omega) (fun j hj => hl j (by omega)) (ms := ms) (b := p) (by omega), <- sg_mulr], sg_swap]
   refine sg_congr fun q hq => ?_
   rw [cV_k4 hF hi hk hb, <- sg_mul]
   exact sg_congr fun p _ => by rw [Nat.mul_assoc]
  ·rw [memN_one hk, List.reverse_append]
   exact sV_cons (hl i (Nat.le_refl _) hk) hb
theorem stW_length (hi : i < l.length) (hk : (atN l i).kind = 6) (hg : ∀ u, (EN l (atN l i).a.toNat u).length = cntN l (atN l i).a.toNat u) : ∀ (m : Nat) {u : Wd}, u.length <= m -> (stW (EN l (atN l i).a.toNat) u).length = cntN l i u := by
 have hrec : ∀ u : Wd, cntN l i u = (if u.length = 0 then 1 else 0) + sg u.length fun k => cntN l i (u.take k) * cntN l (atN l i).a.toNat (u.drop k) := fun u => by
  have := star_rec (W := u) (a := 0) (b := u.length) hF hi (by omega) hk
  have e0 : cV l i u 0 u.length = cntN l i u := by unfold cV; rw [if_pos (Nat.zero_le _), sgW_all]
  rw [<- e0, this]
  congr 1
  refine sg_congr fun p hp => ?_
  unfold cV
  rw [if_pos (Nat.zero_le _), if_pos (by omega)]
  unfold sgW
  rw [List.take_length]; rfl
 intro m
 induction m with
 | zero =>
  intro u hm
  rw [hrec u]
  have hu : u = [] := List.length_eq_zero_iff.1 (by omega)
  subst hu
  rfl
 | succ m ih =>
  intro u hm
  rw [hrec u]
  by_cases hu : u = []
  ·subst hu; rfl
  ·have : u.length ≠ 0 := fun e => hu (List.length_eq_zero_iff.1 e)
   rw [if_neg this, Nat.zero_add, stW_eq hu, cr_len, sum_rev]
   refine sg_congr fun k hk => ?_
   rw [ih (by rw [List.length_take]; omega), hg]
theorem rtE_length (hi : i < l.length) (hg : ∀ u, (EN l i u).length = cntN l i u) : ∀ (t : Nat) {u : Wd}, (rtE (EN l i) t u).length = cntT l i t u := by
 intro t
 induction t with
 | zero => intro u; rw [cntT_zero hF hi]; unfold rtE; split <;> rfl
 | succ t ih =>
  intro u
  rw [cntT_more hF hi]
  unfold rtE
  rw [cr_len, sum_rev]
  exact sg_congr fun k _ => by rw [ih, hg]
theorem EN_length : ∀ {i : Nat}, i < l.length -> ∀ u, (EN l i u).length = cntN l i u := by
 intro i
 induction i using Nat.strongRecOn with
 | ind i ih =>
  intro hi u
  have hkr := kind_range hF hi
  by_cases h3 : (atN l i).kind <= 3
  ·rw [EN_k123 h3]; rfl
  have ha := cnt_kidA hF hi (by omega)
  have hA := ih _ ha (by omega)
  by_cases h4 : (atN l i).kind = 4
  ·have hb := cnt_kidB hF hi (.inl h4)
   rw [EN_k4 hF hi h4, List.length_map, memN_k4 hF hi h4]
   have e0 : sV ((memN l (atN l i).a.toNat ++ memN l (atN l i).b.toNat).reverse.map (EN l)) u 0 u.length = (sqE ((memN l (atN l i).a.toNat ++ memN l (atN l i).b.toNat).reverse.map (EN l)) u).length := by
    unfold sV; rw [if_pos (Nat.zero_le _), sgW_all]
   have e1 : cV l i u 0 u.length = cntN l i u := by unfold cV; rw [if_pos (Nat.zero_le _), sgW_all]
   have hlen : ∀ j, j < i -> ∀ u, (EN l j u).length = cntN l j u := fun j hj => ih j hj (by omega)
   rw [<- e0, sV_mem hF (by omega) (fun j hj _ => hlen j (by omega)) (Nat.le_refl _), <- e1, cV_k4 hF hi h4 (Nat.le_refl _)]
   refine sg_congr fun p hp => ?_
   congr 1
   have := sV_mem (W := u) (a := 0) (ms := []) (b := p) hF (show (atN l i).a.toNat < l.length by omega) (fun j hj _ => hlen j (by omega)) (by omega)
   rw [List.nil_append] at this
   rw [this, sg_one (a := 0) (by omega) fun k hk hne => by rw [List.reverse_nil, List.map_nil, sV_nil (by omega), if_neg hne, Nat.zero_mul], List.reverse_nil, List.map_nil, sV_nil (by omega), if_pos rfl, Nat.one_mul]
  by_cases h5 : (atN l i).kind = 5
  ·have hb := cnt_kidB hF hi (.inr h5)
   rw [EN_k5 hF hi h5, List.length_append, List.length_map, List.length_map, hA, ih _ hb (by omega), cnt_k5 hF hi h5]
  by_cases h6 : (atN l i).kind = 6
  ·rw [EN_k6 hF hi h6, List.length_map, stW_length hF hi h6 hA _ (Nat.le_refl _)]
  by_cases h7 : (atN l i).kind = 7
  ·have h0 := rep_lo hF hi h7
   obtain ⟨M, hM⟩ : ∃ M, M = u.length + 1 + ((atN l i).hi + 1).toNat := ⟨_, rfl⟩
   rw [EN_k7 hF hi h7, List.length_map, List.length_flatMap, cnt_k7 hF hi h7 (M := M) (by omega)]
   refine Eq.trans ?_ (sum_mid (a := (atN l i).lo.toNat) (m := ((atN l i).hi + 1 - (atN l i).lo).toNat) (by omega) ?_).symm
   ·congr 1
    refine List.map_congr_left fun t ht => ?_
    have ht := List.mem_range.1 ht
    rw [rtE_length hF (by omega) hA, if_pos (by omega)]
   ·intro k hk h'
    rw [if_neg (by omega)]
  by_cases h8 : (atN l i).kind = 8
  ·rw [EN_k8 hF hi h8, cnt_k8 hF hi h8]
   split
   ·rw [List.length_map, hA]
   ·rfl
  have h9 : (atN l i).kind = 9 := by omega
  rw [EN_k9 hF hi h9, cnt_k9 hF hi h9]
  split
  ·rw [List.length_map, hA]
  ·rfl
theorem sV_snoc (hi : i < l.length) {ms : List Nat} (hb : b <= W.length) : sV ((ms ++ [i]).reverse.map (EN l)) W a b = sg (W.length + 1) fun p => sV (ms.reverse.map (EN l)) W a p * cV l i W p b := by
 rw [List.reverse_append]
 exact sV_cons (EN_length hF hi) hb
theorem th_snoc (hi : i < l.length) {ms : List Nat} (hb : b <= W.length) : thV l i W (fun p => min 2 (sV (ms.reverse.map (EN l)) W a p)) b = min 2 (sV ((ms ++ [i]).reverse.map (EN l)) W a b) := by
 rw [sV_snoc hF hi hb]
 unfold thV
 exact sg_sat fun p _ => by rw [rowV_cV, sat_mul]
theorem idx_row (hi : i < l.length) {ms : List Nat} {p ρ σ : Nat} {xs : List Vl} {x : Vl} (hap : a <= p) (hpb : p <= b) (hb : b <= W.length) (h1 : (sqE (ms.reverse.map (EN l)) (sgW W a p))[ρ]? = some xs) (h2 : (EN l i (sgW W p b))[σ]? = some x) :
 (sqE ((ms ++ [i]).reverse.map (EN l)) (sgW W a b))[sg p (fun q => sV (ms.reverse.map (EN l)) W a q * cV l i W q b) + (ρ * cV l i W p b + σ)]? = some (xs ++ [x]) := by
 have hl : (sgW W a b).length = b - a := sgW_len hb
 rw [List.reverse_append]
 show (crL (List.range ((sgW W a b).length + 1)) _ _)[_]? = _
 have h1' : (sqE (ms.reverse.map (EN l)) ((sgW W a b).take (p - a)))[ρ]? = some xs := by rw [sgW_take (by omega), show a + (p - a) = p by omega]; exact h1
 have h2' : (EN l i ((sgW W a b).drop (p - a)))[σ]? = some x := by rw [sgW_drop, show a + (p - a) = p by omega]; exact h2
 have := cr_idx_fwd (n := (sgW W a b).length + 1) (k := p - a) (P := fun k => sqE (ms.reverse.map (EN l)) ((sgW W a b).take k)) (g := fun k => EN l i ((sgW W a b).drop k)) (by omega) h1' h2'
 have e2 : (EN l i ((sgW W a b).drop (p - a))).length = cV l i W p b := by rw [sgW_drop, show a + (p - a) = p by omega, EN_length hF hi]; unfold cV; rw [if_pos hpb]
 have e1 : sg (p - a) (fun k => (sqE (ms.reverse.map (EN l)) ((sgW W a b).take k)).length * (EN l i ((sgW W a b).drop k)).length) = sg p fun q => sV (ms.reverse.map (EN l)) W a q * cV l i W q b := by
  conv => rhs; unfold sg
  rw [sum_mid (a := a) (m := p - a) (by omega)]
  ·refine sg_congr fun k hk => ?_
   rw [sgW_take (by omega), sgW_drop, EN_length hF hi]
   unfold sV cV
   rw [if_pos (by omega), if_pos (by omega)]
  ·intro k hk h'
   unfold sV
   rw [if_neg (c := a <= k) (by omega), Nat.zero_mul]
 simp only [e2, e1] at this
 exact this
theorem idx_run {P : Wd -> List (List Vl)} {cP : Nat -> Nat} {p ρ σ : Nat} {xs : List Vl} {x : Vl} (hi : i < l.length) (hap : a <= p) (hpb : p < b) (hb : b <= W.length) (hP : ∀ q, a <= q -> q < b -> (P (sgW W a q)).length = cP q) (h1 : (P (sgW W a p))[ρ]? = some xs) (h2 : (EN l i (sgW W p b))[σ]? = some x) :
 (crL (List.range (sgW W a b).length).reverse (fun k => P ((sgW W a b).take k)) fun k => EN l i ((sgW W a b).drop k))[upS p b (fun q => cP q * cV l i W q b) + (ρ * cV l i W p b + σ)]? = some (xs ++ [x]) := by
 have hl : (sgW W a b).length = b - a := sgW_len hb
 have h1' : (P ((sgW W a b).take (p - a)))[ρ]? = some xs := by rw [sgW_take (by omega), show a + (p - a) = p by omega]; exact h1
 have h2' : (EN l i ((sgW W a b).drop (p - a)))[σ]? = some x := by rw [sgW_drop, show a + (p - a) = p by omega]; exact h2
 have := cr_idx_rev (n := (sgW W a b).length) (k := p - a) (P := fun k => P ((sgW W a b).take k)) (g := fun k => EN l i ((sgW W a b).drop k)) (by omega) h1' h2'
 have e2 : (EN l i ((sgW W a b).drop (p - a))).length = cV l i W p b := by rw [sgW_drop, show a + (p - a) = p by omega, EN_length hF hi]; unfold cV; rw [if_pos (by omega)]
 have e1 : upS (p - a) (sgW W a b).length (fun k => (P ((sgW W a b).take k)).length * (EN l i ((sgW W a b).drop k)).length) = upS p b fun q => cP q * cV l i W q b := by
  unfold upS
  rw [hl, show b - a - (p - a) - 1 = b - p - 1 by omega]
  refine sg_congr fun j hj => ?_
  simp only
  rw [sgW_take (by omega), sgW_drop, EN_length hF hi, show a + (p - a + 1 + j) = p + 1 + j by omega, hP _ (by omega) (by omega)]
  unfold cV
  rw [if_pos (by omega)]
 simp only [e2, e1] at this
 exact this
theorem idx_star (hi : i < l.length) (hk : (atN l i).kind = 6) {p ρ σ : Nat} {xs : List Vl} {x : Vl} (hap : a <= p) (hpb : p < b) (hb : b <= W.length) (h1 : (stW (EN l (atN l i).a.toNat) (sgW W a p))[ρ]? = some xs) (h2 : (EN l (atN l i).a.toNat (sgW W p b))[σ]? = some x) :
 (stW (EN l (atN l i).a.toNat) (sgW W a b))[upS p b (fun q => cV l i W a q * cV l (atN l i).a.toNat W q b) + (ρ * cV l (atN l i).a.toNat W p b + σ)]? = some (xs ++ [x]) := by
 have ha := cnt_kidA hF hi (by omega)
 rw [stW_eq (fun e => by have := (sgW_nil hb (by omega)).1 e; omega)]
 refine idx_run hF (by omega) hap hpb hb (fun q h1 h2 => ?_) h1 h2
 rw [stW_length hF hi hk (EN_length hF (by omega)) _ (Nat.le_refl _)]
 unfold cV
 rw [if_pos h1]
theorem idx_times (hi : i < l.length) {t p ρ σ : Nat} {xs : List Vl} {x : Vl} (hap : a <= p) (hpb : p < b) (hb : b <= W.length) (h1 : (rtE (EN l i) t (sgW W a p))[ρ]? = some xs) (h2 : (EN l i (sgW W p b))[σ]? = some x) :
 (rtE (EN l i) (t + 1) (sgW W a b))[upS p b (fun q => tV l i t W a q * cV l i W q b) + (ρ * cV l i W p b + σ)]? = some (xs ++ [x]) := by
 show (crL _ _ _)[_]? = _
 refine idx_run hF hi hap hpb hb (P := rtE (EN l i) t) (fun q h1 h2 => ?_) h1 h2
 rw [rtE_length hF hi (EN_length hF hi)]
 unfold tV
 rw [if_pos h1]
end
end Go.Proofs.Ytpbbokdmoaadfaa
