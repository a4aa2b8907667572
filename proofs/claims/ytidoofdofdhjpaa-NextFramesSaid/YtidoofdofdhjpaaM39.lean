/- The document's ways of words: through a row, so many times. Walked. -/
import Derived.Test.YtidoofdofdhjpaaM36
import Derived.Test.YtidoofdofdhjpaaM38
namespace Go.Proofs.Ytidoofdofdhjpaa
open Go Go.RowKit
set_option linter.unusedVariables false
set_option linter.unusedSimpArgs false
set_option maxRecDepth 100000
def EndR (A : Option Addr) (l : List Nd) (c i : Nat) : Prop := ∀ (uw : Value) (W : Wd) (a : Nat) (w : World), NRow w A l -> IsW W uw w -> W.length <= 1000 -> a <= W.length ->
 Calls Try.prog 39 #[.agg #[.slice A l.length c], .int .i64 (i : Int), uw, .int .i64 (a : Int)] w (RwN (rowL (W.length + 1) (rowV l i W a)) w)
structure TwS (A : Option Addr) (l : List Nd) (c : Nat) (uw : Value) (W : Wd) (bx : Nat) (w : World) : Prop where
 row : NRow w A l
 wd : IsW W uw w
 box : Blk w bx #[.slice A l.length c] 24
theorem TwS.later {A : Option Addr} {l : List Nd} {c : Nat} {uw : Value} {W : Wd} {bx : Nat} {w w' : World} (h : TwS A l c uw W bx w) (hb : Below w.heap.size w w') : TwS A l c uw W bx w' := ⟨h.row.later hb, h.wd.later hb, h.box.later hb⟩
structure ThS (A : Option Addr) (l : List Nd) (c : Nat) (uw : Value) (W : Wd) (bx : Nat) (n : Nat) (L : List Int) (v : Value) (M : List Int) (Aa : Option Addr) (w1 w : World) : Prop where
 bel : Below w1.heap.size w1 w
 t : TwS A l c uw W bx w
 rd : RdI n L v w
 ar : IRow w Aa M
theorem ThS.later {A : Option Addr} {l : List Nd} {c : Nat} {uw : Value} {W : Wd} {bx : Nat} {n : Nat} {L M : List Int} {v : Value} {Aa : Option Addr} {w1 w w' : World} (h : ThS A l c uw W bx n L v M Aa w1 w) (hb : Below w.heap.size w w') : ThS A l c uw W bx n L v M Aa w1 w' :=
 ⟨h.bel.trans (hb.mono h.bel.size), h.t.later hb, h.rd.later _ _ _ _ _ hb, h.ar.later hb⟩
def OwV (B : Nat) (L : List Int) (v : Value) (w : World) : Prop := OwnI w B v L
theorem OwV.later (B : Nat) (L : List Int) : ∀ v w w', OwV B L v w -> Below w.heap.size w w' -> OwV B L v w' := fun v w w' h hb => OwnI.later h hb
def ThL (F : Nat -> Nat) (R : Nat -> Nat -> Nat) (n : Nat) (w1 : World) (x9 x10 : Value) (w : World) : Prop := ∃ (k : Nat) (v : Value), k <= n /\ x10 = .int .i64 (k : Int) /\ v = x9 /\ OwnI w w1.heap.size v (rowL n (thrF F R k)) /\ Below w1.heap.size w1 w
theorem thrF_le {A : Nat -> Nat} {R : Nat -> Nat -> Nat} {k b : Nat} : thrF A R k b <= 2 := by unfold thrF; omega
set_option maxHeartbeats 16000000 in
theorem rthrough_any {A : Option Addr} {l : List Nd} {c i : Nat} (hE : EndR A l c i) (uw : Value) (W : Wd) (F : Nat -> Nat) (va : Value) (w : World) (hrow : NRow w A l) (hw : IsW W uw w) (hn : W.length <= 1000) (hF : ∀ b, F b <= 2) (ha : RdI (W.length + 1) (rowL (W.length + 1) F) va w) :
 Calls Try.prog 60 #[.agg #[.slice A l.length c], .int .i64 (i : Int), uw, va] w (RwN (rowL (W.length + 1) (thrF F (rowV l i W) (W.length + 1))) w) := by
 obtain ⟨Aa, ca, rfl, hr⟩ := ha
 have hb1 := (Below.refl w.heap.size w).alloc (Nat.le_refl _) (.cells #[.slice A l.length c] 24)
 have HT1 : Hid (TwS A l c uw W w.heap.size (w.alloc (.cells #[.slice A l.length c] 24))) := ⟨hrow.later hb1, hw.later hb1, Blk.new w _ _⟩
 have HR1 := Lib.hid (hr.later hb1)
 have HB1 := Lib.hid hb1
 have HF := Lib.hid hF
 have HE := Lib.hid hE
 have hnz : (W.length : Int) <= 1000 := by omega
 have HN := Lib.hid hn
 obtain ⟨n, hnn⟩ : ∃ n, W.length + 1 = n := ⟨_, rfl⟩
 have HNN := Lib.hid hnn
 rw [hnn] at HR1 ⊢
 clear hrow hw hb1 hr hF hE hn
 go_enter Try.func60, Try.ntmps60
 go_upto_region 1 with (fail)
 generalize w.alloc (.cells #[.slice A l.length c] 24) = w1 at *
 have HZ := Lib.hid (rzero_any uw W w1 HT1.out.wd HN.out)
 rw [hnn] at HZ
 go_wp2_with fail
 refine HZ.out.mono ?_; rintro e w2 ⟨v2, rfl, ho2, hb2⟩
 have HS0 : Hid (ThL F (rowV l i W) n w1 v2 (.int .i64 0) w2) := ⟨0, _, Nat.zero_le _, rfl, rfl, by rw [thrF_zero]; exact ho2, hb2⟩
 clear ho2 hb2 HZ
 go_wp2
 go_loopw [9, 10] (ThL F (rowV l i W) n w1) (fun _ x _ => n - (intOf x).toNat)
 case atStart => exact HS0.out
 case round =>
  obtain ⟨k, x9, hk, rfl, h9, ho, hb⟩ := hrel
  subst h9
  have HO := Lib.hid ho
  have HB := Lib.hid hb
  have HT := Lib.hid (HT1.out.later hb)
  have HR := Lib.hid (HR1.out.later hb)
  clear HS0 ho hb
  by_cases hlt : k < n
  ·have hltz : (k : Int) < (n : Int) := by omega
   obtain ⟨b7, o7, hae, -, hc7⟩ := HR.out k (by rw [rowL_length]; exact hlt)
   subst hae
   rw [rowL_at hlt] at hc7
   by_cases h0 : F k = 0
   ·have HS1 : Hid (ThL F (rowV l i W) n w1 x9 (.int .i64 ((k : Int) + 1)) wr) := ⟨k + 1, _, by omega, by go_num, rfl, by rw [thrF_skip h0]; exact HO.out, HB.out⟩
    rw [h0] at hc7
    have hz0 : ¬ ((0 : Nat) : Int) > 0 := by omega
    clear HO HB HT HR
    go_wp2
    go_roundw
    case rel => exact HS1.out
    case measure => simp [intOf]; omega
   ·have hz0 : ((F k : Nat) : Int) > 0 := by omega
    have hF2 := HF.out k
    have HSS : Hid (ThS A l c uw W w.heap.size n (rowL n (thrF F (rowV l i W) k)) x9 (rowL n F) (some ⟨b7, o7, none⟩) w1 wr) := ⟨HB.out, HT.out, by have := HO.out.rd; rwa [rowL_length] at this, HR.out⟩
    have HC : Hid (∀ w', TwS A l c uw W w.heap.size w' -> Calls Try.prog 39 #[.agg #[.slice A l.length c], .int .i64 (i : Int), uw, .int .i64 (k : Int)] w' (RwN (rowL n (rowV l i W k)) w')) := fun w' h => by
     have := HE.out uw W k w' h.row h.wd HN.out (by omega)
     rwa [hnn] at this
    have HCL : Hid (∀ w', IRow w' (some ⟨b7, o7, none⟩) (rowL n F) -> w'.cell? ⟨b7, o7 + k, none⟩ = some (.int .i64 ((F k : Nat) : Int))) := fun w' h => by
     obtain ⟨b, o, e1, -, e2⟩ := h k (by rw [rowL_length]; exact hlt)
     cases e1
     rwa [rowL_at hlt] at e2
    have HP : Hid (∀ w' u, RdI n (rowL n (thrF F (rowV l i W) k)) x9 w' -> OwV w1.heap.size (rowL n (rowV l i W k)) u w' -> Calls Try.prog 61 #[x9, u, .int .i64 ((F k : Nat) : Int)] w' (RwN (rowL n (thrF F (rowV l i W) (k + 1))) w')) := fun w' u h1 h2 => by
     have h3 := OwnI.rd h2
     rw [rowL_length] at h3
     have := rplus_any n (F k) (thrF F (rowV l i W) k) (rowV l i W k) x9 u w' (by omega) (by omega) (fun b => thrF_le) (fun b => rowV_le) hF2 h1 h3
     rwa [rowL_congr fun b _ => thrF_step] at this
    generalize F k = fk at *
    clear HO HB HT HR h0
    go_upto_region 6 with (fail)
    clear hc7
    refine wp_region_stable (S := (ThS A l c uw W w.heap.size n (rowL n (thrF F (rowV l i W) k)) x9 (rowL n F) (some ⟨b7, o7, none⟩) w1)) (hSt := fun _ _ h hb => h.later hb) (plan := [[(9, none)], [(4, none)], [(1, none)], [(2, none)], [(10, none)], [(25, some 1), (26, some 2), (27, some 3), (28, some 4)], [(3, none)], [(10, none)], [(30, some 6), (31, some 7)], [(32, some 8)], [(24, some 0), (29, some 5), (33, some 9)], [(34, some 10)]]) (by kernel_rfl) (by kernel_rfl) (by kernel_rfl) ?hS ?_
    rotate_left
    iterate 5 first
     | (refine chain_skip (by rfl) (by rfl) ?_)
     | (apply chain_want (by rfl)
        ·intro act wx hS hr
         simp at hr
         have d0 := hS.t.box.cell 0
         simp at d0
         have d1 := HCL.out _ hS.ar
         go_simp
         (try go_ints)
         first
          | exact Done.same
       )
    (refine chain_rel (OwV w1.heap.size (rowL n (rowV l i W k))) (OwV.later w1.heap.size (rowL n (rowV l i W k))) (by rfl) ?_ ?_
     ·intro act wx hS hr
      simp at hr
      have d0 := hS.t.box.cell 0
      simp at d0
      have d1 := HCL.out _ hS.ar
      all_goals go_simp
      ((refine (HC.out _ hS.t).mono ?_); rintro e w5 ⟨x5, rfl, hx5, hb5⟩; exact Done.rel hb5 (OwnI.mono hx5 hS.bel.size))
    )
    iterate 4 first
     | (refine chain_skip (by rfl) (by rfl) ?_)
     | (apply chain_want (by rfl)
        ·intro act wx hS hr
         simp at hr
         have d0 := hS.t.box.cell 0
         simp at d0
         have d1 := HCL.out _ hS.ar
         go_simp
         (try go_ints)
         first
          | exact Done.same
       )
    (refine chain_rel (OwV w1.heap.size (rowL n (thrF F (rowV l i W) (k + 1)))) (OwV.later w1.heap.size (rowL n (thrF F (rowV l i W) (k + 1)))) (by rfl) ?_ ?_
     ·intro act wx hS hr
      simp at hr
      have d0 := hS.t.box.cell 0
      simp at d0
      have d1 := HCL.out _ hS.ar
      obtain ⟨hr1, ⟨u5, hr2, hu5⟩, hr3⟩ := hr
      all_goals go_simp
      ((refine (HP.out _ u5 hS.rd hu5).mono ?_); rintro e w5 ⟨x5, rfl, hx5, hb5⟩; exact Done.rel hb5 (OwnI.mono hx5 hS.bel.size))
    )
    (refine chain_rel (OwV w1.heap.size (rowL n (thrF F (rowV l i W) (k + 1)))) (OwV.later w1.heap.size (rowL n (thrF F (rowV l i W) (k + 1)))) (by rfl) ?_ ?_
     ·intro act wx hS hr
      simp at hr
      have d0 := hS.t.box.cell 0
      simp at d0
      have d1 := HCL.out _ hS.ar
      obtain ⟨u5, hr2, hu5⟩ := hr
      all_goals go_simp
      exact Done.rel (Below.refl _ _) hu5
    )
    show ∀ w', _ -> _
    intro w9 hw9
    simp [Act.put]
    case hS => exact HSS.out
    intro v5 h5 v10 h10 v11 h11
    have HNX : Hid (ThL F (rowV l i W) n w1 v11 (.int .i64 ((k : Int) + 1)) w9) := ⟨k + 1, _, by omega, by go_num, rfl, h11, hw9.bel⟩
    clear h5 h10 h11 hw9 HSS HC HCL HP
    go_wp2
    go_roundw
    case rel => exact HNX.out
    case measure => simp [intOf]; omega
  ·obtain rfl : k = n := by omega
   have hlast : ¬ ((k : Nat) : Int) < (k : Int) := by omega
   have HPF : Hid (RwN (rowL k (thrF F (rowV l i W) k)) w (.returned x9) wr) := ⟨_, rfl, HO.out.mono HB1.out.size, HB1.out.trans (HB.out.mono HB1.out.size)⟩
   clear HO HB HT HR
   go_wp2
   go_ret
   exact HPF.out
def tmT (hi : Int) (n : Nat) : Nat := if hi = -1 then n + 2 else min (hi.toNat + 1) (n + 2)
theorem tmF_le {N : Nat -> Nat -> Nat} {lo : Int} {t b : Nat} : tmF N lo t b <= 2 := by unfold tmF; omega
def TmLo (Nw : Nat -> Nat -> Nat) (lo hi : Int) (m : Nat) (w1 : World) (x13 x14 x15 : Value) (w : World) : Prop :=
 ∃ (t : Nat) (v u : Value), t <= m + 2 /\ ((t : Int) <= hi \/ hi = -1) /\ x15 = .int .i64 (t : Int) /\ v = x13 /\ u = x14 /\ RdI (m + 1) (rowL (m + 1) (Nw t)) v w /\ OwnI w w1.heap.size u (rowL (m + 1) (tmF Nw lo t)) /\ Below w1.heap.size w1 w
def TmLi (F : Nat -> Nat) (R : Nat -> Nat -> Nat) (n : Nat) (w1 : World) (x16 x17 : Value) (w : World) : Prop := ∃ (k : Nat) (v : Value), k <= n /\ x17 = .int .i64 (k : Int) /\ v = x16 /\ RdI n (rowL n (thrF F R k)) v w /\ Below w1.heap.size w1 w
def offF (R : Nat -> Nat -> Nat) (j b : Nat) : Nat := if b = j then 0 else R j b
theorem offF_set {R : Nat -> Nat -> Nat} {n k : Nat} (hk : k < n) : (rowL n (R k)).set k 0 = rowL n (offF R k) := rowL_set (v := 0) hk
theorem off_le {l : List Nd} {i : Nat} {W : Wd} {j b : Nat} : offF (rowV l i W) j b <= 2 := by
 unfold offF
 split
 ·omega
 ·exact rowV_le
set_option maxHeartbeats 32000000 in
theorem rtimes_any {A : Option Addr} {l : List Nd} {c i : Nat} (hF : Form l) (hi : i < l.length) (hE : EndR A l c i) (uw : Value) (W : Wd) (a : Nat) (lo hb : Int) (w : World) (hrow : NRow w A l) (hw : IsW W uw w) (hn : W.length <= 1000) (ha : a <= W.length) (hlo : 0 <= lo /\ lo <= 255) (hhi : hb = -1 \/ 0 <= hb /\ hb <= 255) :
 Calls Try.prog 62 #[.agg #[.slice A l.length c], .int .i64 (i : Int), uw, .int .i64 (a : Int), .int .i64 lo, .int .i64 hb] w (RwN (rowL (W.length + 1) (tmF (nowV l i W a) lo (tmT hb W.length))) w) := by
 have hb1 := (Below.refl w.heap.size w).alloc (Nat.le_refl _) (.cells #[.slice A l.length c] 24)
 have HT1 : Hid (TwS A l c uw W w.heap.size (w.alloc (.cells #[.slice A l.length c] 24))) := ⟨hrow.later hb1, hw.later hb1, Blk.new w _ _⟩
 have HB1 := Lib.hid hb1
 have HFI : Hid (Form l /\ i < l.length) := ⟨hF, hi⟩
 have HE := Lib.hid hE
 have hnz : (W.length : Int) <= 1000 := by omega
 have HN := Lib.hid hn
 have hT0 : ∀ b, b < W.length + 1 -> (if b = a then 1 else 0) = nowV l i W a 0 b := fun b hb => (now_zero hF hi (by omega)).symm
 have HT0 := Lib.hid hT0
 obtain ⟨Au, cu, rfl, -⟩ := hw.sl
 clear hrow hb1 hE hn hT0 hF hi hw
 go_enter Try.func62, Try.ntmps62
 go_upto_region 1 with (fail)
 generalize w.alloc (.cells #[.slice A l.length c] 24) = w1 at *
 have HZ := Lib.hid (fun w' (h : TwS A l c (.slice Au W.length cu) W w.heap.size w') => rzero_any (.slice Au W.length cu) W w' h.wd HN.out)
 have HZ1 := Lib.hid (HZ.out w1 HT1.out)
 go_wp2_with fail
 refine HZ1.out.mono ?_; rintro e w2 ⟨v2, rfl, ho2, hb2⟩
 obtain ⟨g2, c2, hv2, hbg, -, hset, hcl, hfz⟩ := ho2.put (k := a) (by rw [rowL_length]; omega) ((1 : Nat) : Int)
 rw [rowL_length] at hv2
 subst hv2
 rw [rowL_set (by omega), rowL_congr HT0.out] at hset
 have HB3 := Lib.hid (hb2.setCell (p := ⟨g2, a, none⟩) hbg (.int .i64 ((1 : Nat) : Int)))
 have HO3 := Lib.hid hset
 have haz : (a : Int) < (W.length : Int) + 1 := by omega
 have haz0 : ¬ (a : Int) < 0 := by omega
 have HZ2 := Lib.hid (HZ.out _ (HT1.out.later HB3.out))
 clear ho2 hb2 hbg hset HZ1
 go_wp2_with fail
 refine HZ2.out.mono ?_; rintro e w4 ⟨v4, rfl, ho4, hb4⟩
 have HS4 : Hid (TmLo (nowV l i W a) lo hb W.length w1 (.slice (some ⟨g2, 0, none⟩) (W.length + 1) c2) v4 (.int .i64 0) w4) := ⟨0, _, _, by omega, by omega, rfl, rfl, rfl, by
  have := (HO3.out.later hb4).rd
  rwa [rowL_length] at this, by rw [tmF_zero]; exact ho4.mono HB3.out.size, HB3.out.trans (hb4.mono HB3.out.size)⟩
 clear ho4 hb4 HZ2 HO3 HB3 hcl hfz
 go_wp2
 go_loopw [13, 14, 15] (TmLo (nowV l i W a) lo hb W.length w1) (fun _ _ x _ => W.length + 3 - (intOf x).toNat)
 case atStart => exact HS4.out
 case round =>
  obtain ⟨t, v13, u14, ht, hth, rfl, e13, e14, hr, ho, hbb⟩ := hrel
  subst e13
  subst e14
  obtain ⟨A7, c7, hv7, hr7⟩ := hr
  subst hv7
  obtain ⟨b7, o7, hae, -, -⟩ := hr7 0 (by rw [rowL_length]; omega)
  subst hae
  have HR := Lib.hid hr7
  have HO := Lib.hid ho
  have HB := Lib.hid hbb
  clear hr7 ho hbb HS4
  by_cases h1 : t <= W.length + 1
  ·have h1z : (t : Int) <= (W.length : Int) + 1 := by omega
   by_cases h2 : lo <= (t : Int)
   ·have h2z : (t : Int) >= lo := h2
    have HPL := Lib.hid (rplus_any (W.length + 1) 1 (tmF (nowV l i W a) lo t) (nowV l i W a t) u14 (.slice (some ⟨b7, o7, none⟩) (W.length + 1) c7) wr (by omega) (by omega) (fun b => tmF_le) (fun b => nowV_le) (by omega) (by
     have := HO.out.rd
     rwa [rowL_length] at this) ⟨_, _, rfl, HR.out⟩)
    rw [rowL_congr fun b _ => tmF_step h2] at HPL
    clear h2
    go_wp2_with fail
    refine HPL.out.mono ?_; rintro e w5 ⟨v5, rfl, ho5, hb5⟩
    have HOX := Lib.hid (ho5.mono HB.out.size)
    have HBX := Lib.hid (HB.out.trans (hb5.mono HB.out.size))
    have HRX := Lib.hid (HR.out.later hb5)
    clear ho5 hb5 HPL HO HB HR
    by_cases h3 : (t : Int) = hb
    ·have hq : ((t : Int) == hb) = true := by simp [h3]
     have hT : tmT hb W.length = t + 1 := by
      unfold tmT
      by_cases hm : hb = -1
      ·omega
      ·rw [if_neg hm]; omega
     have HPF : Hid (RwN (rowL (W.length + 1) (tmF (nowV l i W a) lo (tmT hb W.length))) w (.returned v5) w5) := ⟨_, rfl, by rw [hT]; exact HOX.out.mono HB1.out.size, HB1.out.trans (HBX.out.mono HB1.out.size)⟩
     clear HOX HBX HRX hT h3
     go_wp2
     go_ret
     exact HPF.out
    ·have hq : ((t : Int) == hb) = false := by simp [h3]
     have HT3 := Lib.hid h3
     have HZ3 := Lib.hid (HZ.out w5 (HT1.out.later HBX.out))
     clear h3
     go_wp2_with fail
     refine HZ3.out.mono ?_; rintro e w6 ⟨v6, rfl, ho6, hb6⟩
     have HB6 := Lib.hid (HBX.out.trans (hb6.mono HBX.out.size))
     have HO6 := Lib.hid (HOX.out.later hb6)
     have HR6 := Lib.hid (HRX.out.later hb6)
     have HS6 : Hid (TmLi (nowV l i W a t) (offF (rowV l i W)) (W.length + 1) w6 v6 (.int .i64 0) w6) := ⟨0, _, Nat.zero_le _, rfl, rfl, by
      rw [thrF_zero]
      have := ho6.rd
      rwa [rowL_length] at this, Below.refl _ _⟩
     clear ho6 hb6 HZ3 HOX HBX HRX
     go_wp2
     go_loopw [16, 17] (TmLi (nowV l i W a t) (offF (rowV l i W)) (W.length + 1) w6) (fun _ x _ => W.length + 1 - (intOf x).toNat)
     case atStart => exact HS6.out
     case round =>
      obtain ⟨k, v16, hk, rfl, e16, hr, hb⟩ := hrel
      subst e16
      have HRN := Lib.hid hr
      have HBI := Lib.hid hb
      have HBW := Lib.hid (HB6.out.trans (hb.mono HB6.out.size))
      have HRW := Lib.hid (HR6.out.later hb)
      clear hr hb HS6
      by_cases hlt : k < W.length + 1
      ·have hltz : (k : Int) < (W.length : Int) + 1 := by omega
       have hlt2 : k < W.length + 1 := hlt
       obtain ⟨b8, o8, hae, -, hc7⟩ := HRW.out k (by rw [rowL_length]; exact hlt)
       cases hae
       rw [rowL_at hlt] at hc7
       by_cases h0 : nowV l i W a t k = 0
       ·have HS1 : Hid (TmLi (nowV l i W a t) (offF (rowV l i W)) (W.length + 1) w6 v16 (.int .i64 ((k : Int) + 1)) wr) := ⟨k + 1, _, by omega, by go_num, rfl, by rw [thrF_skip h0]; exact HRN.out, HBI.out⟩
        rw [h0] at hc7
        have hz0 : ¬ ((0 : Nat) : Int) > 0 := by omega
        clear HRN HBI HBW HRW h0
        go_wp2
        go_roundw
        case rel => exact HS1.out
        case measure => simp [intOf]; omega
       ·have hz0 : ((nowV l i W a t k : Nat) : Int) > 0 := by omega
        have hF2 : nowV l i W a t k <= 2 := nowV_le
        have HTW := Lib.hid (HT1.out.later HBW.out)
        have HC := Lib.hid (HE.out _ W k wr HTW.out.row HTW.out.wd HN.out (by omega))
        have d0 := HTW.out.box.cell 0
        simp at d0
        have HCL : Hid (∀ w', Below wr.heap.size wr w' -> w'.cell? ⟨b7, o7 + k, none⟩ = some (.int .i64 ((nowV l i W a t k : Nat) : Int))) := fun w' h => by
         obtain ⟨b, o, e1, -, e2⟩ := (HRW.out.later h) k (by rw [rowL_length]; exact hlt)
         cases e1
         rwa [rowL_at hlt] at e2
        have HP : Hid (∀ w' u, RdI (W.length + 1) (rowL (W.length + 1) (thrF (nowV l i W a t) (offF (rowV l i W)) k)) v16 w' -> OwnI w' wr.heap.size u (rowL (W.length + 1) (offF (rowV l i W) k)) -> Calls Try.prog 61 #[v16, u, .int .i64 ((nowV l i W a t k : Nat) : Int)] w' (RwN (rowL (W.length + 1) (thrF (nowV l i W a t) (offF (rowV l i W)) (k + 1))) w')) := fun w' u h1 h2 => by
         have h3 := OwnI.rd h2
         rw [rowL_length] at h3
         have := rplus_any (W.length + 1) (nowV l i W a t k) (thrF (nowV l i W a t) (offF (rowV l i W)) k) (offF (rowV l i W) k) v16 u w' (by omega) (by have := HN.out; omega) (fun b => thrF_le) (fun b => off_le) hF2 h1 h3
         rwa [rowL_congr fun b _ => thrF_step] at this
        generalize nowV l i W a t k = fk at *
        clear h0
        go_wp2_with fail
        refine HC.out.mono ?_; rintro e w7 ⟨v7, rfl, ho7, hb7⟩
        obtain ⟨g8, c8, hv8, hbg8, -, hset8, hcl8, hfz8⟩ := ho7.put (k := k) (by rw [rowL_length]; exact hlt) 0
        rw [rowL_length] at hv8
        subst hv8
        rw [offF_set hlt] at hset8
        have HB8 := Lib.hid (hb7.setCell (p := ⟨g8, k, none⟩) hbg8 (.int .i64 0))
        have hc9 := HCL.out _ HB8.out
        have HPP := Lib.hid (HP.out _ _ (HRN.out.later _ _ _ _ _ HB8.out) hset8)
        have hc8 := HCL.out _ hb7
        clear ho7 hb7 hbg8 hset8 HC HCL HP hc7 d0
        go_wp2_with fail
        refine HPP.out.mono ?_; rintro e w9 ⟨v9, rfl, ho9, hb9⟩
        have HS9 : Hid (TmLi (nowV l i W a t) (offF (rowV l i W)) (W.length + 1) w6 v9 (.int .i64 ((k : Int) + 1)) w9) := ⟨k + 1, _, by omega, by go_num, rfl, by
         have := ho9.rd
         rwa [rowL_length] at this, HBI.out.trans ((HB8.out.trans (hb9.mono HB8.out.size)).mono HBI.out.size)⟩
        clear ho9 hb9 HPP HB8 hc8 hc9 hcl8 hfz8 HRN HBI HBW HRW HTW
        go_wp2
        go_roundw
        case rel => exact HS9.out
        case measure => simp [intOf]; omega
      ·obtain rfl : k = W.length + 1 := by omega
       have hlast : ¬ ((W.length + 1 : Nat) : Int) < (W.length : Int) + 1 := by omega
       have HS10 : Hid (TmLo (nowV l i W a) lo hb W.length w1 v16 v5 (.int .i64 ((t : Int) + 1)) wr) := ⟨t + 1, _, _, by omega, by have := HT3.out; omega, by go_num, rfl, rfl, by
        rw [<- rowL_congr fun b hb => thr_now HFI.out.1 HFI.out.2 (t := t) (show b <= W.length by omega)]
        exact HRN.out, HO6.out.later HBI.out, HBW.out⟩
       clear HRN HBI HBW HRW
       go_wp2
       go_roundw
       case rel => exact HS10.out
       case measure => simp [intOf]; omega
   ·have h2z : ¬ (t : Int) >= lo := h2
    have HOX : Hid (OwnI wr w1.heap.size u14 (rowL (W.length + 1) (tmF (nowV l i W a) lo (t + 1)))) := by unfold Hid; rw [tmF_skip h2]; exact HO.out
    have HBX := HB
    have HRX := HR
    clear HO HB HR h2
    by_cases h3 : (t : Int) = hb
    ·have hq : ((t : Int) == hb) = true := by simp [h3]
     have hT : tmT hb W.length = t + 1 := by
      unfold tmT
      by_cases hm : hb = -1
      ·omega
      ·rw [if_neg hm]; omega
     have HPF : Hid (RwN (rowL (W.length + 1) (tmF (nowV l i W a) lo (tmT hb W.length))) w (.returned u14) wr) := ⟨_, rfl, by rw [hT]; exact HOX.out.mono HB1.out.size, HB1.out.trans (HBX.out.mono HB1.out.size)⟩
     clear HOX HBX HRX hT h3
     go_wp2
     go_ret
     exact HPF.out
    ·have hq : ((t : Int) == hb) = false := by simp [h3]
     have HT3 := Lib.hid h3
     have HZ3 := Lib.hid (HZ.out wr (HT1.out.later HBX.out))
     clear h3
     go_wp2_with fail
     refine HZ3.out.mono ?_; rintro e w6 ⟨v6, rfl, ho6, hb6⟩
     have HB6 := Lib.hid (HBX.out.trans (hb6.mono HBX.out.size))
     have HO6 := Lib.hid (HOX.out.later hb6)
     have HR6 := Lib.hid (HRX.out.later hb6)
     have HS6 : Hid (TmLi (nowV l i W a t) (offF (rowV l i W)) (W.length + 1) w6 v6 (.int .i64 0) w6) := ⟨0, _, Nat.zero_le _, rfl, rfl, by
      rw [thrF_zero]
      have := ho6.rd
      rwa [rowL_length] at this, Below.refl _ _⟩
     clear ho6 hb6 HZ3 HOX HBX HRX
     go_wp2
     go_loopw [16, 17] (TmLi (nowV l i W a t) (offF (rowV l i W)) (W.length + 1) w6) (fun _ x _ => W.length + 1 - (intOf x).toNat)
     case atStart => exact HS6.out
     case round =>
      obtain ⟨k, v16, hk, rfl, e16, hr, hb⟩ := hrel
      subst e16
      have HRN := Lib.hid hr
      have HBI := Lib.hid hb
      have HBW := Lib.hid (HB6.out.trans (hb.mono HB6.out.size))
      have HRW := Lib.hid (HR6.out.later hb)
      clear hr hb HS6
      by_cases hlt : k < W.length + 1
      ·have hltz : (k : Int) < (W.length : Int) + 1 := by omega
       have hlt2 : k < W.length + 1 := hlt
       obtain ⟨b8, o8, hae, -, hc7⟩ := HRW.out k (by rw [rowL_length]; exact hlt)
       cases hae
       rw [rowL_at hlt] at hc7
       by_cases h0 : nowV l i W a t k = 0
       ·have HS1 : Hid (TmLi (nowV l i W a t) (offF (rowV l i W)) (W.length + 1) w6 v16 (.int .i64 ((k : Int) + 1)) wr) := ⟨k + 1, _, by omega, by go_num, rfl, by rw [thrF_skip h0]; exact HRN.out, HBI.out⟩
        rw [h0] at hc7
        have hz0 : ¬ ((0 : Nat) : Int) > 0 := by omega
        clear HRN HBI HBW HRW h0
        go_wp2
        go_roundw
        case rel => exact HS1.out
        case measure => simp [intOf]; omega
       ·have hz0 : ((nowV l i W a t k : Nat) : Int) > 0 := by omega
        have hF2 : nowV l i W a t k <= 2 := nowV_le
        have HTW := Lib.hid (HT1.out.later HBW.out)
        have HC := Lib.hid (HE.out _ W k wr HTW.out.row HTW.out.wd HN.out (by omega))
        have d0 := HTW.out.box.cell 0
        simp at d0
        have HCL : Hid (∀ w', Below wr.heap.size wr w' -> w'.cell? ⟨b7, o7 + k, none⟩ = some (.int .i64 ((nowV l i W a t k : Nat) : Int))) := fun w' h => by
         obtain ⟨b, o, e1, -, e2⟩ := (HRW.out.later h) k (by rw [rowL_length]; exact hlt)
         cases e1
         rwa [rowL_at hlt] at e2
        have HP : Hid (∀ w' u, RdI (W.length + 1) (rowL (W.length + 1) (thrF (nowV l i W a t) (offF (rowV l i W)) k)) v16 w' -> OwnI w' wr.heap.size u (rowL (W.length + 1) (offF (rowV l i W) k)) -> Calls Try.prog 61 #[v16, u, .int .i64 ((nowV l i W a t k : Nat) : Int)] w' (RwN (rowL (W.length + 1) (thrF (nowV l i W a t) (offF (rowV l i W)) (k + 1))) w')) := fun w' u h1 h2 => by
         have h3 := OwnI.rd h2
         rw [rowL_length] at h3
         have := rplus_any (W.length + 1) (nowV l i W a t k) (thrF (nowV l i W a t) (offF (rowV l i W)) k) (offF (rowV l i W) k) v16 u w' (by omega) (by have := HN.out; omega) (fun b => thrF_le) (fun b => off_le) hF2 h1 h3
         rwa [rowL_congr fun b _ => thrF_step] at this
        generalize nowV l i W a t k = fk at *
        clear h0
        go_wp2_with fail
        refine HC.out.mono ?_; rintro e w7 ⟨v7, rfl, ho7, hb7⟩
        obtain ⟨g8, c8, hv8, hbg8, -, hset8, hcl8, hfz8⟩ := ho7.put (k := k) (by rw [rowL_length]; exact hlt) 0
        rw [rowL_length] at hv8
        subst hv8
        rw [offF_set hlt] at hset8
        have HB8 := Lib.hid (hb7.setCell (p := ⟨g8, k, none⟩) hbg8 (.int .i64 0))
        have hc9 := HCL.out _ HB8.out
        have HPP := Lib.hid (HP.out _ _ (HRN.out.later _ _ _ _ _ HB8.out) hset8)
        have hc8 := HCL.out _ hb7
        clear ho7 hb7 hbg8 hset8 HC HCL HP hc7 d0
        go_wp2_with fail
        refine HPP.out.mono ?_; rintro e w9 ⟨v9, rfl, ho9, hb9⟩
        have HS9 : Hid (TmLi (nowV l i W a t) (offF (rowV l i W)) (W.length + 1) w6 v9 (.int .i64 ((k : Int) + 1)) w9) := ⟨k + 1, _, by omega, by go_num, rfl, by
         have := ho9.rd
         rwa [rowL_length] at this, HBI.out.trans ((HB8.out.trans (hb9.mono HB8.out.size)).mono HBI.out.size)⟩
        clear ho9 hb9 HPP HB8 hc8 hc9 hcl8 hfz8 HRN HBI HBW HRW HTW
        go_wp2
        go_roundw
        case rel => exact HS9.out
        case measure => simp [intOf]; omega
      ·obtain rfl : k = W.length + 1 := by omega
       have hlast : ¬ ((W.length + 1 : Nat) : Int) < (W.length : Int) + 1 := by omega
       have HS10 : Hid (TmLo (nowV l i W a) lo hb W.length w1 v16 u14 (.int .i64 ((t : Int) + 1)) wr) := ⟨t + 1, _, _, by omega, by have := HT3.out; omega, by go_num, rfl, rfl, by
        rw [<- rowL_congr fun b hb => thr_now HFI.out.1 HFI.out.2 (t := t) (show b <= W.length by omega)]
        exact HRN.out, HO6.out.later HBI.out, HBW.out⟩
       clear HRN HBI HBW HRW
       go_wp2
       go_roundw
       case rel => exact HS10.out
       case measure => simp [intOf]; omega
  ·obtain rfl : t = W.length + 2 := by omega
   have h1z : ¬ ((W.length + 2 : Nat) : Int) <= (W.length : Int) + 1 := by omega
   have hT : tmT hb W.length = W.length + 2 := by
    unfold tmT
    split <;> omega
   have HPF : Hid (RwN (rowL (W.length + 1) (tmF (nowV l i W a) lo (tmT hb W.length))) w (.returned u14) wr) := ⟨_, rfl, by rw [hT]; exact HO.out.mono HB1.out.size, HB1.out.trans (HB.out.mono HB1.out.size)⟩
   clear HO HB HR hT
   go_wp2
   go_ret
   exact HPF.out
structure RnS (A : Option Addr) (l : List Nd) (c : Nat) (uw : Value) (W : Wd) (bx : Nat) (nd : Nd) (w2 w : World) : Prop where
 t : TwS A l c uw W bx w
 x : Blk w (bx + 1) (ndC nd) 58
 bel : Below w2.heap.size w2 w
theorem RnS.later {A : Option Addr} {l : List Nd} {c : Nat} {uw : Value} {W : Wd} {bx : Nat} {nd : Nd} {w2 w w' : World} (h : RnS A l c uw W bx nd w2 w) (hb : Below w.heap.size w w') : RnS A l c uw W bx nd w2 w' := ⟨h.t.later hb, h.x.later hb, h.bel.trans (hb.mono h.bel.size)⟩
structure EnO (A : Option Addr) (l : List Nd) (c : Nat) (uw : Value) (W : Wd) (bx : Nat) (nd : Nd) (L : List Int) (v : Value) (w2 w : World) : Prop where
 s : RnS A l c uw W bx nd w2 w
 own : OwnI w w2.heap.size v L
theorem EnO.later {A : Option Addr} {l : List Nd} {c : Nat} {uw : Value} {W : Wd} {bx : Nat} {nd : Nd} {L : List Int} {v : Value} {w2 w w' : World} (h : EnO A l c uw W bx nd L v w2 w) (hb : Below w.heap.size w w') : EnO A l c uw W bx nd L v w2 w' := ⟨h.s.later hb, h.own.later hb⟩
set_option maxHeartbeats 16000000 in
theorem rends_k1 {A : Option Addr} {l : List Nd} {c i : Nat} (hF : Form l) (hi : i < l.length) (hk : (atN l i).kind = 1) : EndR A l c i := fun uw W a w hrow hw hn ha => by
 have HV : Hid (rowL (W.length + 1) (rowV l i W a) = (rowL (W.length + 1) fun _ => 0).set a ((1 : Nat) : Int)) := by
  unfold Hid
  rw [rowL_set (by omega)]
  exact rowL_congr fun b hb => row_k1 (by omega) hk
 rw [HV.out]
 clear hF
 obtain ⟨ba, oa, rfl, -, -⟩ := hrow i hi
 have hb1 := (Below.refl w.heap.size w).alloc (Nat.le_refl _) (.cells #[.slice (some ⟨ba, oa, none⟩) l.length c] 24)
 have hz1 := Blk.new w #[.slice (some ⟨ba, oa, none⟩) l.length c] 24
 have hs1 : (w.alloc (.cells #[.slice (some ⟨ba, oa, none⟩) l.length c] 24)).heap.size = w.heap.size + 1 := World.size_alloc _ _
 have hrow1 := hrow.later hb1
 have hw1 := hw.later hb1
 have g := hrow1.at hi rfl
 have hil : (i : Int) < (l.length : Int) := by omega
 have hi0 : ¬ (i : Int) < 0 := by omega
 have hnz : (W.length : Int) <= 1000 := by omega
 have hbz : (a : Int) <= (W.length : Int) := by omega
 have hbz2 : (a : Int) < (W.length : Int) + 1 := by omega
 have hbz0 : ¬ (a : Int) < 0 := by omega
 have HN := Lib.hid hn
 have HA := Lib.hid ha
 obtain ⟨Au, cu, rfl, hcu⟩ := hw.sl
 have hn : atN l i = l.getD i nd0 := rfl
 rw [hn] at hk
 (try rw [hn] at HV)
 generalize l.getD i nd0 = nd at *
 clear hrow hw hn ha hi
 go_enter Try.func39, Try.ntmps39
 go_upto_region 1 with (fail)
 generalize w.alloc (.cells #[.slice (some ⟨ba, oa, none⟩) l.length c] 24) = w1 at *
 have hb2 := (Below.refl w1.heap.size w1).alloc (Nat.le_refl _) (.cells (ndC nd) 58)
 have hz2 := Blk.new w1 (ndC nd) 58
 rw [hs1] at hz2
 have HE2 : Hid (RnS (some ⟨ba, oa, none⟩) l c (.slice Au W.length cu) W w.heap.size nd (w1.alloc (.cells (ndC nd) 58)) (w1.alloc (.cells (ndC nd) 58))) := ⟨⟨hrow1.later hb2, hw1.later hb2, hz1.later hb2⟩, hz2, Below.refl _ _⟩
 have HB3 := Lib.hid (hb1.trans (hb2.mono hb1.size))
 have d0 := hz1.cell 0
 simp at d0
 clear hb1 hz1 hb2 hz2 hrow1 hw1
 obtain ⟨kk, na, nb, nlo, nhi, ncls, ntext⟩ := nd
 unfold At10 at g
 simp only at g hk HV
 subst hk
 obtain ⟨g0, g1, g2, g3, g4, g5, g6, g7, g8, g9⟩ := g
 have hndc : ndC ⟨1, na, nb, nlo, nhi, ncls, ntext⟩ = #[.int .i64 1, .int .i64 na, .int .i64 nb, .int .i64 nlo, .int .i64 nhi, .int .u64 (wd ncls 0), .int .u64 (wd ncls 1), .int .u64 (wd ncls 2), .int .u64 (wd ncls 3), .string (bs ntext)] := rfl
 rw [hndc] at HE2 HB3
 clear hndc
 go_upto_region 2 with (fail)
 clear g0 g1 g2 g3 g4 g5 g6 g7 g8 g9 d0
 generalize w1.alloc (.cells #[.int .i64 1, .int .i64 na, .int .i64 nb, .int .i64 nlo, .int .i64 nhi, .int .u64 (wd ncls 0), .int .u64 (wd ncls 1), .int .u64 (wd ncls 2), .int .u64 (wd ncls 3), .string (bs ntext)] 58) = w2 at *
 have HZ := Lib.hid (rzero_any (.slice Au W.length cu) W w2 HE2.out.t.wd HN.out)
 go_wp2_with fail
 refine HZ.out.mono ?_; rintro e w3 ⟨v3, rfl, ho3, hb3⟩
 have HE3 : Hid (EnO (some ⟨ba, oa, none⟩) l c (.slice Au W.length cu) W w.heap.size ⟨1, na, nb, nlo, nhi, ncls, ntext⟩ (rowL (W.length + 1) fun _ => 0) v3 w2 w3) := ⟨HE2.out.later hb3, ho3⟩
 clear ho3 hb3 HZ
 have gg := HE3.out.s.x
 obtain ⟨g0, g1, g2, g3, g4, g5, g6, g7, g8, g9⟩ := ten_cells gg
 clear gg
 have HOX := Lib.hid HE3.out.own
 have HBX := Lib.hid HE3.out.s.bel
 clear HE3 HE2
 obtain ⟨g8, c8, hv8, hbg8, -, hset8, hcl8, hfz8⟩ := HOX.out.put (k := a) (by rw [rowL_length]; have := HA.out; omega) ((1 : Nat) : Int)
 rw [rowL_length] at hv8
 subst hv8
 have HPF : Hid (RwN ((rowL (W.length + 1) fun _ => 0).set a ((1 : Nat) : Int)) w (.returned (.slice (some ⟨g8, 0, none⟩) (W.length + 1) c8)) (w3.setCell ⟨g8, a, none⟩ (.int .i64 ((1 : Nat) : Int)))) := ⟨_, rfl, hset8.mono HB3.out.size, HB3.out.trans ((HBX.out.setCell (p := ⟨g8, a, none⟩) hbg8 _).mono HB3.out.size)⟩
 clear hbg8 hset8 HOX HBX
 go_wp2
 go_ret
 exact HPF.out
set_option maxHeartbeats 16000000 in
theorem rends_k2 {A : Option Addr} {l : List Nd} {c i : Nat} (hF : Form l) (hi : i < l.length) (hk : (atN l i).kind = 2) : EndR A l c i := fun uw W a w hrow hw hn ha => by
 have HV0 : Hid (rowL (W.length + 1) (rowV l i W a) = if a < W.length /\ (atN l i).cls.getLsbD (W.getD a 0).toNat = true then (rowL (W.length + 1) fun _ => 0).set (a + 1) ((1 : Nat) : Int) else rowL (W.length + 1) fun _ => 0) := by
  unfold Hid
  by_cases h : a < W.length /\ (atN l i).cls.getLsbD (W.getD a 0).toNat = true
  ·rw [if_pos h, rowL_set (by omega)]
   refine rowL_congr fun b hb => ?_
   rw [row_k2 (by omega) hk]
   by_cases e : b = a + 1
   ·rw [if_pos ⟨e, h.2⟩, if_pos e]
   ·rw [if_neg (fun h' => e h'.1), if_neg e]
  ·rw [if_neg h]
   refine rowL_congr fun b hb => ?_
   rw [row_k2 (by omega) hk, if_neg (fun h' => h ⟨by omega, h'.2⟩)]
 rw [HV0.out]
 clear hF HV0
 have hw0 := hw
 by_cases hal : a < W.length
 ·have HD : Hid (∀ w', IsW W uw w' -> ∃ b o c', uw = .slice (some ⟨b, o, none⟩) W.length c' /\ w'.cell? ⟨b, o + a, none⟩ = some (.int .u8 (((W.getD a 0).toNat : Nat) : Int))) := fun w' h => by
   rcases h with ⟨h1, h2⟩ | ⟨b, off, cap, h1, h2, h5, h3, h4⟩
   ·subst h2; exact absurd hal (by simp)
   ·exact ⟨b, off, cap, h1, h4 a hal⟩
  by_cases hh : (atN l i).cls.getLsbD (W.getD a 0).toNat = true
  ·rw [if_pos ⟨hal, hh⟩]
   have HV := Lib.hid hh
   clear hh
   obtain ⟨ba, oa, rfl, -, -⟩ := hrow i hi
   have hb1 := (Below.refl w.heap.size w).alloc (Nat.le_refl _) (.cells #[.slice (some ⟨ba, oa, none⟩) l.length c] 24)
   have hz1 := Blk.new w #[.slice (some ⟨ba, oa, none⟩) l.length c] 24
   have hs1 : (w.alloc (.cells #[.slice (some ⟨ba, oa, none⟩) l.length c] 24)).heap.size = w.heap.size + 1 := World.size_alloc _ _
   have hrow1 := hrow.later hb1
   have hw1 := hw.later hb1
   have g := hrow1.at hi rfl
   have hil : (i : Int) < (l.length : Int) := by omega
   have hi0 : ¬ (i : Int) < 0 := by omega
   have hnz : (W.length : Int) <= 1000 := by omega
   have hbz : (a : Int) <= (W.length : Int) := by omega
   have hbz2 : (a : Int) < (W.length : Int) + 1 := by omega
   have hbz0 : ¬ (a : Int) < 0 := by omega
   have HN := Lib.hid hn
   have HA := Lib.hid ha
   obtain ⟨Au, cu, rfl, hcu⟩ := hw.sl
   have hn : atN l i = l.getD i nd0 := rfl
   rw [hn] at hk
   (try rw [hn] at HV)
   generalize l.getD i nd0 = nd at *
   clear hrow hw hn ha hi
   go_enter Try.func39, Try.ntmps39
   go_upto_region 1 with (fail)
   generalize w.alloc (.cells #[.slice (some ⟨ba, oa, none⟩) l.length c] 24) = w1 at *
   have hb2 := (Below.refl w1.heap.size w1).alloc (Nat.le_refl _) (.cells (ndC nd) 58)
   have hz2 := Blk.new w1 (ndC nd) 58
   rw [hs1] at hz2
   have HE2 : Hid (RnS (some ⟨ba, oa, none⟩) l c (.slice Au W.length cu) W w.heap.size nd (w1.alloc (.cells (ndC nd) 58)) (w1.alloc (.cells (ndC nd) 58))) := ⟨⟨hrow1.later hb2, hw1.later hb2, hz1.later hb2⟩, hz2, Below.refl _ _⟩
   have HB3 := Lib.hid (hb1.trans (hb2.mono hb1.size))
   have d0 := hz1.cell 0
   simp at d0
   clear hb1 hz1 hb2 hz2 hrow1 hw1
   obtain ⟨kk, na, nb, nlo, nhi, ncls, ntext⟩ := nd
   unfold At10 at g
   simp only at g hk HV
   subst hk
   obtain ⟨g0, g1, g2, g3, g4, g5, g6, g7, g8, g9⟩ := g
   have hndc : ndC ⟨2, na, nb, nlo, nhi, ncls, ntext⟩ = #[.int .i64 2, .int .i64 na, .int .i64 nb, .int .i64 nlo, .int .i64 nhi, .int .u64 (wd ncls 0), .int .u64 (wd ncls 1), .int .u64 (wd ncls 2), .int .u64 (wd ncls 3), .string (bs ntext)] := rfl
   rw [hndc] at HE2 HB3
   clear hndc
   go_upto_region 2 with (fail)
   clear g0 g1 g2 g3 g4 g5 g6 g7 g8 g9 d0
   generalize w1.alloc (.cells #[.int .i64 2, .int .i64 na, .int .i64 nb, .int .i64 nlo, .int .i64 nhi, .int .u64 (wd ncls 0), .int .u64 (wd ncls 1), .int .u64 (wd ncls 2), .int .u64 (wd ncls 3), .string (bs ntext)] 58) = w2 at *
   have HZ := Lib.hid (rzero_any (.slice Au W.length cu) W w2 HE2.out.t.wd HN.out)
   go_wp2_with fail
   refine HZ.out.mono ?_; rintro e w3 ⟨v3, rfl, ho3, hb3⟩
   have HE3 : Hid (EnO (some ⟨ba, oa, none⟩) l c (.slice Au W.length cu) W w.heap.size ⟨2, na, nb, nlo, nhi, ncls, ntext⟩ (rowL (W.length + 1) fun _ => 0) v3 w2 w3) := ⟨HE2.out.later hb3, ho3⟩
   clear ho3 hb3 HZ
   have gg := HE3.out.s.x
   obtain ⟨g0, g1, g2, g3, g4, g5, g6, g7, g8, g9⟩ := ten_cells gg
   clear gg
   clear hw0
   have halz : (a : Int) < (W.length : Int) := by omega
   have hd : decide ((a : Int) < (W.length : Int)) = true := decide_eq_true halz
   have hd2 : decide (a < W.length) = true := decide_eq_true hal
   obtain ⟨b8, o8, c8, hv8, -⟩ := HD.out _ HE3.out.s.t.wd
   obtain ⟨rfl, -, rfl⟩ := Value.slice.inj hv8
   have HCL : Hid (∀ w', IsW W (.slice (some ⟨b8, o8, none⟩) W.length cu) w' -> w'.cell? ⟨b8, o8 + a, none⟩ = some (.int .u8 (((W.getD a 0).toNat : Nat) : Int))) := fun w' h => by
    obtain ⟨b, o, c', h1, h2⟩ := HD.out w' h
    cases h1
    exact h2
   have hy := (W.getD a 0).toNat_lt
   have HHD : Hid (∀ w' : World, Calls Try.prog 12 #[cls ncls, .int .u8 (((W.getD a 0).toNat : Nat) : Int)] w' (Ans w' (.bool true))) := fun w' => by
    have := refhas_any ncls _ hy w'
    rwa [HV.out] at this
   unfold cls at HHD
   generalize (W.getD a 0).toNat = y at *
   clear hv8 HD
   go_upto_region 7 with (fail)
   clear g0 g1 g2 g3 g4 g5 g6 g7 g8 g9
   refine wp_region_stable (S := (EnO (some ⟨ba, oa, none⟩) l c (.slice (some ⟨b8, o8, none⟩) W.length cu) W w.heap.size ⟨2, na, nb, nlo, nhi, ncls, ntext⟩ (rowL (W.length + 1) fun _ => 0) v3 w2)) (hSt := fun _ _ h hb => h.later hb) (plan := [[(3, none)], [(2, none)], [(30, some 1)], [(29, some 0), (31, some 2)], [(32, some 3)], [(9, none)], [(34, some 5)], [(2, none)], [(3, none)], [(36, some 7), (37, some 8)], [(38, some 9)], [(35, some 6), (39, some 10)], [(33, some 4), (40, some 11)]]) (by kernel_rfl) (by kernel_rfl) (by kernel_rfl) ?hS ?_
   rotate_left
   iterate 13 first
    | (refine chain_skip (by rfl) (by rfl) ?_)
    | (apply chain_want (by rfl)
       ·intro act wx hS hr
        simp at hr
        have gg := hS.s.x
        obtain ⟨g0, g1, g2, g3, g4, g5, g6, g7, g8, g9⟩ := ten_cells gg
        clear gg
        have hc := HCL.out _ hS.s.t.wd
        go_simp
        (try go_ints)
        first
         | ((with_reducible refine (HHD.out _).mono ?_); rintro e w5 ⟨rfl, hb5⟩; exact Done.mk hb5)
         | exact Done.same
      )
   show ∀ w', _ -> _
   intro w9 hw9
   simp [Act.put]
   case hS => exact HE3.out
   have HOX := Lib.hid hw9.own
   have HBX := Lib.hid hw9.s.bel
   clear hw9 HE3 HE2 HHD HCL
   have halz2 : (a : Int) + 1 < (W.length : Int) + 1 := by omega
   obtain ⟨g8, c8, hv8, hbg8, -, hset8, hcl8, hfz8⟩ := HOX.out.put (k := (a + 1)) (by rw [rowL_length]; have := HA.out; omega) ((1 : Nat) : Int)
   rw [rowL_length] at hv8
   subst hv8
   have HPF : Hid (RwN ((rowL (W.length + 1) fun _ => 0).set (a + 1) ((1 : Nat) : Int)) w (.returned (.slice (some ⟨g8, 0, none⟩) (W.length + 1) c8)) (w9.setCell ⟨g8, (a + 1), none⟩ (.int .i64 ((1 : Nat) : Int)))) := ⟨_, rfl, hset8.mono HB3.out.size, HB3.out.trans ((HBX.out.setCell (p := ⟨g8, (a + 1), none⟩) hbg8 _).mono HB3.out.size)⟩
   clear hbg8 hset8 HOX HBX
   go_wp2
   go_ret
   exact HPF.out
  ·rw [if_neg (fun h => hh h.2)]
   have HV : Hid ((atN l i).cls.getLsbD (W.getD a 0).toNat = false) := by unfold Hid; simpa using hh
   clear hh
   obtain ⟨ba, oa, rfl, -, -⟩ := hrow i hi
   have hb1 := (Below.refl w.heap.size w).alloc (Nat.le_refl _) (.cells #[.slice (some ⟨ba, oa, none⟩) l.length c] 24)
   have hz1 := Blk.new w #[.slice (some ⟨ba, oa, none⟩) l.length c] 24
   have hs1 : (w.alloc (.cells #[.slice (some ⟨ba, oa, none⟩) l.length c] 24)).heap.size = w.heap.size + 1 := World.size_alloc _ _
   have hrow1 := hrow.later hb1
   have hw1 := hw.later hb1
   have g := hrow1.at hi rfl
   have hil : (i : Int) < (l.length : Int) := by omega
   have hi0 : ¬ (i : Int) < 0 := by omega
   have hnz : (W.length : Int) <= 1000 := by omega
   have hbz : (a : Int) <= (W.length : Int) := by omega
   have hbz2 : (a : Int) < (W.length : Int) + 1 := by omega
   have hbz0 : ¬ (a : Int) < 0 := by omega
   have HN := Lib.hid hn
   have HA := Lib.hid ha
   obtain ⟨Au, cu, rfl, hcu⟩ := hw.sl
   have hn : atN l i = l.getD i nd0 := rfl
   rw [hn] at hk
   (try rw [hn] at HV)
   generalize l.getD i nd0 = nd at *
   clear hrow hw hn ha hi
   go_enter Try.func39, Try.ntmps39
   go_upto_region 1 with (fail)
   generalize w.alloc (.cells #[.slice (some ⟨ba, oa, none⟩) l.length c] 24) = w1 at *
   have hb2 := (Below.refl w1.heap.size w1).alloc (Nat.le_refl _) (.cells (ndC nd) 58)
   have hz2 := Blk.new w1 (ndC nd) 58
   rw [hs1] at hz2
   have HE2 : Hid (RnS (some ⟨ba, oa, none⟩) l c (.slice Au W.length cu) W w.heap.size nd (w1.alloc (.cells (ndC nd) 58)) (w1.alloc (.cells (ndC nd) 58))) := ⟨⟨hrow1.later hb2, hw1.later hb2, hz1.later hb2⟩, hz2, Below.refl _ _⟩
   have HB3 := Lib.hid (hb1.trans (hb2.mono hb1.size))
   have d0 := hz1.cell 0
   simp at d0
   clear hb1 hz1 hb2 hz2 hrow1 hw1
   obtain ⟨kk, na, nb, nlo, nhi, ncls, ntext⟩ := nd
   unfold At10 at g
   simp only at g hk HV
   subst hk
   obtain ⟨g0, g1, g2, g3, g4, g5, g6, g7, g8, g9⟩ := g
   have hndc : ndC ⟨2, na, nb, nlo, nhi, ncls, ntext⟩ = #[.int .i64 2, .int .i64 na, .int .i64 nb, .int .i64 nlo, .int .i64 nhi, .int .u64 (wd ncls 0), .int .u64 (wd ncls 1), .int .u64 (wd ncls 2), .int .u64 (wd ncls 3), .string (bs ntext)] := rfl
   rw [hndc] at HE2 HB3
   clear hndc
   go_upto_region 2 with (fail)
   clear g0 g1 g2 g3 g4 g5 g6 g7 g8 g9 d0
   generalize w1.alloc (.cells #[.int .i64 2, .int .i64 na, .int .i64 nb, .int .i64 nlo, .int .i64 nhi, .int .u64 (wd ncls 0), .int .u64 (wd ncls 1), .int .u64 (wd ncls 2), .int .u64 (wd ncls 3), .string (bs ntext)] 58) = w2 at *
   have HZ := Lib.hid (rzero_any (.slice Au W.length cu) W w2 HE2.out.t.wd HN.out)
   go_wp2_with fail
   refine HZ.out.mono ?_; rintro e w3 ⟨v3, rfl, ho3, hb3⟩
   have HE3 : Hid (EnO (some ⟨ba, oa, none⟩) l c (.slice Au W.length cu) W w.heap.size ⟨2, na, nb, nlo, nhi, ncls, ntext⟩ (rowL (W.length + 1) fun _ => 0) v3 w2 w3) := ⟨HE2.out.later hb3, ho3⟩
   clear ho3 hb3 HZ
   have gg := HE3.out.s.x
   obtain ⟨g0, g1, g2, g3, g4, g5, g6, g7, g8, g9⟩ := ten_cells gg
   clear gg
   clear hw0
   have halz : (a : Int) < (W.length : Int) := by omega
   have hd : decide ((a : Int) < (W.length : Int)) = true := decide_eq_true halz
   have hd2 : decide (a < W.length) = true := decide_eq_true hal
   obtain ⟨b8, o8, c8, hv8, -⟩ := HD.out _ HE3.out.s.t.wd
   obtain ⟨rfl, -, rfl⟩ := Value.slice.inj hv8
   have HCL : Hid (∀ w', IsW W (.slice (some ⟨b8, o8, none⟩) W.length cu) w' -> w'.cell? ⟨b8, o8 + a, none⟩ = some (.int .u8 (((W.getD a 0).toNat : Nat) : Int))) := fun w' h => by
    obtain ⟨b, o, c', h1, h2⟩ := HD.out w' h
    cases h1
    exact h2
   have hy := (W.getD a 0).toNat_lt
   have HHD : Hid (∀ w' : World, Calls Try.prog 12 #[cls ncls, .int .u8 (((W.getD a 0).toNat : Nat) : Int)] w' (Ans w' (.bool false))) := fun w' => by
    have := refhas_any ncls _ hy w'
    rwa [HV.out] at this
   unfold cls at HHD
   generalize (W.getD a 0).toNat = y at *
   clear hv8 HD
   go_upto_region 7 with (fail)
   clear g0 g1 g2 g3 g4 g5 g6 g7 g8 g9
   refine wp_region_stable (S := (EnO (some ⟨ba, oa, none⟩) l c (.slice (some ⟨b8, o8, none⟩) W.length cu) W w.heap.size ⟨2, na, nb, nlo, nhi, ncls, ntext⟩ (rowL (W.length + 1) fun _ => 0) v3 w2)) (hSt := fun _ _ h hb => h.later hb) (plan := [[(3, none)], [(2, none)], [(30, some 1)], [(29, some 0), (31, some 2)], [(32, some 3)], [(9, none)], [(34, some 5)], [(2, none)], [(3, none)], [(36, some 7), (37, some 8)], [(38, some 9)], [(35, some 6), (39, some 10)], [(33, some 4), (40, some 11)]]) (by kernel_rfl) (by kernel_rfl) (by kernel_rfl) ?hS ?_
   rotate_left
   iterate 13 first
    | (refine chain_skip (by rfl) (by rfl) ?_)
    | (apply chain_want (by rfl)
       ·intro act wx hS hr
        simp at hr
        have gg := hS.s.x
        obtain ⟨g0, g1, g2, g3, g4, g5, g6, g7, g8, g9⟩ := ten_cells gg
        clear gg
        have hc := HCL.out _ hS.s.t.wd
        go_simp
        (try go_ints)
        first
         | ((with_reducible refine (HHD.out _).mono ?_); rintro e w5 ⟨rfl, hb5⟩; exact Done.mk hb5)
         | exact Done.same
      )
   show ∀ w', _ -> _
   intro w9 hw9
   simp [Act.put]
   case hS => exact HE3.out
   have HOX := Lib.hid hw9.own
   have HBX := Lib.hid hw9.s.bel
   clear hw9 HE3 HE2 HHD HCL
   have HPF : Hid (RwN (rowL (W.length + 1) fun _ => 0) w (.returned v3) w9) := ⟨_, rfl, HOX.out.mono HB3.out.size, HB3.out.trans (HBX.out.mono HB3.out.size)⟩
   clear HOX HBX
   go_wp2
   go_ret
   exact HPF.out
 ·rw [if_neg (fun h => hal h.1)]
  have HV : Hid ((atN l i).kind = (atN l i).kind) := rfl
  obtain ⟨ba, oa, rfl, -, -⟩ := hrow i hi
  have hb1 := (Below.refl w.heap.size w).alloc (Nat.le_refl _) (.cells #[.slice (some ⟨ba, oa, none⟩) l.length c] 24)
  have hz1 := Blk.new w #[.slice (some ⟨ba, oa, none⟩) l.length c] 24
  have hs1 : (w.alloc (.cells #[.slice (some ⟨ba, oa, none⟩) l.length c] 24)).heap.size = w.heap.size + 1 := World.size_alloc _ _
  have hrow1 := hrow.later hb1
  have hw1 := hw.later hb1
  have g := hrow1.at hi rfl
  have hil : (i : Int) < (l.length : Int) := by omega
  have hi0 : ¬ (i : Int) < 0 := by omega
  have hnz : (W.length : Int) <= 1000 := by omega
  have hbz : (a : Int) <= (W.length : Int) := by omega
  have hbz2 : (a : Int) < (W.length : Int) + 1 := by omega
  have hbz0 : ¬ (a : Int) < 0 := by omega
  have HN := Lib.hid hn
  have HA := Lib.hid ha
  obtain ⟨Au, cu, rfl, hcu⟩ := hw.sl
  have hn : atN l i = l.getD i nd0 := rfl
  rw [hn] at hk
  (try rw [hn] at HV)
  generalize l.getD i nd0 = nd at *
  clear hrow hw hn ha hi
  go_enter Try.func39, Try.ntmps39
  go_upto_region 1 with (fail)
  generalize w.alloc (.cells #[.slice (some ⟨ba, oa, none⟩) l.length c] 24) = w1 at *
  have hb2 := (Below.refl w1.heap.size w1).alloc (Nat.le_refl _) (.cells (ndC nd) 58)
  have hz2 := Blk.new w1 (ndC nd) 58
  rw [hs1] at hz2
  have HE2 : Hid (RnS (some ⟨ba, oa, none⟩) l c (.slice Au W.length cu) W w.heap.size nd (w1.alloc (.cells (ndC nd) 58)) (w1.alloc (.cells (ndC nd) 58))) := ⟨⟨hrow1.later hb2, hw1.later hb2, hz1.later hb2⟩, hz2, Below.refl _ _⟩
  have HB3 := Lib.hid (hb1.trans (hb2.mono hb1.size))
  have d0 := hz1.cell 0
  simp at d0
  clear hb1 hz1 hb2 hz2 hrow1 hw1
  obtain ⟨kk, na, nb, nlo, nhi, ncls, ntext⟩ := nd
  unfold At10 at g
  simp only at g hk HV
  subst hk
  obtain ⟨g0, g1, g2, g3, g4, g5, g6, g7, g8, g9⟩ := g
  have hndc : ndC ⟨2, na, nb, nlo, nhi, ncls, ntext⟩ = #[.int .i64 2, .int .i64 na, .int .i64 nb, .int .i64 nlo, .int .i64 nhi, .int .u64 (wd ncls 0), .int .u64 (wd ncls 1), .int .u64 (wd ncls 2), .int .u64 (wd ncls 3), .string (bs ntext)] := rfl
  rw [hndc] at HE2 HB3
  clear hndc
  go_upto_region 2 with (fail)
  clear g0 g1 g2 g3 g4 g5 g6 g7 g8 g9 d0
  generalize w1.alloc (.cells #[.int .i64 2, .int .i64 na, .int .i64 nb, .int .i64 nlo, .int .i64 nhi, .int .u64 (wd ncls 0), .int .u64 (wd ncls 1), .int .u64 (wd ncls 2), .int .u64 (wd ncls 3), .string (bs ntext)] 58) = w2 at *
  have HZ := Lib.hid (rzero_any (.slice Au W.length cu) W w2 HE2.out.t.wd HN.out)
  go_wp2_with fail
  refine HZ.out.mono ?_; rintro e w3 ⟨v3, rfl, ho3, hb3⟩
  have HE3 : Hid (EnO (some ⟨ba, oa, none⟩) l c (.slice Au W.length cu) W w.heap.size ⟨2, na, nb, nlo, nhi, ncls, ntext⟩ (rowL (W.length + 1) fun _ => 0) v3 w2 w3) := ⟨HE2.out.later hb3, ho3⟩
  clear ho3 hb3 HZ
  have gg := HE3.out.s.x
  obtain ⟨g0, g1, g2, g3, g4, g5, g6, g7, g8, g9⟩ := ten_cells gg
  clear gg
  clear hw0
  have hz : ¬ (a : Int) < (W.length : Int) := by omega
  have hd : decide ((a : Int) < (W.length : Int)) = false := decide_eq_false hz
  have hd2 : decide (a < W.length) = false := decide_eq_false hal
  have hd3 : decide ((W.length : Int) <= (a : Int)) = true := decide_eq_true (by omega)
  go_upto_region 7 with (fail)
  clear g0 g1 g2 g3 g4 g5 g6 g7 g8 g9
  refine wp_region_stable (S := (EnO (some ⟨ba, oa, none⟩) l c (.slice Au W.length cu) W w.heap.size ⟨2, na, nb, nlo, nhi, ncls, ntext⟩ (rowL (W.length + 1) fun _ => 0) v3 w2)) (hSt := fun _ _ h hb => h.later hb) (plan := [[(3, none)], [(2, none)], [(30, some 1)], [(29, some 0), (31, some 2)], [(32, some 3)], [(9, none)], [(34, some 5)], [(2, none)], [(3, none)], [(36, some 7), (37, some 8)], [(38, some 9)], [(35, some 6), (39, some 10)], [(33, some 4), (40, some 11)]]) (by kernel_rfl) (by kernel_rfl) (by kernel_rfl) ?hS ?_
  rotate_left
  iterate 13 first
   | (refine chain_skip (by rfl) (by rfl) ?_)
   | (apply chain_want (by rfl)
      ·intro act wx hS hr
       simp at hr
       go_simp
       (try go_ints)
       first
        | exact Done.same
     )
  show ∀ w', _ -> _
  intro w9 hw9
  simp [Act.put]
  case hS => exact HE3.out
  have HOX := Lib.hid hw9.own
  have HBX := Lib.hid hw9.s.bel
  clear hw9 HE3 HE2
  have HPF : Hid (RwN (rowL (W.length + 1) fun _ => 0) w (.returned v3) w9) := ⟨_, rfl, HOX.out.mono HB3.out.size, HB3.out.trans (HBX.out.mono HB3.out.size)⟩
  clear HOX HBX
  go_wp2
  go_ret
  exact HPF.out
end Go.Proofs.Ytidoofdofdhjpaa
