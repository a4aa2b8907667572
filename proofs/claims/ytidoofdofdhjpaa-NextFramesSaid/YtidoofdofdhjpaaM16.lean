/- The document's First, and Form: walked. -/
import Derived.Test.YtidoofdofdhjpaaM15
namespace Go.Proofs.Ytidoofdofdhjpaa
open Go Go.RowKit
set_option linter.unusedVariables false
set_option linter.unusedSimpArgs false
structure Rf2 (w0 : World) (A : Option Addr) (l : List Nd) (vs us : Array Value) (w : World) : Prop where
 bel : Below w0.heap.size w0 w
 row : NRow w A l
 nb : Blk w w0.heap.size vs 58
 wb : Blk w (w0.heap.size + 1) us 58
theorem Rf2.later {w0 w w' : World} {A : Option Addr} {l : List Nd} {vs us : Array Value} (h : Rf2 w0 A l vs us w) (hb : Below w.heap.size w w') : Rf2 w0 A l vs us w' :=
 ⟨h.bel.trans (hb.mono h.bel.size), h.row.later hb, h.nb.later hb, h.wb.later hb⟩
theorem Rf2.set {w0 w : World} {A : Option Addr} {l : List Nd} {vs us : Array Value} (h : Rf2 w0 A l vs us w) (hA : ∀ b o, A = some ⟨b, o, none⟩ -> b < w0.heap.size) (o : Nat) (v : Value) : Rf2 w0 A l vs (us.setIfInBounds o v) (w.setCell ⟨w0.heap.size + 1, o, none⟩ v) := by
 have hb : Below w0.heap.size w (w.setCell ⟨w0.heap.size + 1, o, none⟩ v) := (Below.refl _ _).setCell (p := ⟨w0.heap.size + 1, o, none⟩) (Nat.le_succ _) v
 exact ⟨h.bel.trans hb, h.row.below hA hb hb.size, h.nb.setCell_ne (a := ⟨w0.heap.size + 1, o, none⟩) (by show w0.heap.size + 1 ≠ _; omega) v, h.wb.setCell o v⟩
theorem Rf2.new {w : World} {A : Option Addr} {l : List Nd} (h : NRow w A l) (vs us : Array Value) : Rf2 w A l vs us ((w.alloc (.cells vs 58)).alloc (.cells us 58)) := by
 have HB := ((Below.refl w.heap.size w).alloc (Nat.le_refl _) (.cells vs 58)).alloc (by simp) (.cells us 58)
 refine ⟨HB, h.later HB, (Blk.new w _ _).alloc _, ?_⟩
 have := Blk.new (w.alloc (.cells vs 58)) us 58
 simpa using this
section
variable {l : List Nd} {i : Nat} {n : Nd} (hn : atN l i = n)
include hn
theorem refG_a (hk : n.kind = 1 \/ n.kind = 2) : refG l (i + 1) = if n = wantOf n i 0 then (i : Int) else -1 := by
 rw [refG]; simp only [hn]; rw [if_pos hk]
theorem refG_b (hk : n.kind = 3) (ht : textOk n.text = true) : refG l (i + 1) = if n = wantOf n i 0 then (i : Int) else -1 := by
 rw [refG]; simp only [hn]; rw [if_neg (by omega), if_pos hk, if_pos ht]
theorem refG_b2 (hk : n.kind = 3) (ht : textOk n.text = false) : refG l (i + 1) = -1 := by
 rw [refG]; simp only [hn]; rw [if_neg (by omega), if_pos hk, if_neg (by rw [ht]; simp)]
theorem refG_c (hk : n.kind = 6 \/ n.kind = 8 \/ n.kind = 9) : refG l (i + 1) = if n = wantOf n i 0 then refG l i else -1 := by
 rw [refG]; simp only [hn]; rw [if_neg (by omega), if_neg (by omega), if_pos (by omega), if_neg (by omega)]
theorem refG_d (hk : n.kind = 7) (h : ¬ (n.lo < 0 \/ n.lo > n.hi \/ n.hi > 255)) : refG l (i + 1) = if n = wantOf n i 0 then refG l i else -1 := by
 rw [refG]; simp only [hn]; rw [if_neg (by omega), if_neg (by omega), if_pos (by omega), if_neg (by omega)]
theorem refG_d2 (hk : n.kind = 7) (h : n.lo < 0 \/ n.lo > n.hi \/ n.hi > 255) : refG l (i + 1) = -1 := by
 rw [refG]; simp only [hn]; rw [if_neg (by omega), if_neg (by omega), if_pos (by omega), if_pos ⟨hk, h⟩]
theorem refG_e (hk : n.kind = 4 \/ n.kind = 5) (h : ¬ refG l i < 0) : refG l (i + 1) = if n = wantOf n i (refG l i) then refG l (refG l i).toNat else -1 := by
 have := (refG_lt l i).1
 rw [refG]; simp only [hn]; rw [if_neg (by omega), if_neg (by omega), if_neg (by omega), if_pos hk, if_neg h, dif_pos (by omega)]
theorem refG_e2 (hk : n.kind = 4 \/ n.kind = 5) (h : refG l i < 0) : refG l (i + 1) = -1 := by
 rw [refG]; simp only [hn]; rw [if_neg (by omega), if_neg (by omega), if_neg (by omega), if_pos hk, if_pos h]
theorem refG_f (h : ¬ (1 <= n.kind /\ n.kind <= 9)) : refG l (i + 1) = -1 := by
 rw [refG]; simp only [hn]; rw [if_neg (by omega), if_neg (by omega), if_neg (by omega), if_neg (by omega)]
end
set_option maxHeartbeats 64000000 in
set_option maxRecDepth 1000000 in
theorem reffirst_any (l : List Nd) (A : Option Addr) (c : Nat) (hlen : l.length <= 1073741824) (htx : Txt l) : ∀ (j : Nat), j <= l.length -> ∀ (w : World), NRow w A l ->
 Calls Try.prog 41 #[.slice A l.length c, .int .i64 ((j : Int) - 1)] w (Ans w (.int .i64 (refG l j))) := by
 intro j
 induction j using Nat.strongRecOn with
 | ind j ih =>
  intro hj w hrow
  cases j with
  | zero =>
   have HR : Hid (refG l 0 = -1) := by unfold Hid; rw [refG]
   clear ih
   go_enter Try.func41, Try.ntmps41
   go_wp2
   go_ret
   exact ⟨by rw [HR.out]; rfl, Below.refl _ _⟩
  | succ i =>
   have IH : Hid (∀ m, m < i + 1 -> ∀ (w : World), NRow w A l -> Calls Try.prog 41 #[.slice A l.length c, .int .i64 ((m : Int) - 1)] w (Ans w (.int .i64 (refG l m)))) := fun m hm w h => ih m hm (by omega) w h
   clear ih
   have hii : ((i + 1 : Nat) : Int) - 1 = (i : Int) := by omega
   rw [hii]
   clear hii
   have hi : i < l.length := by omega
   have hA : ∀ b o, A = some ⟨b, o, none⟩ -> b < w.heap.size := fun b o e => by
    obtain ⟨b', o', h1, h2, _⟩ := hrow i hi
    rw [e] at h1; cases h1; exact h2
   have HA := Lib.hid hA
   have HX0 : Hid (∀ vs us : Array Value, Rf2 w A l vs us ((w.alloc (.cells vs 58)).alloc (.cells us 58))) := fun vs us => Rf2.new hrow vs us
   obtain ⟨ba, oa, rfl, -, -⟩ := hrow i hi
   have hiz : (i : Int) < (l.length : Int) := by omega
   have g : At10 w ba (oa + i * 10) (l.getD i nd0) := hrow.at hi rfl
   have htx2 := txt_at htx i
   have hat : atN l i = l.getD i nd0 := rfl
   rw [hat] at htx2
   have HAT := Lib.hid hat
   have HLT := Lib.hid (refG_lt l i)
   clear hA hrow hat
   generalize l.getD i nd0 = n at *
   obtain ⟨k, a, b, lo, hi', cls, text⟩ := n
   simp only at htx2
   unfold At10 at g
   simp only at g
   obtain ⟨g0, g1, g2, g3, g4, g5, g6, g7, g8, g9⟩ := g
   go_enter Try.func41, Try.ntmps41
   go_upto_region 5 with (fail)
   have HX := Lib.hid (HX0.out #[.int .i64 k, .int .i64 a, .int .i64 b, .int .i64 lo, .int .i64 hi', .int .u64 (wd cls 0), .int .u64 (wd cls 1), .int .u64 (wd cls 2), .int .u64 (wd cls 3), .string (bs text)] #[.int .i64 k, .int .i64 0, .int .i64 0, .int .i64 0, .int .i64 0, .int .u64 0, .int .u64 0, .int .u64 0, .int .u64 0, .string ⟨#[]⟩])
   generalize (w.alloc (.cells #[.int .i64 k, .int .i64 a, .int .i64 b, .int .i64 lo, .int .i64 hi', .int .u64 (wd cls 0), .int .u64 (wd cls 1), .int .u64 (wd cls 2), .int .u64 (wd cls 3), .string (bs text)] 58)).alloc (.cells #[.int .i64 k, .int .i64 0, .int .i64 0, .int .i64 0, .int .i64 0, .int .u64 0, .int .u64 0, .int .u64 0, .int .u64 0, .string ⟨#[]⟩] 58) = w1 at *
   clear g0 g1 g2 g3 g4 g5 g6 g7 g8 g9 HX0
   by_cases c1 : k = 1
   ·subst c1
    have HRF : Hid (refG l (i + 1) = if (⟨1, a, b, lo, hi', cls, text⟩ : Nd) = ⟨1, 0, 0, 0, 0, 0#256, []⟩ then (i : Int) else -1) := refG_a HAT.out (.inl rfl)
    clear HAT
    have gn := HX.out.nb
    have gw := HX.out.wb
    obtain ⟨e0, e1, e2, e3, e4, e5, e6, e7, e8, e9⟩ := ten_cells gn
    obtain ⟨f0, f1, f2, f3, f4, f5, f6, f7, f8, f9⟩ := ten_cells gw
    have fz := gw.frozen
    clear gn gw
    go_upto_region 34 with (fail)
    have hq := fun w => neq_nd (⟨1, a, b, lo, hi', cls, text⟩ : Nd) (⟨1, 0, 0, 0, 0, 0#256, []⟩ : Nd) w
    have hg := fun o1 o2 w => eqGuard_neq_nd o1 o2 (⟨1, a, b, lo, hi', cls, text⟩ : Nd) (⟨1, 0, 0, 0, 0, 0#256, []⟩ : Nd) w
    (try rw [ndC_zero] at hq hg)
    simp only [ndC, bs_nil] at hq hg
    by_cases he : (⟨1, a, b, lo, hi', cls, text⟩ : Nd) = (⟨1, 0, 0, 0, 0, 0#256, []⟩ : Nd)
    ·have hd : decide ((⟨1, a, b, lo, hi', cls, text⟩ : Nd) = (⟨1, 0, 0, 0, 0, 0#256, []⟩ : Nd)) = true := decide_eq_true he
     have HR : Hid (refG l (i + 1) = (i : Int)) := by unfold Hid; rw [HRF.out, if_pos he]
     rw [hd] at hq
     clear hd he
     go_wp2
     go_ret
     exact ⟨by rw [HR.out]; rfl, HX.out.bel⟩
    ·have hd : decide ((⟨1, a, b, lo, hi', cls, text⟩ : Nd) = (⟨1, 0, 0, 0, 0, 0#256, []⟩ : Nd)) = false := decide_eq_false he
     have HR : Hid (refG l (i + 1) = -1) := by unfold Hid; rw [HRF.out, if_neg he]
     rw [hd] at hq
     clear hd he
     go_wp2
     go_ret
     exact ⟨by rw [HR.out]; rfl, HX.out.bel⟩
   by_cases c2 : k = 2
   ·subst c2
    have HRF : Hid (refG l (i + 1) = if (⟨2, a, b, lo, hi', cls, text⟩ : Nd) = ⟨2, 0, 0, 0, 0, cls, []⟩ then (i : Int) else -1) := refG_a HAT.out (.inr rfl)
    clear HAT
    have gn := HX.out.nb
    have gw := HX.out.wb
    obtain ⟨e0, e1, e2, e3, e4, e5, e6, e7, e8, e9⟩ := ten_cells gn
    obtain ⟨f0, f1, f2, f3, f4, f5, f6, f7, f8, f9⟩ := ten_cells gw
    have fz := gw.frozen
    clear gn gw
    go_upto_region 34 with (fail)
    clear e0 e1 e2 e3 e4 e5 e6 e7 e8 e9 f0 f1 f2 f3 f4 f5 f6 f7 f8 f9 fz
    have HX2 : Hid (Rf2 w (some ⟨ba, oa, none⟩) l #[.int .i64 2, .int .i64 a, .int .i64 b, .int .i64 lo, .int .i64 hi', .int .u64 (wd cls 0), .int .u64 (wd cls 1), .int .u64 (wd cls 2), .int .u64 (wd cls 3), .string (bs text)] #[.int .i64 2, .int .i64 0, .int .i64 0, .int .i64 0, .int .i64 0, .int .u64 (wd cls 0), .int .u64 (wd cls 1), .int .u64 (wd cls 2), .int .u64 (wd cls 3), .string ⟨#[]⟩] ((((w1.setCell ⟨w.heap.size + 1, 5, none⟩ (.int .u64 (wd cls 0))).setCell ⟨w.heap.size + 1, 6, none⟩ (.int .u64 (wd cls 1))).setCell ⟨w.heap.size + 1, 7, none⟩ (.int .u64 (wd cls 2))).setCell ⟨w.heap.size + 1, 8, none⟩ (.int .u64 (wd cls 3)))) := ((((HX.out.set HA.out 5 (.int .u64 (wd cls 0))).set HA.out 6 (.int .u64 (wd cls 1))).set HA.out 7 (.int .u64 (wd cls 2))).set HA.out 8 (.int .u64 (wd cls 3)))
    clear HX
    generalize (((w1.setCell ⟨w.heap.size + 1, 5, none⟩ (.int .u64 (wd cls 0))).setCell ⟨w.heap.size + 1, 6, none⟩ (.int .u64 (wd cls 1))).setCell ⟨w.heap.size + 1, 7, none⟩ (.int .u64 (wd cls 2))).setCell ⟨w.heap.size + 1, 8, none⟩ (.int .u64 (wd cls 3)) = w2 at *
    have HX := Lib.hid HX2.out
    clear HX2
    have gn := HX.out.nb
    have gw := HX.out.wb
    obtain ⟨e0, e1, e2, e3, e4, e5, e6, e7, e8, e9⟩ := ten_cells gn
    obtain ⟨f0, f1, f2, f3, f4, f5, f6, f7, f8, f9⟩ := ten_cells gw
    have fz := gw.frozen
    clear gn gw
    have hq := fun w => neq_nd (⟨2, a, b, lo, hi', cls, text⟩ : Nd) (⟨2, 0, 0, 0, 0, cls, []⟩ : Nd) w
    have hg := fun o1 o2 w => eqGuard_neq_nd o1 o2 (⟨2, a, b, lo, hi', cls, text⟩ : Nd) (⟨2, 0, 0, 0, 0, cls, []⟩ : Nd) w
    (try rw [ndC_zero] at hq hg)
    simp only [ndC, bs_nil] at hq hg
    by_cases he : (⟨2, a, b, lo, hi', cls, text⟩ : Nd) = (⟨2, 0, 0, 0, 0, cls, []⟩ : Nd)
    ·have hd : decide ((⟨2, a, b, lo, hi', cls, text⟩ : Nd) = (⟨2, 0, 0, 0, 0, cls, []⟩ : Nd)) = true := decide_eq_true he
     have HR : Hid (refG l (i + 1) = (i : Int)) := by unfold Hid; rw [HRF.out, if_pos he]
     rw [hd] at hq
     clear hd he
     go_wp2
     go_ret
     exact ⟨by rw [HR.out]; rfl, HX.out.bel⟩
    ·have hd : decide ((⟨2, a, b, lo, hi', cls, text⟩ : Nd) = (⟨2, 0, 0, 0, 0, cls, []⟩ : Nd)) = false := decide_eq_false he
     have HR : Hid (refG l (i + 1) = -1) := by unfold Hid; rw [HRF.out, if_neg he]
     rw [hd] at hq
     clear hd he
     go_wp2
     go_ret
     exact ⟨by rw [HR.out]; rfl, HX.out.bel⟩
   by_cases c3 : k = 3
   ·subst c3
    have HT := Lib.hid (fun w => reftext_any text (by omega) w)
    cases ht : textOk text with
    | true =>
     have HRF : Hid (refG l (i + 1) = if (⟨3, a, b, lo, hi', cls, text⟩ : Nd) = ⟨3, 0, 0, 0, 0, 0#256, text⟩ then (i : Int) else -1) := refG_b HAT.out rfl ht
     rw [ht] at HT
     clear HAT ht
     have gn := HX.out.nb
     have gw := HX.out.wb
     obtain ⟨e0, e1, e2, e3, e4, e5, e6, e7, e8, e9⟩ := ten_cells gn
     obtain ⟨f0, f1, f2, f3, f4, f5, f6, f7, f8, f9⟩ := ten_cells gw
     have fz := gw.frozen
     clear gn gw
     go_upto_region 13 with (fail)
     clear e0 e1 e2 e3 e4 e5 e6 e7 e8 e9 f0 f1 f2 f3 f4 f5 f6 f7 f8 f9 fz
     have HX2 : Hid (Rf2 w (some ⟨ba, oa, none⟩) l #[.int .i64 3, .int .i64 a, .int .i64 b, .int .i64 lo, .int .i64 hi', .int .u64 (wd cls 0), .int .u64 (wd cls 1), .int .u64 (wd cls 2), .int .u64 (wd cls 3), .string (bs text)] #[.int .i64 3, .int .i64 0, .int .i64 0, .int .i64 0, .int .i64 0, .int .u64 0, .int .u64 0, .int .u64 0, .int .u64 0, .string (bs text)] (w1.setCell ⟨w.heap.size + 1, 9, none⟩ (.string (bs text)))) := (HX.out.set HA.out 9 (.string (bs text)))
     clear HX
     generalize w1.setCell ⟨w.heap.size + 1, 9, none⟩ (.string (bs text)) = w2 at *
     have HX := Lib.hid HX2.out
     clear HX2
     have gn := HX.out.nb
     have gw := HX.out.wb
     obtain ⟨e0, e1, e2, e3, e4, e5, e6, e7, e8, e9⟩ := ten_cells gn
     obtain ⟨f0, f1, f2, f3, f4, f5, f6, f7, f8, f9⟩ := ten_cells gw
     have fz := gw.frozen
     clear gn gw
     go_wp2_with fail
     refine (HT.out _).mono ?_; rintro e w3 ⟨rfl, rfl⟩
     go_upto_region 34 with (fail)
     have hq := fun w => neq_nd (⟨3, a, b, lo, hi', cls, text⟩ : Nd) (⟨3, 0, 0, 0, 0, 0#256, text⟩ : Nd) w
     have hg := fun o1 o2 w => eqGuard_neq_nd o1 o2 (⟨3, a, b, lo, hi', cls, text⟩ : Nd) (⟨3, 0, 0, 0, 0, 0#256, text⟩ : Nd) w
     (try rw [ndC_zero] at hq hg)
     simp only [ndC, bs_nil] at hq hg
     by_cases he : (⟨3, a, b, lo, hi', cls, text⟩ : Nd) = (⟨3, 0, 0, 0, 0, 0#256, text⟩ : Nd)
     ·have hd : decide ((⟨3, a, b, lo, hi', cls, text⟩ : Nd) = (⟨3, 0, 0, 0, 0, 0#256, text⟩ : Nd)) = true := decide_eq_true he
      have HR : Hid (refG l (i + 1) = (i : Int)) := by unfold Hid; rw [HRF.out, if_pos he]
      rw [hd] at hq
      clear hd he
      go_wp2
      go_ret
      exact ⟨by rw [HR.out]; rfl, HX.out.bel⟩
     ·have hd : decide ((⟨3, a, b, lo, hi', cls, text⟩ : Nd) = (⟨3, 0, 0, 0, 0, 0#256, text⟩ : Nd)) = false := decide_eq_false he
      have HR : Hid (refG l (i + 1) = -1) := by unfold Hid; rw [HRF.out, if_neg he]
      rw [hd] at hq
      clear hd he
      go_wp2
      go_ret
      exact ⟨by rw [HR.out]; rfl, HX.out.bel⟩
    | false =>
     have HR : Hid (refG l (i + 1) = -1) := refG_b2 HAT.out rfl ht
     rw [ht] at HT
     clear HAT ht
     have gn := HX.out.nb
     have gw := HX.out.wb
     obtain ⟨e0, e1, e2, e3, e4, e5, e6, e7, e8, e9⟩ := ten_cells gn
     obtain ⟨f0, f1, f2, f3, f4, f5, f6, f7, f8, f9⟩ := ten_cells gw
     have fz := gw.frozen
     clear gn gw
     go_upto_region 13 with (fail)
     clear e0 e1 e2 e3 e4 e5 e6 e7 e8 e9 f0 f1 f2 f3 f4 f5 f6 f7 f8 f9 fz
     have HX2 : Hid (Rf2 w (some ⟨ba, oa, none⟩) l #[.int .i64 3, .int .i64 a, .int .i64 b, .int .i64 lo, .int .i64 hi', .int .u64 (wd cls 0), .int .u64 (wd cls 1), .int .u64 (wd cls 2), .int .u64 (wd cls 3), .string (bs text)] #[.int .i64 3, .int .i64 0, .int .i64 0, .int .i64 0, .int .i64 0, .int .u64 0, .int .u64 0, .int .u64 0, .int .u64 0, .string (bs text)] (w1.setCell ⟨w.heap.size + 1, 9, none⟩ (.string (bs text)))) := (HX.out.set HA.out 9 (.string (bs text)))
     clear HX
     generalize w1.setCell ⟨w.heap.size + 1, 9, none⟩ (.string (bs text)) = w2 at *
     have HX := Lib.hid HX2.out
     clear HX2
     have gn := HX.out.nb
     have gw := HX.out.wb
     obtain ⟨e0, e1, e2, e3, e4, e5, e6, e7, e8, e9⟩ := ten_cells gn
     obtain ⟨f0, f1, f2, f3, f4, f5, f6, f7, f8, f9⟩ := ten_cells gw
     have fz := gw.frozen
     clear gn gw
     go_wp2_with fail
     refine (HT.out _).mono ?_; rintro e w3 ⟨rfl, rfl⟩
     go_wp2
     go_ret
     exact ⟨by rw [HR.out]; rfl, HX.out.bel⟩
   by_cases c6 : k = 6
   ·subst c6
    have HRF : Hid (refG l (i + 1) = if (⟨6, a, b, lo, hi', cls, text⟩ : Nd) = ⟨6, (i : Int) - 1, 0, 0, 0, 0#256, []⟩ then refG l i else -1) := refG_c HAT.out (by simp)
    clear HAT
    have gn := HX.out.nb
    have gw := HX.out.wb
    obtain ⟨e0, e1, e2, e3, e4, e5, e6, e7, e8, e9⟩ := ten_cells gn
    obtain ⟨f0, f1, f2, f3, f4, f5, f6, f7, f8, f9⟩ := ten_cells gw
    have fz := gw.frozen
    clear gn gw
    go_upto_region 25 with (fail)
    clear e0 e1 e2 e3 e4 e5 e6 e7 e8 e9 f0 f1 f2 f3 f4 f5 f6 f7 f8 f9 fz
    have HX2 : Hid (Rf2 w (some ⟨ba, oa, none⟩) l #[.int .i64 6, .int .i64 a, .int .i64 b, .int .i64 lo, .int .i64 hi', .int .u64 (wd cls 0), .int .u64 (wd cls 1), .int .u64 (wd cls 2), .int .u64 (wd cls 3), .string (bs text)] #[.int .i64 6, .int .i64 ((i : Int) - 1), .int .i64 0, .int .i64 0, .int .i64 0, .int .u64 0, .int .u64 0, .int .u64 0, .int .u64 0, .string ⟨#[]⟩] (w1.setCell ⟨w.heap.size + 1, 1, none⟩ (.int .i64 ((i : Int) - 1)))) := (HX.out.set HA.out 1 (.int .i64 ((i : Int) - 1)))
    clear HX
    generalize w1.setCell ⟨w.heap.size + 1, 1, none⟩ (.int .i64 ((i : Int) - 1)) = w2 at *
    have HX := Lib.hid HX2.out
    clear HX2
    go_wp2_with fail
    refine (IH.out i (by omega) _ HX.out.row).mono ?_; rintro e w3 ⟨rfl, hb3⟩
    have HX3 := Lib.hid (HX.out.later hb3)
    clear HX hb3
    have HX := Lib.hid HX3.out
    clear HX3
    have gn := HX.out.nb
    have gw := HX.out.wb
    obtain ⟨e0, e1, e2, e3, e4, e5, e6, e7, e8, e9⟩ := ten_cells gn
    obtain ⟨f0, f1, f2, f3, f4, f5, f6, f7, f8, f9⟩ := ten_cells gw
    have fz := gw.frozen
    clear gn gw
    go_upto_region 34 with (fail)
    have hq := fun w => neq_nd (⟨6, a, b, lo, hi', cls, text⟩ : Nd) (⟨6, (i : Int) - 1, 0, 0, 0, 0#256, []⟩ : Nd) w
    have hg := fun o1 o2 w => eqGuard_neq_nd o1 o2 (⟨6, a, b, lo, hi', cls, text⟩ : Nd) (⟨6, (i : Int) - 1, 0, 0, 0, 0#256, []⟩ : Nd) w
    (try rw [ndC_zero] at hq hg)
    simp only [ndC, bs_nil] at hq hg
    by_cases he : (⟨6, a, b, lo, hi', cls, text⟩ : Nd) = (⟨6, (i : Int) - 1, 0, 0, 0, 0#256, []⟩ : Nd)
    ·have hd : decide ((⟨6, a, b, lo, hi', cls, text⟩ : Nd) = (⟨6, (i : Int) - 1, 0, 0, 0, 0#256, []⟩ : Nd)) = true := decide_eq_true he
     have HR : Hid (refG l (i + 1) = (refG l i)) := by unfold Hid; rw [HRF.out, if_pos he]
     rw [hd] at hq
     clear hd he
     go_wp2
     go_ret
     exact ⟨by rw [HR.out]; rfl, HX.out.bel⟩
    ·have hd : decide ((⟨6, a, b, lo, hi', cls, text⟩ : Nd) = (⟨6, (i : Int) - 1, 0, 0, 0, 0#256, []⟩ : Nd)) = false := decide_eq_false he
     have HR : Hid (refG l (i + 1) = -1) := by unfold Hid; rw [HRF.out, if_neg he]
     rw [hd] at hq
     clear hd he
     go_wp2
     go_ret
     exact ⟨by rw [HR.out]; rfl, HX.out.bel⟩
   by_cases c8 : k = 8
   ·subst c8
    have HRF : Hid (refG l (i + 1) = if (⟨8, a, b, lo, hi', cls, text⟩ : Nd) = ⟨8, (i : Int) - 1, 0, 0, 0, 0#256, []⟩ then refG l i else -1) := refG_c HAT.out (by simp)
    clear HAT
    have gn := HX.out.nb
    have gw := HX.out.wb
    obtain ⟨e0, e1, e2, e3, e4, e5, e6, e7, e8, e9⟩ := ten_cells gn
    obtain ⟨f0, f1, f2, f3, f4, f5, f6, f7, f8, f9⟩ := ten_cells gw
    have fz := gw.frozen
    clear gn gw
    go_upto_region 25 with (fail)
    clear e0 e1 e2 e3 e4 e5 e6 e7 e8 e9 f0 f1 f2 f3 f4 f5 f6 f7 f8 f9 fz
    have HX2 : Hid (Rf2 w (some ⟨ba, oa, none⟩) l #[.int .i64 8, .int .i64 a, .int .i64 b, .int .i64 lo, .int .i64 hi', .int .u64 (wd cls 0), .int .u64 (wd cls 1), .int .u64 (wd cls 2), .int .u64 (wd cls 3), .string (bs text)] #[.int .i64 8, .int .i64 ((i : Int) - 1), .int .i64 0, .int .i64 0, .int .i64 0, .int .u64 0, .int .u64 0, .int .u64 0, .int .u64 0, .string ⟨#[]⟩] (w1.setCell ⟨w.heap.size + 1, 1, none⟩ (.int .i64 ((i : Int) - 1)))) := (HX.out.set HA.out 1 (.int .i64 ((i : Int) - 1)))
    clear HX
    generalize w1.setCell ⟨w.heap.size + 1, 1, none⟩ (.int .i64 ((i : Int) - 1)) = w2 at *
    have HX := Lib.hid HX2.out
    clear HX2
    go_wp2_with fail
    refine (IH.out i (by omega) _ HX.out.row).mono ?_; rintro e w3 ⟨rfl, hb3⟩
    have HX3 := Lib.hid (HX.out.later hb3)
    clear HX hb3
    have HX := Lib.hid HX3.out
    clear HX3
    have gn := HX.out.nb
    have gw := HX.out.wb
    obtain ⟨e0, e1, e2, e3, e4, e5, e6, e7, e8, e9⟩ := ten_cells gn
    obtain ⟨f0, f1, f2, f3, f4, f5, f6, f7, f8, f9⟩ := ten_cells gw
    have fz := gw.frozen
    clear gn gw
    go_upto_region 34 with (fail)
    have hq := fun w => neq_nd (⟨8, a, b, lo, hi', cls, text⟩ : Nd) (⟨8, (i : Int) - 1, 0, 0, 0, 0#256, []⟩ : Nd) w
    have hg := fun o1 o2 w => eqGuard_neq_nd o1 o2 (⟨8, a, b, lo, hi', cls, text⟩ : Nd) (⟨8, (i : Int) - 1, 0, 0, 0, 0#256, []⟩ : Nd) w
    (try rw [ndC_zero] at hq hg)
    simp only [ndC, bs_nil] at hq hg
    by_cases he : (⟨8, a, b, lo, hi', cls, text⟩ : Nd) = (⟨8, (i : Int) - 1, 0, 0, 0, 0#256, []⟩ : Nd)
    ·have hd : decide ((⟨8, a, b, lo, hi', cls, text⟩ : Nd) = (⟨8, (i : Int) - 1, 0, 0, 0, 0#256, []⟩ : Nd)) = true := decide_eq_true he
     have HR : Hid (refG l (i + 1) = (refG l i)) := by unfold Hid; rw [HRF.out, if_pos he]
     rw [hd] at hq
     clear hd he
     go_wp2
     go_ret
     exact ⟨by rw [HR.out]; rfl, HX.out.bel⟩
    ·have hd : decide ((⟨8, a, b, lo, hi', cls, text⟩ : Nd) = (⟨8, (i : Int) - 1, 0, 0, 0, 0#256, []⟩ : Nd)) = false := decide_eq_false he
     have HR : Hid (refG l (i + 1) = -1) := by unfold Hid; rw [HRF.out, if_neg he]
     rw [hd] at hq
     clear hd he
     go_wp2
     go_ret
     exact ⟨by rw [HR.out]; rfl, HX.out.bel⟩
   by_cases c9 : k = 9
   ·subst c9
    have HRF : Hid (refG l (i + 1) = if (⟨9, a, b, lo, hi', cls, text⟩ : Nd) = ⟨9, (i : Int) - 1, 0, 0, 0, 0#256, []⟩ then refG l i else -1) := refG_c HAT.out (by simp)
    clear HAT
    have gn := HX.out.nb
    have gw := HX.out.wb
    obtain ⟨e0, e1, e2, e3, e4, e5, e6, e7, e8, e9⟩ := ten_cells gn
    obtain ⟨f0, f1, f2, f3, f4, f5, f6, f7, f8, f9⟩ := ten_cells gw
    have fz := gw.frozen
    clear gn gw
    go_upto_region 25 with (fail)
    clear e0 e1 e2 e3 e4 e5 e6 e7 e8 e9 f0 f1 f2 f3 f4 f5 f6 f7 f8 f9 fz
    have HX2 : Hid (Rf2 w (some ⟨ba, oa, none⟩) l #[.int .i64 9, .int .i64 a, .int .i64 b, .int .i64 lo, .int .i64 hi', .int .u64 (wd cls 0), .int .u64 (wd cls 1), .int .u64 (wd cls 2), .int .u64 (wd cls 3), .string (bs text)] #[.int .i64 9, .int .i64 ((i : Int) - 1), .int .i64 0, .int .i64 0, .int .i64 0, .int .u64 0, .int .u64 0, .int .u64 0, .int .u64 0, .string ⟨#[]⟩] (w1.setCell ⟨w.heap.size + 1, 1, none⟩ (.int .i64 ((i : Int) - 1)))) := (HX.out.set HA.out 1 (.int .i64 ((i : Int) - 1)))
    clear HX
    generalize w1.setCell ⟨w.heap.size + 1, 1, none⟩ (.int .i64 ((i : Int) - 1)) = w2 at *
    have HX := Lib.hid HX2.out
    clear HX2
    go_wp2_with fail
    refine (IH.out i (by omega) _ HX.out.row).mono ?_; rintro e w3 ⟨rfl, hb3⟩
    have HX3 := Lib.hid (HX.out.later hb3)
    clear HX hb3
    have HX := Lib.hid HX3.out
    clear HX3
    have gn := HX.out.nb
    have gw := HX.out.wb
    obtain ⟨e0, e1, e2, e3, e4, e5, e6, e7, e8, e9⟩ := ten_cells gn
    obtain ⟨f0, f1, f2, f3, f4, f5, f6, f7, f8, f9⟩ := ten_cells gw
    have fz := gw.frozen
    clear gn gw
    go_upto_region 34 with (fail)
    have hq := fun w => neq_nd (⟨9, a, b, lo, hi', cls, text⟩ : Nd) (⟨9, (i : Int) - 1, 0, 0, 0, 0#256, []⟩ : Nd) w
    have hg := fun o1 o2 w => eqGuard_neq_nd o1 o2 (⟨9, a, b, lo, hi', cls, text⟩ : Nd) (⟨9, (i : Int) - 1, 0, 0, 0, 0#256, []⟩ : Nd) w
    (try rw [ndC_zero] at hq hg)
    simp only [ndC, bs_nil] at hq hg
    by_cases he : (⟨9, a, b, lo, hi', cls, text⟩ : Nd) = (⟨9, (i : Int) - 1, 0, 0, 0, 0#256, []⟩ : Nd)
    ·have hd : decide ((⟨9, a, b, lo, hi', cls, text⟩ : Nd) = (⟨9, (i : Int) - 1, 0, 0, 0, 0#256, []⟩ : Nd)) = true := decide_eq_true he
     have HR : Hid (refG l (i + 1) = (refG l i)) := by unfold Hid; rw [HRF.out, if_pos he]
     rw [hd] at hq
     clear hd he
     go_wp2
     go_ret
     exact ⟨by rw [HR.out]; rfl, HX.out.bel⟩
    ·have hd : decide ((⟨9, a, b, lo, hi', cls, text⟩ : Nd) = (⟨9, (i : Int) - 1, 0, 0, 0, 0#256, []⟩ : Nd)) = false := decide_eq_false he
     have HR : Hid (refG l (i + 1) = -1) := by unfold Hid; rw [HRF.out, if_neg he]
     rw [hd] at hq
     clear hd he
     go_wp2
     go_ret
     exact ⟨by rw [HR.out]; rfl, HX.out.bel⟩
   by_cases c7 : k = 7
   ·subst c7
    have gn := HX.out.nb
    have gw := HX.out.wb
    obtain ⟨e0, e1, e2, e3, e4, e5, e6, e7, e8, e9⟩ := ten_cells gn
    obtain ⟨f0, f1, f2, f3, f4, f5, f6, f7, f8, f9⟩ := ten_cells gw
    have fz := gw.frozen
    clear gn gw
    go_upto_region 23 with (fail)
    clear e0 e1 e2 e3 e4 e5 e6 e7 e8 e9 f0 f1 f2 f3 f4 f5 f6 f7 f8 f9 fz
    have HX2 : Hid (Rf2 w (some ⟨ba, oa, none⟩) l #[.int .i64 7, .int .i64 a, .int .i64 b, .int .i64 lo, .int .i64 hi', .int .u64 (wd cls 0), .int .u64 (wd cls 1), .int .u64 (wd cls 2), .int .u64 (wd cls 3), .string (bs text)] #[.int .i64 7, .int .i64 ((i : Int) - 1), .int .i64 0, .int .i64 lo, .int .i64 hi', .int .u64 0, .int .u64 0, .int .u64 0, .int .u64 0, .string ⟨#[]⟩] (((w1.setCell ⟨w.heap.size + 1, 1, none⟩ (.int .i64 ((i : Int) - 1))).setCell ⟨w.heap.size + 1, 3, none⟩ (.int .i64 lo)).setCell ⟨w.heap.size + 1, 4, none⟩ (.int .i64 hi'))) := (((HX.out.set HA.out 1 (.int .i64 ((i : Int) - 1))).set HA.out 3 (.int .i64 lo)).set HA.out 4 (.int .i64 hi'))
    clear HX
    generalize ((w1.setCell ⟨w.heap.size + 1, 1, none⟩ (.int .i64 ((i : Int) - 1))).setCell ⟨w.heap.size + 1, 3, none⟩ (.int .i64 lo)).setCell ⟨w.heap.size + 1, 4, none⟩ (.int .i64 hi') = w2 at *
    have HX := Lib.hid HX2.out
    clear HX2
    have gn := HX.out.nb
    have gw := HX.out.wb
    obtain ⟨e0, e1, e2, e3, e4, e5, e6, e7, e8, e9⟩ := ten_cells gn
    obtain ⟨f0, f1, f2, f3, f4, f5, f6, f7, f8, f9⟩ := ten_cells gw
    have fz := gw.frozen
    clear gn gw
    by_cases b1 : lo < 0
    ·have HR : Hid (refG l (i + 1) = -1) := refG_d2 HAT.out rfl (by simp only; omega)
     clear HAT
     go_wp2
     go_ret
     exact ⟨by rw [HR.out]; rfl, HX.out.bel⟩
    by_cases b2 : lo > hi'
    ·have HR : Hid (refG l (i + 1) = -1) := refG_d2 HAT.out rfl (by simp only; omega)
     clear HAT
     go_wp2
     go_ret
     exact ⟨by rw [HR.out]; rfl, HX.out.bel⟩
    by_cases b3 : hi' > 255
    ·have HR : Hid (refG l (i + 1) = -1) := refG_d2 HAT.out rfl (by simp only; omega)
     clear HAT
     go_wp2
     go_ret
     exact ⟨by rw [HR.out]; rfl, HX.out.bel⟩
    have HRF : Hid (refG l (i + 1) = if (⟨7, a, b, lo, hi', cls, text⟩ : Nd) = ⟨7, (i : Int) - 1, 0, lo, hi', 0#256, []⟩ then refG l i else -1) := refG_d HAT.out rfl (by simp only; omega)
    clear HAT
    go_upto_region 25 with (fail)
    clear e0 e1 e2 e3 e4 e5 e6 e7 e8 e9 f0 f1 f2 f3 f4 f5 f6 f7 f8 f9 fz
    go_wp2_with fail
    refine (IH.out i (by omega) _ HX.out.row).mono ?_; rintro e w3 ⟨rfl, hb3⟩
    have HX3 := Lib.hid (HX.out.later hb3)
    clear HX hb3
    have HX := Lib.hid HX3.out
    clear HX3
    have gn := HX.out.nb
    have gw := HX.out.wb
    obtain ⟨e0, e1, e2, e3, e4, e5, e6, e7, e8, e9⟩ := ten_cells gn
    obtain ⟨f0, f1, f2, f3, f4, f5, f6, f7, f8, f9⟩ := ten_cells gw
    have fz := gw.frozen
    clear gn gw
    go_upto_region 34 with (fail)
    have hq := fun w => neq_nd (⟨7, a, b, lo, hi', cls, text⟩ : Nd) (⟨7, (i : Int) - 1, 0, lo, hi', 0#256, []⟩ : Nd) w
    have hg := fun o1 o2 w => eqGuard_neq_nd o1 o2 (⟨7, a, b, lo, hi', cls, text⟩ : Nd) (⟨7, (i : Int) - 1, 0, lo, hi', 0#256, []⟩ : Nd) w
    (try rw [ndC_zero] at hq hg)
    simp only [ndC, bs_nil] at hq hg
    by_cases he : (⟨7, a, b, lo, hi', cls, text⟩ : Nd) = (⟨7, (i : Int) - 1, 0, lo, hi', 0#256, []⟩ : Nd)
    ·have hd : decide ((⟨7, a, b, lo, hi', cls, text⟩ : Nd) = (⟨7, (i : Int) - 1, 0, lo, hi', 0#256, []⟩ : Nd)) = true := decide_eq_true he
     have HR : Hid (refG l (i + 1) = (refG l i)) := by unfold Hid; rw [HRF.out, if_pos he]
     rw [hd] at hq
     clear hd he
     go_wp2
     go_ret
     exact ⟨by rw [HR.out]; rfl, HX.out.bel⟩
    ·have hd : decide ((⟨7, a, b, lo, hi', cls, text⟩ : Nd) = (⟨7, (i : Int) - 1, 0, lo, hi', 0#256, []⟩ : Nd)) = false := decide_eq_false he
     have HR : Hid (refG l (i + 1) = -1) := by unfold Hid; rw [HRF.out, if_neg he]
     rw [hd] at hq
     clear hd he
     go_wp2
     go_ret
     exact ⟨by rw [HR.out]; rfl, HX.out.bel⟩
   by_cases c4 : k = 4
   ·subst c4
    have gn := HX.out.nb
    have gw := HX.out.wb
    obtain ⟨e0, e1, e2, e3, e4, e5, e6, e7, e8, e9⟩ := ten_cells gn
    obtain ⟨f0, f1, f2, f3, f4, f5, f6, f7, f8, f9⟩ := ten_cells gw
    have fz := gw.frozen
    clear gn gw
    go_upto_region 29 with (fail)
    clear e0 e1 e2 e3 e4 e5 e6 e7 e8 e9 f0 f1 f2 f3 f4 f5 f6 f7 f8 f9 fz
    have HX2 : Hid (Rf2 w (some ⟨ba, oa, none⟩) l #[.int .i64 4, .int .i64 a, .int .i64 b, .int .i64 lo, .int .i64 hi', .int .u64 (wd cls 0), .int .u64 (wd cls 1), .int .u64 (wd cls 2), .int .u64 (wd cls 3), .string (bs text)] #[.int .i64 4, .int .i64 0, .int .i64 ((i : Int) - 1), .int .i64 0, .int .i64 0, .int .u64 0, .int .u64 0, .int .u64 0, .int .u64 0, .string ⟨#[]⟩] (w1.setCell ⟨w.heap.size + 1, 2, none⟩ (.int .i64 ((i : Int) - 1)))) := (HX.out.set HA.out 2 (.int .i64 ((i : Int) - 1)))
    clear HX
    generalize w1.setCell ⟨w.heap.size + 1, 2, none⟩ (.int .i64 ((i : Int) - 1)) = w2 at *
    have HX := Lib.hid HX2.out
    clear HX2
    go_wp2_with fail
    refine (IH.out i (by omega) _ HX.out.row).mono ?_; rintro e w3 ⟨rfl, hb3⟩
    have HX3 := Lib.hid (HX.out.later hb3)
    clear HX hb3
    have HX := Lib.hid HX3.out
    clear HX3
    by_cases hq0 : refG l i < 0
    ·have HR : Hid (refG l (i + 1) = -1) := refG_e2 HAT.out (by simp) hq0
     clear HAT
     go_wp2
     go_ret
     exact ⟨by rw [HR.out]; rfl, HX.out.bel⟩
    ·have HRF0 : Hid (refG l (i + 1) = if (⟨4, a, b, lo, hi', cls, text⟩ : Nd) = ⟨4, refG l i - 1, (i : Int) - 1, 0, 0, 0#256, []⟩ then refG l (refG l i).toNat else -1) := refG_e HAT.out (by simp) hq0
     have hqi := HLT.out.1
     clear HAT HLT
     generalize refG l i = Q at *
     obtain ⟨q, rfl⟩ : ∃ q : Nat, Q = (q : Int) := ⟨Q.toNat, by omega⟩
     have HRF : Hid _ := HRF0.out
     rw [Int.toNat_natCast] at HRF
     clear HRF0
     have gn := HX.out.nb
     have gw := HX.out.wb
     obtain ⟨e0, e1, e2, e3, e4, e5, e6, e7, e8, e9⟩ := ten_cells gn
     obtain ⟨f0, f1, f2, f3, f4, f5, f6, f7, f8, f9⟩ := ten_cells gw
     have fz := gw.frozen
     clear gn gw
     go_upto_region 33 with (fail)
     clear e0 e1 e2 e3 e4 e5 e6 e7 e8 e9 f0 f1 f2 f3 f4 f5 f6 f7 f8 f9 fz
     have HX2 : Hid (Rf2 w (some ⟨ba, oa, none⟩) l #[.int .i64 4, .int .i64 a, .int .i64 b, .int .i64 lo, .int .i64 hi', .int .u64 (wd cls 0), .int .u64 (wd cls 1), .int .u64 (wd cls 2), .int .u64 (wd cls 3), .string (bs text)] #[.int .i64 4, .int .i64 ((q : Int) - 1), .int .i64 ((i : Int) - 1), .int .i64 0, .int .i64 0, .int .u64 0, .int .u64 0, .int .u64 0, .int .u64 0, .string ⟨#[]⟩] (w3.setCell ⟨w.heap.size + 1, 1, none⟩ (.int .i64 ((q : Int) - 1)))) := (HX.out.set HA.out 1 (.int .i64 ((q : Int) - 1)))
     clear HX
     generalize w3.setCell ⟨w.heap.size + 1, 1, none⟩ (.int .i64 ((q : Int) - 1)) = w4 at *
     have HX := Lib.hid HX2.out
     clear HX2
     go_wp2_with fail
     refine (IH.out q (by omega) _ HX.out.row).mono ?_; rintro e w5 ⟨rfl, hb5⟩
     have HX3 := Lib.hid (HX.out.later hb5)
     clear HX hb5
     have HX := Lib.hid HX3.out
     clear HX3
     have gn := HX.out.nb
     have gw := HX.out.wb
     obtain ⟨e0, e1, e2, e3, e4, e5, e6, e7, e8, e9⟩ := ten_cells gn
     obtain ⟨f0, f1, f2, f3, f4, f5, f6, f7, f8, f9⟩ := ten_cells gw
     have fz := gw.frozen
     clear gn gw
     go_upto_region 34 with (fail)
     have hq := fun w => neq_nd (⟨4, a, b, lo, hi', cls, text⟩ : Nd) (⟨4, (q : Int) - 1, (i : Int) - 1, 0, 0, 0#256, []⟩ : Nd) w
     have hg := fun o1 o2 w => eqGuard_neq_nd o1 o2 (⟨4, a, b, lo, hi', cls, text⟩ : Nd) (⟨4, (q : Int) - 1, (i : Int) - 1, 0, 0, 0#256, []⟩ : Nd) w
     (try rw [ndC_zero] at hq hg)
     simp only [ndC, bs_nil] at hq hg
     by_cases he : (⟨4, a, b, lo, hi', cls, text⟩ : Nd) = (⟨4, (q : Int) - 1, (i : Int) - 1, 0, 0, 0#256, []⟩ : Nd)
     ·have hd : decide ((⟨4, a, b, lo, hi', cls, text⟩ : Nd) = (⟨4, (q : Int) - 1, (i : Int) - 1, 0, 0, 0#256, []⟩ : Nd)) = true := decide_eq_true he
      have HR : Hid (refG l (i + 1) = (refG l q)) := by unfold Hid; rw [HRF.out, if_pos he]
      rw [hd] at hq
      clear hd he
      go_wp2
      go_ret
      exact ⟨by rw [HR.out]; rfl, HX.out.bel⟩
     ·have hd : decide ((⟨4, a, b, lo, hi', cls, text⟩ : Nd) = (⟨4, (q : Int) - 1, (i : Int) - 1, 0, 0, 0#256, []⟩ : Nd)) = false := decide_eq_false he
      have HR : Hid (refG l (i + 1) = -1) := by unfold Hid; rw [HRF.out, if_neg he]
      rw [hd] at hq
      clear hd he
      go_wp2
      go_ret
      exact ⟨by rw [HR.out]; rfl, HX.out.bel⟩
   by_cases c5 : k = 5
   ·subst c5
    have gn := HX.out.nb
    have gw := HX.out.wb
    obtain ⟨e0, e1, e2, e3, e4, e5, e6, e7, e8, e9⟩ := ten_cells gn
    obtain ⟨f0, f1, f2, f3, f4, f5, f6, f7, f8, f9⟩ := ten_cells gw
    have fz := gw.frozen
    clear gn gw
    go_upto_region 29 with (fail)
    clear e0 e1 e2 e3 e4 e5 e6 e7 e8 e9 f0 f1 f2 f3 f4 f5 f6 f7 f8 f9 fz
    have HX2 : Hid (Rf2 w (some ⟨ba, oa, none⟩) l #[.int .i64 5, .int .i64 a, .int .i64 b, .int .i64 lo, .int .i64 hi', .int .u64 (wd cls 0), .int .u64 (wd cls 1), .int .u64 (wd cls 2), .int .u64 (wd cls 3), .string (bs text)] #[.int .i64 5, .int .i64 0, .int .i64 ((i : Int) - 1), .int .i64 0, .int .i64 0, .int .u64 0, .int .u64 0, .int .u64 0, .int .u64 0, .string ⟨#[]⟩] (w1.setCell ⟨w.heap.size + 1, 2, none⟩ (.int .i64 ((i : Int) - 1)))) := (HX.out.set HA.out 2 (.int .i64 ((i : Int) - 1)))
    clear HX
    generalize w1.setCell ⟨w.heap.size + 1, 2, none⟩ (.int .i64 ((i : Int) - 1)) = w2 at *
    have HX := Lib.hid HX2.out
    clear HX2
    go_wp2_with fail
    refine (IH.out i (by omega) _ HX.out.row).mono ?_; rintro e w3 ⟨rfl, hb3⟩
    have HX3 := Lib.hid (HX.out.later hb3)
    clear HX hb3
    have HX := Lib.hid HX3.out
    clear HX3
    by_cases hq0 : refG l i < 0
    ·have HR : Hid (refG l (i + 1) = -1) := refG_e2 HAT.out (by simp) hq0
     clear HAT
     go_wp2
     go_ret
     exact ⟨by rw [HR.out]; rfl, HX.out.bel⟩
    ·have HRF0 : Hid (refG l (i + 1) = if (⟨5, a, b, lo, hi', cls, text⟩ : Nd) = ⟨5, refG l i - 1, (i : Int) - 1, 0, 0, 0#256, []⟩ then refG l (refG l i).toNat else -1) := refG_e HAT.out (by simp) hq0
     have hqi := HLT.out.1
     clear HAT HLT
     generalize refG l i = Q at *
     obtain ⟨q, rfl⟩ : ∃ q : Nat, Q = (q : Int) := ⟨Q.toNat, by omega⟩
     have HRF : Hid _ := HRF0.out
     rw [Int.toNat_natCast] at HRF
     clear HRF0
     have gn := HX.out.nb
     have gw := HX.out.wb
     obtain ⟨e0, e1, e2, e3, e4, e5, e6, e7, e8, e9⟩ := ten_cells gn
     obtain ⟨f0, f1, f2, f3, f4, f5, f6, f7, f8, f9⟩ := ten_cells gw
     have fz := gw.frozen
     clear gn gw
     go_upto_region 33 with (fail)
     clear e0 e1 e2 e3 e4 e5 e6 e7 e8 e9 f0 f1 f2 f3 f4 f5 f6 f7 f8 f9 fz
     have HX2 : Hid (Rf2 w (some ⟨ba, oa, none⟩) l #[.int .i64 5, .int .i64 a, .int .i64 b, .int .i64 lo, .int .i64 hi', .int .u64 (wd cls 0), .int .u64 (wd cls 1), .int .u64 (wd cls 2), .int .u64 (wd cls 3), .string (bs text)] #[.int .i64 5, .int .i64 ((q : Int) - 1), .int .i64 ((i : Int) - 1), .int .i64 0, .int .i64 0, .int .u64 0, .int .u64 0, .int .u64 0, .int .u64 0, .string ⟨#[]⟩] (w3.setCell ⟨w.heap.size + 1, 1, none⟩ (.int .i64 ((q : Int) - 1)))) := (HX.out.set HA.out 1 (.int .i64 ((q : Int) - 1)))
     clear HX
     generalize w3.setCell ⟨w.heap.size + 1, 1, none⟩ (.int .i64 ((q : Int) - 1)) = w4 at *
     have HX := Lib.hid HX2.out
     clear HX2
     go_wp2_with fail
     refine (IH.out q (by omega) _ HX.out.row).mono ?_; rintro e w5 ⟨rfl, hb5⟩
     have HX3 := Lib.hid (HX.out.later hb5)
     clear HX hb5
     have HX := Lib.hid HX3.out
     clear HX3
     have gn := HX.out.nb
     have gw := HX.out.wb
     obtain ⟨e0, e1, e2, e3, e4, e5, e6, e7, e8, e9⟩ := ten_cells gn
     obtain ⟨f0, f1, f2, f3, f4, f5, f6, f7, f8, f9⟩ := ten_cells gw
     have fz := gw.frozen
     clear gn gw
     go_upto_region 34 with (fail)
     have hq := fun w => neq_nd (⟨5, a, b, lo, hi', cls, text⟩ : Nd) (⟨5, (q : Int) - 1, (i : Int) - 1, 0, 0, 0#256, []⟩ : Nd) w
     have hg := fun o1 o2 w => eqGuard_neq_nd o1 o2 (⟨5, a, b, lo, hi', cls, text⟩ : Nd) (⟨5, (q : Int) - 1, (i : Int) - 1, 0, 0, 0#256, []⟩ : Nd) w
     (try rw [ndC_zero] at hq hg)
     simp only [ndC, bs_nil] at hq hg
     by_cases he : (⟨5, a, b, lo, hi', cls, text⟩ : Nd) = (⟨5, (q : Int) - 1, (i : Int) - 1, 0, 0, 0#256, []⟩ : Nd)
     ·have hd : decide ((⟨5, a, b, lo, hi', cls, text⟩ : Nd) = (⟨5, (q : Int) - 1, (i : Int) - 1, 0, 0, 0#256, []⟩ : Nd)) = true := decide_eq_true he
      have HR : Hid (refG l (i + 1) = (refG l q)) := by unfold Hid; rw [HRF.out, if_pos he]
      rw [hd] at hq
      clear hd he
      go_wp2
      go_ret
      exact ⟨by rw [HR.out]; rfl, HX.out.bel⟩
     ·have hd : decide ((⟨5, a, b, lo, hi', cls, text⟩ : Nd) = (⟨5, (q : Int) - 1, (i : Int) - 1, 0, 0, 0#256, []⟩ : Nd)) = false := decide_eq_false he
      have HR : Hid (refG l (i + 1) = -1) := by unfold Hid; rw [HRF.out, if_neg he]
      rw [hd] at hq
      clear hd he
      go_wp2
      go_ret
      exact ⟨by rw [HR.out]; rfl, HX.out.bel⟩
   have HR : Hid (refG l (i + 1) = -1) := refG_f HAT.out (by simp only; omega)
   have z1 : (k == 1) = false := by rw [beq_eq_false_iff_ne]; exact c1
   have z2 : (k == 2) = false := by rw [beq_eq_false_iff_ne]; exact c2
   have z3 : (k == 3) = false := by rw [beq_eq_false_iff_ne]; exact c3
   have z4 : (k == 4) = false := by rw [beq_eq_false_iff_ne]; exact c4
   have z5 : (k == 5) = false := by rw [beq_eq_false_iff_ne]; exact c5
   have z6 : (k == 6) = false := by rw [beq_eq_false_iff_ne]; exact c6
   have z7 : (k == 7) = false := by rw [beq_eq_false_iff_ne]; exact c7
   have z8 : (k == 8) = false := by rw [beq_eq_false_iff_ne]; exact c8
   have z9 : (k == 9) = false := by rw [beq_eq_false_iff_ne]; exact c9
   clear c1 c2 c3 c4 c5 c6 c7 c8 c9 HAT
   have gn := HX.out.nb
   have gw := HX.out.wb
   obtain ⟨e0, e1, e2, e3, e4, e5, e6, e7, e8, e9⟩ := ten_cells gn
   obtain ⟨f0, f1, f2, f3, f4, f5, f6, f7, f8, f9⟩ := ten_cells gw
   have fz := gw.frozen
   clear gn gw
   go_wp2
   go_ret
   exact ⟨by rw [HR.out]; rfl, HX.out.bel⟩
end Go.Proofs.Ytidoofdofdhjpaa
