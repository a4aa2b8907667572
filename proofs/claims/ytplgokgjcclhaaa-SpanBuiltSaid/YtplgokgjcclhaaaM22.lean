/- Spans: of a node, its parts' being known: walked. -/
import Derived.Test.YtplgokgjcclhaaaM21
import Derived.Test.YtplgokgjcclhaaaM17
import Derived.BigQuiet
namespace Go.Proofs.Ytplgokgjcclhaaa
open Go Go.RowKit
set_option linter.unusedVariables false
set_option linter.unusedSimpArgs false
set_option maxRecDepth 100000
set_option maxHeartbeats 16000000

/-- What joins a row's spans, an or's: new. -/
def RowP (v : Value) (w : World) : Prop := ∃ bj, v = fR bj ∧ RcS bj 36 36 w
theorem RowP.later : ∀ v w w', RowP v w → Below w.heap.size w w' → RowP v w' := fun v w w' ⟨bj, h1, h2⟩ hb => ⟨bj, h1, h2.later hb⟩
def OrP (v : Value) (w : World) : Prop := ∃ bj, v = fO bj ∧ RcS bj 39 40 w
theorem OrP.later : ∀ v w w', OrP v w → Below w.heap.size w w' → OrP v w' := fun v w w' ⟨bj, h1, h2⟩ hb => ⟨bj, h1, h2.later hb⟩
structure WpS (w0 : World) (n : Nd) (A : Option Addr) (S : List Spn) (w : World) : Prop where
  bel : Below w0.heap.size w0 w
  box : Blk w w0.heap.size (ndC n) 43
  pr : Blk w (w0.heap.size + 1) #[.int .i64 0, .int .i64 0] 48
  row : SRow w A S
theorem WpS.later {w0 w w' : World} {n : Nd} {A : Option Addr} {S : List Spn} (h : WpS w0 n A S w) (hb : Below w.heap.size w w') : WpS w0 n A S w' := ⟨h.bel.trans (hb.mono h.bel.size), h.box.later hb, h.pr.later hb, h.row.later hb⟩
theorem WpS.new {w : World} {n : Nd} {A : Option Addr} {S : List Spn} (h : SRow w A S) : WpS w n A S ((w.alloc (.cells (ndC n) 43)).alloc (.cells #[.int .i64 0, .int .i64 0] 48)) := by
  have HB := ((Below.refl w.heap.size w).alloc (Nat.le_refl _) (.cells (ndC n) 43)).alloc (by simp) (.cells #[.int .i64 0, .int .i64 0] 48)
  exact ⟨HB, (Blk.new w _ _).alloc _, Blk.new' (by simp) _ _, h.later HB⟩
structure WqS (w0 : World) (n : Nd) (A : Option Addr) (S : List Spn) (bp : Nat) (a b : Int) (w : World) : Prop where
  u : WpS w0 n A S w
  pa : Blk w bp #[.int .i64 a, .int .i64 b] 48
theorem WqS.later {w0 w w' : World} {n : Nd} {A : Option Addr} {S : List Spn} {bp : Nat} {a b : Int} (h : WqS w0 n A S bp a b w) (hb : Below w.heap.size w w') : WqS w0 n A S bp a b w' := ⟨h.u.later hb, h.pa.later hb⟩
theorem swhole_any (n : Nd) (hk : 1 ≤ n.kind ∧ n.kind ≤ 9) (h7 : n.kind = 7 → 0 ≤ n.lo ∧ n.lo ≤ n.hi ∧ n.hi ≤ 255) (ht : n.text.length ≤ 1099511627776) (S : List Spn) (hS : ∀ x ∈ S, SpG x) (A : Option Addr) (c : Nat) (w : World) (hrow : SRow w A S) :
    Calls Try.prog 20 #[.agg (ndC n), .slice A S.length c] w (Ans w (.agg #[.int .i64 (spanS n S).1, .int .i64 (spanS n S).2])) := by
  have HS0 := Lib.hid (WpS.new (n := n) hrow)
  have hpa := pairS_good hS n.a
  have hpb := pairS_good hS n.b
  have CPa : Hid (∀ w', SRow w' A S → Calls Try.prog 25 #[.slice A S.length c, .int .i64 n.a] w' (Ans w' (.agg #[.int .i64 (pairS S n.a).1, .int .i64 (pairS S n.a).2]))) := fun w' h => spart_any S n.a A c w' h
  have CPb : Hid (∀ w', SRow w' A S → Calls Try.prog 25 #[.slice A S.length c, .int .i64 n.b] w' (Ans w' (.agg #[.int .i64 (pairS S n.b).1, .int .i64 (pairS S n.b).2]))) := fun w' h => spart_any S n.b A c w' h
  have hkk : n.kind = 1 ∨ n.kind = 2 ∨ n.kind = 3 ∨ n.kind = 4 ∨ n.kind = 5 ∨ n.kind = 6 ∨ n.kind = 7 ∨ n.kind = 8 ∨ n.kind = 9 := by omega
  clear hrow hk hS
  obtain ⟨kind, a, b, lo, hi, cls, text⟩ := n
  simp only at hkk h7 ht hpa hpb CPa CPb
  rcases hkk with rfl | rfl | rfl | rfl | rfl | rfl | rfl | rfl | rfl
  · have e : spanS ⟨1, a, b, lo, hi, cls, text⟩ S = (0, 0) := by simp [spanS, leafPs]
    rw [e]
    generalize pairS S a = p at *
    obtain ⟨x, y⟩ := p
    simp only at CPa
    clear e
    unfold ndC at HS0 ⊢
    simp only at HS0 ⊢
    go_enter Try.func20, Try.ntmps20
    go_upto_region 1 with (fail)
    generalize (w.alloc (.cells #[.int .i64 1, .int .i64 a, .int .i64 b, .int .i64 lo, .int .i64 hi, .int .u64 (wd cls 0), .int .u64 (wd cls 1), .int .u64 (wd cls 2), .int .u64 (wd cls 3), .string (bs text)] 43)).alloc (.cells #[.int .i64 0, .int .i64 0] 48) = w1 at *
    obtain ⟨f0, f1, f2, f3, f4, f5, f6, f7, f8, f9⟩ := ten_cells HS0.out.box
    go_wp2_with fail
    refine (CPa.out _ HS0.out.row).mono ?_; rintro e w2 ⟨rfl, hb⟩
    have HS2 := Lib.hid (HS0.out.later hb)
    clear hb f0 f1 f2 f3 f4 f5 f6 f7 f8 f9 HS0
    have hb3 := (Below.refl w2.heap.size w2).alloc (Nat.le_refl _) (.cells #[.int .i64 x, .int .i64 y] 48)
    have HS3 := Lib.hid (HS2.out.later hb3)
    have HP3 := Lib.hid (Blk.new w2 #[.int .i64 x, .int .i64 y] 48)
    obtain ⟨f0, f1, f2, f3, f4, f5, f6, f7, f8, f9⟩ := ten_cells HS2.out.box
    clear hb3
    go_upto_region 2 with (fail)
    clear f0 f1 f2 f3 f4 f5 f6 f7 f8 f9 HS2
    generalize w2.alloc (.cells #[.int .i64 x, .int .i64 y] 48) = w3 at *
    generalize w2.heap.size = bp at *
    obtain ⟨f0, f1, f2, f3, f4, f5, f6, f7, f8, f9⟩ := ten_cells HS3.out.box
    have x0 := HP3.out.cell 0
    have x1 := HP3.out.cell 1
    simp at x0 x1
    have q0 := HS3.out.pr.frozen 0
    have q1 := HS3.out.pr.frozen 1
    have r0 := HS3.out.pr.cell 0
    have r1 := HS3.out.pr.cell 1
    simp at r0 r1
    have HR := Lib.hid (HS3.out.pr.both (.int .i64 0) (.int .i64 0))
    have HB := Lib.hid (bel_both HS3.out.bel (b := w.heap.size + 1) (by omega) (.int .i64 0) (.int .i64 0))
    go_wp2
    have s0 := HR.out.cell 0
    have s1 := HR.out.cell 1
    simp at s0 s1
    exact bodyPost_ret (v := .agg #[.int .i64 0, .int .i64 0]) (by simp [results, Try.results20, go_sem, s0, s1]) rfl ⟨by rfl, HB.out⟩
  · have e : spanS ⟨2, a, b, lo, hi, cls, text⟩ S = (clsS cls, clsS cls) := by simp only [spanS, leafPs, clsS]; split <;> simp_all <;> (split <;> rfl)
    rw [e]
    generalize pairS S a = p at *
    obtain ⟨x, y⟩ := p
    simp only at CPa
    clear e
    unfold ndC at HS0 ⊢
    simp only at HS0 ⊢
    go_enter Try.func20, Try.ntmps20
    go_upto_region 1 with (fail)
    generalize (w.alloc (.cells #[.int .i64 2, .int .i64 a, .int .i64 b, .int .i64 lo, .int .i64 hi, .int .u64 (wd cls 0), .int .u64 (wd cls 1), .int .u64 (wd cls 2), .int .u64 (wd cls 3), .string (bs text)] 43)).alloc (.cells #[.int .i64 0, .int .i64 0] 48) = w1 at *
    obtain ⟨f0, f1, f2, f3, f4, f5, f6, f7, f8, f9⟩ := ten_cells HS0.out.box
    go_wp2_with fail
    refine (CPa.out _ HS0.out.row).mono ?_; rintro e w2 ⟨rfl, hb⟩
    have HS2 := Lib.hid (HS0.out.later hb)
    clear hb f0 f1 f2 f3 f4 f5 f6 f7 f8 f9 HS0
    have hb3 := (Below.refl w2.heap.size w2).alloc (Nat.le_refl _) (.cells #[.int .i64 x, .int .i64 y] 48)
    have HS3 := Lib.hid (HS2.out.later hb3)
    have HP3 := Lib.hid (Blk.new w2 #[.int .i64 x, .int .i64 y] 48)
    obtain ⟨f0, f1, f2, f3, f4, f5, f6, f7, f8, f9⟩ := ten_cells HS2.out.box
    clear hb3
    go_upto_region 2 with (fail)
    clear f0 f1 f2 f3 f4 f5 f6 f7 f8 f9 HS2
    generalize w2.alloc (.cells #[.int .i64 x, .int .i64 y] 48) = w3 at *
    generalize w2.heap.size = bp at *
    obtain ⟨f0, f1, f2, f3, f4, f5, f6, f7, f8, f9⟩ := ten_cells HS3.out.box
    have x0 := HP3.out.cell 0
    have x1 := HP3.out.cell 1
    simp at x0 x1
    have CW : Hid (∀ w', Calls Try.prog 26 #[.agg #[.int .u64 (wd cls 0), .int .u64 (wd cls 1), .int .u64 (wd cls 2), .int .u64 (wd cls 3)]] w' (Ans w' (.agg #[.int .i64 (clsS cls), .int .i64 (clsS cls)]))) := fun w' => sclass_any cls w'
    generalize clsS cls = k at *
    go_wp2_with fail
    refine (CW.out _).mono ?_; rintro e w4 ⟨rfl, hb⟩
    have HS4 := Lib.hid (HS3.out.later hb)
    clear hb f0 f1 f2 f3 f4 f5 f6 f7 f8 f9 x0 x1
    have q0 := HS4.out.pr.frozen 0
    have q1 := HS4.out.pr.frozen 1
    have r0 := HS4.out.pr.cell 0
    have r1 := HS4.out.pr.cell 1
    simp at r0 r1
    have HR := Lib.hid (HS4.out.pr.both (.int .i64 k) (.int .i64 k))
    have HB := Lib.hid (bel_both HS4.out.bel (b := w.heap.size + 1) (by omega) (.int .i64 k) (.int .i64 k))
    go_wp2
    have s0 := HR.out.cell 0
    have s1 := HR.out.cell 1
    simp at s0 s1
    exact bodyPost_ret (v := .agg #[.int .i64 k, .int .i64 k]) (by simp [results, Try.results20, go_sem, s0, s1]) rfl ⟨by rfl, HB.out⟩
  · have e : spanS ⟨3, a, b, lo, hi, cls, text⟩ S = (((bs text).size : Int), ((bs text).size : Int)) := by simp [spanS, leafPs, bs_size]
    rw [e]
    generalize pairS S a = p at *
    obtain ⟨x, y⟩ := p
    simp only at CPa
    clear e
    unfold ndC at HS0 ⊢
    simp only at HS0 ⊢
    go_enter Try.func20, Try.ntmps20
    go_upto_region 1 with (fail)
    generalize (w.alloc (.cells #[.int .i64 3, .int .i64 a, .int .i64 b, .int .i64 lo, .int .i64 hi, .int .u64 (wd cls 0), .int .u64 (wd cls 1), .int .u64 (wd cls 2), .int .u64 (wd cls 3), .string (bs text)] 43)).alloc (.cells #[.int .i64 0, .int .i64 0] 48) = w1 at *
    obtain ⟨f0, f1, f2, f3, f4, f5, f6, f7, f8, f9⟩ := ten_cells HS0.out.box
    go_wp2_with fail
    refine (CPa.out _ HS0.out.row).mono ?_; rintro e w2 ⟨rfl, hb⟩
    have HS2 := Lib.hid (HS0.out.later hb)
    clear hb f0 f1 f2 f3 f4 f5 f6 f7 f8 f9 HS0
    have hb3 := (Below.refl w2.heap.size w2).alloc (Nat.le_refl _) (.cells #[.int .i64 x, .int .i64 y] 48)
    have HS3 := Lib.hid (HS2.out.later hb3)
    have HP3 := Lib.hid (Blk.new w2 #[.int .i64 x, .int .i64 y] 48)
    obtain ⟨f0, f1, f2, f3, f4, f5, f6, f7, f8, f9⟩ := ten_cells HS2.out.box
    clear hb3
    go_upto_region 2 with (fail)
    clear f0 f1 f2 f3 f4 f5 f6 f7 f8 f9 HS2
    generalize w2.alloc (.cells #[.int .i64 x, .int .i64 y] 48) = w3 at *
    generalize w2.heap.size = bp at *
    obtain ⟨f0, f1, f2, f3, f4, f5, f6, f7, f8, f9⟩ := ten_cells HS3.out.box
    have x0 := HP3.out.cell 0
    have x1 := HP3.out.cell 1
    simp at x0 x1
    have hx : (bs text).size ≤ 1099511627776 := by rw [bs_size]; exact ht
    have CW : Hid (∀ w', Calls Try.prog 27 #[.int .i64 ((bs text).size : Int), .int .i64 ((bs text).size : Int)] w' (Ans w' (.agg #[.int .i64 ((bs text).size : Int), .int .i64 ((bs text).size : Int)]))) := fun w' => by
      have := swithin_any ((bs text).size : Int) ((bs text).size : Int) w'
      rw [show min ((bs text).size : Int) 1099511627776 = ((bs text).size : Int) by omega, show bndS ((bs text).size : Int) = ((bs text).size : Int) by unfold bndS mxS; rw [if_neg (by omega)]] at this
      exact this
    go_wp2_with fail
    refine (CW.out _).mono ?_; rintro e w4 ⟨rfl, hb⟩
    have HS4 := Lib.hid (HS3.out.later hb)
    clear hb f0 f1 f2 f3 f4 f5 f6 f7 f8 f9 x0 x1
    have q0 := HS4.out.pr.frozen 0
    have q1 := HS4.out.pr.frozen 1
    have r0 := HS4.out.pr.cell 0
    have r1 := HS4.out.pr.cell 1
    simp at r0 r1
    have HR := Lib.hid (HS4.out.pr.both (.int .i64 ((bs text).size : Int)) (.int .i64 ((bs text).size : Int)))
    have HB := Lib.hid (bel_both HS4.out.bel (b := w.heap.size + 1) (by omega) (.int .i64 ((bs text).size : Int)) (.int .i64 ((bs text).size : Int)))
    go_wp2
    have s0 := HR.out.cell 0
    have s1 := HR.out.cell 1
    simp at s0 s1
    exact bodyPost_ret (v := .agg #[.int .i64 ((bs text).size : Int), .int .i64 ((bs text).size : Int)]) (by simp [results, Try.results20, go_sem, s0, s1]) rfl ⟨by rfl, HB.out⟩
  · have e : spanS ⟨4, a, b, lo, hi, cls, text⟩ S = seqS (pairS S a) (pairS S b) := by simp [spanS, twoPs]
    rw [e]
    generalize pairS S a = p at *
    obtain ⟨x, y⟩ := p
    simp only at CPa
    clear e
    unfold ndC at HS0 ⊢
    simp only at HS0 ⊢
    go_enter Try.func20, Try.ntmps20
    go_upto_region 1 with (fail)
    generalize (w.alloc (.cells #[.int .i64 4, .int .i64 a, .int .i64 b, .int .i64 lo, .int .i64 hi, .int .u64 (wd cls 0), .int .u64 (wd cls 1), .int .u64 (wd cls 2), .int .u64 (wd cls 3), .string (bs text)] 43)).alloc (.cells #[.int .i64 0, .int .i64 0] 48) = w1 at *
    obtain ⟨f0, f1, f2, f3, f4, f5, f6, f7, f8, f9⟩ := ten_cells HS0.out.box
    go_wp2_with fail
    refine (CPa.out _ HS0.out.row).mono ?_; rintro e w2 ⟨rfl, hb⟩
    have HS2 := Lib.hid (HS0.out.later hb)
    clear hb f0 f1 f2 f3 f4 f5 f6 f7 f8 f9 HS0
    have hb3 := (Below.refl w2.heap.size w2).alloc (Nat.le_refl _) (.cells #[.int .i64 x, .int .i64 y] 48)
    have HS3 := Lib.hid (HS2.out.later hb3)
    have HP3 := Lib.hid (Blk.new w2 #[.int .i64 x, .int .i64 y] 48)
    obtain ⟨f0, f1, f2, f3, f4, f5, f6, f7, f8, f9⟩ := ten_cells HS2.out.box
    clear hb3
    go_upto_region 2 with (fail)
    clear f0 f1 f2 f3 f4 f5 f6 f7 f8 f9 HS2
    generalize w2.alloc (.cells #[.int .i64 x, .int .i64 y] 48) = w3 at *
    generalize w2.heap.size = bp at *
    obtain ⟨f0, f1, f2, f3, f4, f5, f6, f7, f8, f9⟩ := ten_cells HS3.out.box
    have x0 := HP3.out.cell 0
    have x1 := HP3.out.cell 1
    simp at x0 x1
    have hent := enters_of Try.func38 (by kernel_rfl) rfl
    have CM : Hid (∀ w', Calls Try.prog 28 #[] w' (fun e w'' => ∃ bj, e = .returned (fR bj) ∧ RcS bj 36 36 w'' ∧ Below w'.heap.size w' w'')) := fun w' => sinrow_mk w'
    have CJ := Lib.hid (fun bj w' (h : RcS bj 36 36 w') => sinrow_any (x, y) (pairS S b) hpa hpb h)
    generalize seqS (x, y) (pairS S b) = r at *
    obtain ⟨p, q⟩ := r
    generalize pairS S b = t at *
    obtain ⟨x2, y2⟩ := t
    simp only at CPb CJ
    go_upto_region 10 with (fail)
    refine wp_region_stable_tail 6 (S := (WqS w ⟨4, a, b, lo, hi, cls, text⟩ A S bp x y)) (hSt := fun _ _ h hb => h.later hb) (plan := [[], [(5, none)], [(1, none)], [(2, none)], [(34, some 3)], [(33, some 2), (35, some 4)]]) rfl rfl (by kernel_rfl) (by kernel_rfl) (by kernel_rfl) (by kernel_rfl) ?hS ?_
    rotate_left
    (refine chain_rel (RowP) (RowP.later) (by rfl) ?_ ?_
     · intro act wx hS hr
       simp at hr
       obtain ⟨f0, f1, f2, f3, f4, f5, f6, f7, f8, f9⟩ := ten_cells hS.u.box
       have x0 := hS.pa.cell 0
       have x1 := hS.pa.cell 1
       simp at x0 x1
       all_goals go_simp
       ((with_reducible refine (CM.out _).mono ?_); intro e w' hp; obtain ⟨bj, rfl, ho, hb⟩ := hp; exact Done.rel hb ⟨bj, rfl, ho⟩)
    )
    iterate 5 first
      | (refine chain_skip (by rfl) (by rfl) ?_)
      | (apply chain_want (by rfl)
         · intro act wx hS hr
           simp at hr
           obtain ⟨f0, f1, f2, f3, f4, f5, f6, f7, f8, f9⟩ := ten_cells hS.u.box
           have x0 := hS.pa.cell 0
           have x1 := hS.pa.cell 1
           simp at x0 x1
           go_simp
           (try go_ints)
           first
             | ((with_reducible refine (CPb.out _ hS.u.row).mono ?_); rintro e w' ⟨rfl, hb⟩; exact Done.mk hb)
             | exact Done.same
        )
    show ∀ w', _ → _
    intro wz hz
    simp [Act.put]
    case hS => exact ⟨HS3.out, HP3.out⟩
    have HS4 := Lib.hid hz.u
    clear hz f0 f1 f2 f3 f4 f5 f6 f7 f8 f9 x0 x1
    intro v hv
    obtain ⟨bj, rfl, hr⟩ := hv
    unfold fR
    have HJ := Lib.hid (CJ.out bj _ hr)
    clear hr CJ
    go_wp2_with fail
    refine HJ.out.mono ?_; rintro e w4 ⟨rfl, hb⟩
    have HS5 := Lib.hid (HS4.out.later hb)
    clear hb HS4 HJ
    have q0 := HS5.out.pr.frozen 0
    have q1 := HS5.out.pr.frozen 1
    have r0 := HS5.out.pr.cell 0
    have r1 := HS5.out.pr.cell 1
    simp at r0 r1
    have HR := Lib.hid (HS5.out.pr.both (.int .i64 p) (.int .i64 q))
    have HB := Lib.hid (bel_both HS5.out.bel (b := w.heap.size + 1) (by omega) (.int .i64 p) (.int .i64 q))
    go_wp2
    have s0 := HR.out.cell 0
    have s1 := HR.out.cell 1
    simp at s0 s1
    exact bodyPost_ret (v := .agg #[.int .i64 p, .int .i64 q]) (by simp [results, Try.results20, go_sem, s0, s1]) rfl ⟨by rfl, HB.out⟩
  · have e : spanS ⟨5, a, b, lo, hi, cls, text⟩ S = orS (pairS S a) (pairS S b) := by simp [spanS, twoPs]
    rw [e]
    generalize pairS S a = p at *
    obtain ⟨x, y⟩ := p
    simp only at CPa
    clear e
    unfold ndC at HS0 ⊢
    simp only at HS0 ⊢
    go_enter Try.func20, Try.ntmps20
    go_upto_region 1 with (fail)
    generalize (w.alloc (.cells #[.int .i64 5, .int .i64 a, .int .i64 b, .int .i64 lo, .int .i64 hi, .int .u64 (wd cls 0), .int .u64 (wd cls 1), .int .u64 (wd cls 2), .int .u64 (wd cls 3), .string (bs text)] 43)).alloc (.cells #[.int .i64 0, .int .i64 0] 48) = w1 at *
    obtain ⟨f0, f1, f2, f3, f4, f5, f6, f7, f8, f9⟩ := ten_cells HS0.out.box
    go_wp2_with fail
    refine (CPa.out _ HS0.out.row).mono ?_; rintro e w2 ⟨rfl, hb⟩
    have HS2 := Lib.hid (HS0.out.later hb)
    clear hb f0 f1 f2 f3 f4 f5 f6 f7 f8 f9 HS0
    have hb3 := (Below.refl w2.heap.size w2).alloc (Nat.le_refl _) (.cells #[.int .i64 x, .int .i64 y] 48)
    have HS3 := Lib.hid (HS2.out.later hb3)
    have HP3 := Lib.hid (Blk.new w2 #[.int .i64 x, .int .i64 y] 48)
    obtain ⟨f0, f1, f2, f3, f4, f5, f6, f7, f8, f9⟩ := ten_cells HS2.out.box
    clear hb3
    go_upto_region 2 with (fail)
    clear f0 f1 f2 f3 f4 f5 f6 f7 f8 f9 HS2
    generalize w2.alloc (.cells #[.int .i64 x, .int .i64 y] 48) = w3 at *
    generalize w2.heap.size = bp at *
    obtain ⟨f0, f1, f2, f3, f4, f5, f6, f7, f8, f9⟩ := ten_cells HS3.out.box
    have x0 := HP3.out.cell 0
    have x1 := HP3.out.cell 1
    simp at x0 x1
    have hent := enters_of Try.func41 (by kernel_rfl) rfl
    have CM : Hid (∀ w', Calls Try.prog 29 #[] w' (fun e w'' => ∃ bj, e = .returned (fO bj) ∧ RcS bj 39 40 w'' ∧ Below w'.heap.size w' w'')) := fun w' => soneof_mk w'
    have CJ := Lib.hid (fun bj w' (h : RcS bj 39 40 w') => soneof_any (x, y) (pairS S b) hpa hpb h)
    generalize orS (x, y) (pairS S b) = r at *
    obtain ⟨p, q⟩ := r
    generalize pairS S b = t at *
    obtain ⟨x2, y2⟩ := t
    simp only at CPb CJ
    go_upto_region 12 with (fail)
    refine wp_region_stable_tail 6 (S := (WqS w ⟨5, a, b, lo, hi, cls, text⟩ A S bp x y)) (hSt := fun _ _ h hb => h.later hb) (plan := [[], [(5, none)], [(1, none)], [(2, none)], [(43, some 3)], [(42, some 2), (44, some 4)]]) rfl rfl (by kernel_rfl) (by kernel_rfl) (by kernel_rfl) (by kernel_rfl) ?hS ?_
    rotate_left
    (refine chain_rel (OrP) (OrP.later) (by rfl) ?_ ?_
     · intro act wx hS hr
       simp at hr
       obtain ⟨f0, f1, f2, f3, f4, f5, f6, f7, f8, f9⟩ := ten_cells hS.u.box
       have x0 := hS.pa.cell 0
       have x1 := hS.pa.cell 1
       simp at x0 x1
       all_goals go_simp
       ((with_reducible refine (CM.out _).mono ?_); intro e w' hp; obtain ⟨bj, rfl, ho, hb⟩ := hp; exact Done.rel hb ⟨bj, rfl, ho⟩)
    )
    iterate 5 first
      | (refine chain_skip (by rfl) (by rfl) ?_)
      | (apply chain_want (by rfl)
         · intro act wx hS hr
           simp at hr
           obtain ⟨f0, f1, f2, f3, f4, f5, f6, f7, f8, f9⟩ := ten_cells hS.u.box
           have x0 := hS.pa.cell 0
           have x1 := hS.pa.cell 1
           simp at x0 x1
           go_simp
           (try go_ints)
           first
             | ((with_reducible refine (CPb.out _ hS.u.row).mono ?_); rintro e w' ⟨rfl, hb⟩; exact Done.mk hb)
             | exact Done.same
        )
    show ∀ w', _ → _
    intro wz hz
    simp [Act.put]
    case hS => exact ⟨HS3.out, HP3.out⟩
    have HS4 := Lib.hid hz.u
    clear hz f0 f1 f2 f3 f4 f5 f6 f7 f8 f9 x0 x1
    intro v hv
    obtain ⟨bj, rfl, hr⟩ := hv
    unfold fO
    have HJ := Lib.hid (CJ.out bj _ hr)
    clear hr CJ
    go_wp2_with fail
    refine HJ.out.mono ?_; rintro e w4 ⟨rfl, hb⟩
    have HS5 := Lib.hid (HS4.out.later hb)
    clear hb HS4 HJ
    have q0 := HS5.out.pr.frozen 0
    have q1 := HS5.out.pr.frozen 1
    have r0 := HS5.out.pr.cell 0
    have r1 := HS5.out.pr.cell 1
    simp at r0 r1
    have HR := Lib.hid (HS5.out.pr.both (.int .i64 p) (.int .i64 q))
    have HB := Lib.hid (bel_both HS5.out.bel (b := w.heap.size + 1) (by omega) (.int .i64 p) (.int .i64 q))
    go_wp2
    have s0 := HR.out.cell 0
    have s1 := HR.out.cell 1
    simp at s0 s1
    exact bodyPost_ret (v := .agg #[.int .i64 p, .int .i64 q]) (by simp [results, Try.results20, go_sem, s0, s1]) rfl ⟨by rfl, HB.out⟩
  · have e : spanS ⟨6, a, b, lo, hi, cls, text⟩ S = onePs 6 lo hi (pairS S a) := by simp [spanS]
    rw [e]
    generalize pairS S a = p at *
    obtain ⟨x, y⟩ := p
    simp only at CPa
    clear e
    unfold ndC at HS0 ⊢
    simp only at HS0 ⊢
    go_enter Try.func20, Try.ntmps20
    go_upto_region 1 with (fail)
    generalize (w.alloc (.cells #[.int .i64 6, .int .i64 a, .int .i64 b, .int .i64 lo, .int .i64 hi, .int .u64 (wd cls 0), .int .u64 (wd cls 1), .int .u64 (wd cls 2), .int .u64 (wd cls 3), .string (bs text)] 43)).alloc (.cells #[.int .i64 0, .int .i64 0] 48) = w1 at *
    obtain ⟨f0, f1, f2, f3, f4, f5, f6, f7, f8, f9⟩ := ten_cells HS0.out.box
    go_wp2_with fail
    refine (CPa.out _ HS0.out.row).mono ?_; rintro e w2 ⟨rfl, hb⟩
    have HS2 := Lib.hid (HS0.out.later hb)
    clear hb f0 f1 f2 f3 f4 f5 f6 f7 f8 f9 HS0
    have hb3 := (Below.refl w2.heap.size w2).alloc (Nat.le_refl _) (.cells #[.int .i64 x, .int .i64 y] 48)
    have HS3 := Lib.hid (HS2.out.later hb3)
    have HP3 := Lib.hid (Blk.new w2 #[.int .i64 x, .int .i64 y] 48)
    obtain ⟨f0, f1, f2, f3, f4, f5, f6, f7, f8, f9⟩ := ten_cells HS2.out.box
    clear hb3
    go_upto_region 2 with (fail)
    clear f0 f1 f2 f3 f4 f5 f6 f7 f8 f9 HS2
    generalize w2.alloc (.cells #[.int .i64 x, .int .i64 y] 48) = w3 at *
    generalize w2.heap.size = bp at *
    obtain ⟨f0, f1, f2, f3, f4, f5, f6, f7, f8, f9⟩ := ten_cells HS3.out.box
    have x0 := HP3.out.cell 0
    have x1 := HP3.out.cell 1
    simp at x0 x1
    have CW := Lib.hid (fun w' => sstarred_any (x, y) hpa lo hi w')
    generalize onePs 6 lo hi (x, y) = r at *
    obtain ⟨p, q⟩ := r
    simp only at CW
    go_wp2_with fail
    refine (CW.out _).mono ?_; rintro e w4 ⟨rfl, hb⟩
    have HS4 := Lib.hid (HS3.out.later hb)
    clear hb f0 f1 f2 f3 f4 f5 f6 f7 f8 f9 x0 x1
    have q0 := HS4.out.pr.frozen 0
    have q1 := HS4.out.pr.frozen 1
    have r0 := HS4.out.pr.cell 0
    have r1 := HS4.out.pr.cell 1
    simp at r0 r1
    have HR := Lib.hid (HS4.out.pr.both (.int .i64 p) (.int .i64 q))
    have HB := Lib.hid (bel_both HS4.out.bel (b := w.heap.size + 1) (by omega) (.int .i64 p) (.int .i64 q))
    go_wp2
    have s0 := HR.out.cell 0
    have s1 := HR.out.cell 1
    simp at s0 s1
    exact bodyPost_ret (v := .agg #[.int .i64 p, .int .i64 q]) (by simp [results, Try.results20, go_sem, s0, s1]) rfl ⟨by rfl, HB.out⟩
  · have e : spanS ⟨7, a, b, lo, hi, cls, text⟩ S = repS lo hi (pairS S a) := by simp [spanS, onePs]
    rw [e]
    generalize pairS S a = p at *
    obtain ⟨x, y⟩ := p
    simp only at CPa
    clear e
    unfold ndC at HS0 ⊢
    simp only at HS0 ⊢
    go_enter Try.func20, Try.ntmps20
    go_upto_region 1 with (fail)
    generalize (w.alloc (.cells #[.int .i64 7, .int .i64 a, .int .i64 b, .int .i64 lo, .int .i64 hi, .int .u64 (wd cls 0), .int .u64 (wd cls 1), .int .u64 (wd cls 2), .int .u64 (wd cls 3), .string (bs text)] 43)).alloc (.cells #[.int .i64 0, .int .i64 0] 48) = w1 at *
    obtain ⟨f0, f1, f2, f3, f4, f5, f6, f7, f8, f9⟩ := ten_cells HS0.out.box
    go_wp2_with fail
    refine (CPa.out _ HS0.out.row).mono ?_; rintro e w2 ⟨rfl, hb⟩
    have HS2 := Lib.hid (HS0.out.later hb)
    clear hb f0 f1 f2 f3 f4 f5 f6 f7 f8 f9 HS0
    have hb3 := (Below.refl w2.heap.size w2).alloc (Nat.le_refl _) (.cells #[.int .i64 x, .int .i64 y] 48)
    have HS3 := Lib.hid (HS2.out.later hb3)
    have HP3 := Lib.hid (Blk.new w2 #[.int .i64 x, .int .i64 y] 48)
    obtain ⟨f0, f1, f2, f3, f4, f5, f6, f7, f8, f9⟩ := ten_cells HS2.out.box
    clear hb3
    go_upto_region 2 with (fail)
    clear f0 f1 f2 f3 f4 f5 f6 f7 f8 f9 HS2
    generalize w2.alloc (.cells #[.int .i64 x, .int .i64 y] 48) = w3 at *
    generalize w2.heap.size = bp at *
    obtain ⟨f0, f1, f2, f3, f4, f5, f6, f7, f8, f9⟩ := ten_cells HS3.out.box
    have x0 := HP3.out.cell 0
    have x1 := HP3.out.cell 1
    simp at x0 x1
    have CW := Lib.hid (fun w' => srepeated_any (x, y) hpa lo hi (h7 (by trivial)) w')
    generalize repS lo hi (x, y) = r at *
    obtain ⟨p, q⟩ := r
    simp only at CW
    go_wp2_with fail
    refine (CW.out _).mono ?_; rintro e w4 ⟨rfl, hb⟩
    have HS4 := Lib.hid (HS3.out.later hb)
    clear hb f0 f1 f2 f3 f4 f5 f6 f7 f8 f9 x0 x1
    have q0 := HS4.out.pr.frozen 0
    have q1 := HS4.out.pr.frozen 1
    have r0 := HS4.out.pr.cell 0
    have r1 := HS4.out.pr.cell 1
    simp at r0 r1
    have HR := Lib.hid (HS4.out.pr.both (.int .i64 p) (.int .i64 q))
    have HB := Lib.hid (bel_both HS4.out.bel (b := w.heap.size + 1) (by omega) (.int .i64 p) (.int .i64 q))
    go_wp2
    have s0 := HR.out.cell 0
    have s1 := HR.out.cell 1
    simp at s0 s1
    exact bodyPost_ret (v := .agg #[.int .i64 p, .int .i64 q]) (by simp [results, Try.results20, go_sem, s0, s1]) rfl ⟨by rfl, HB.out⟩
  · have e : spanS ⟨8, a, b, lo, hi, cls, text⟩ S = frmS 255 1 (pairS S a) := by simp [spanS, onePs]
    rw [e]
    generalize pairS S a = p at *
    obtain ⟨x, y⟩ := p
    simp only at CPa
    clear e
    unfold ndC at HS0 ⊢
    simp only at HS0 ⊢
    go_enter Try.func20, Try.ntmps20
    go_upto_region 1 with (fail)
    generalize (w.alloc (.cells #[.int .i64 8, .int .i64 a, .int .i64 b, .int .i64 lo, .int .i64 hi, .int .u64 (wd cls 0), .int .u64 (wd cls 1), .int .u64 (wd cls 2), .int .u64 (wd cls 3), .string (bs text)] 43)).alloc (.cells #[.int .i64 0, .int .i64 0] 48) = w1 at *
    obtain ⟨f0, f1, f2, f3, f4, f5, f6, f7, f8, f9⟩ := ten_cells HS0.out.box
    go_wp2_with fail
    refine (CPa.out _ HS0.out.row).mono ?_; rintro e w2 ⟨rfl, hb⟩
    have HS2 := Lib.hid (HS0.out.later hb)
    clear hb f0 f1 f2 f3 f4 f5 f6 f7 f8 f9 HS0
    have hb3 := (Below.refl w2.heap.size w2).alloc (Nat.le_refl _) (.cells #[.int .i64 x, .int .i64 y] 48)
    have HS3 := Lib.hid (HS2.out.later hb3)
    have HP3 := Lib.hid (Blk.new w2 #[.int .i64 x, .int .i64 y] 48)
    obtain ⟨f0, f1, f2, f3, f4, f5, f6, f7, f8, f9⟩ := ten_cells HS2.out.box
    clear hb3
    go_upto_region 2 with (fail)
    clear f0 f1 f2 f3 f4 f5 f6 f7 f8 f9 HS2
    generalize w2.alloc (.cells #[.int .i64 x, .int .i64 y] 48) = w3 at *
    generalize w2.heap.size = bp at *
    obtain ⟨f0, f1, f2, f3, f4, f5, f6, f7, f8, f9⟩ := ten_cells HS3.out.box
    have x0 := HP3.out.cell 0
    have x1 := HP3.out.cell 1
    simp at x0 x1
    have CW := Lib.hid (fun w' => sframed_any (x, y) hpa 1 255 (by omega) (by omega) w')
    generalize frmS 255 1 (x, y) = r at *
    obtain ⟨p, q⟩ := r
    simp only at CW
    go_wp2_with fail
    refine (CW.out _).mono ?_; rintro e w4 ⟨rfl, hb⟩
    have HS4 := Lib.hid (HS3.out.later hb)
    clear hb f0 f1 f2 f3 f4 f5 f6 f7 f8 f9 x0 x1
    have q0 := HS4.out.pr.frozen 0
    have q1 := HS4.out.pr.frozen 1
    have r0 := HS4.out.pr.cell 0
    have r1 := HS4.out.pr.cell 1
    simp at r0 r1
    have HR := Lib.hid (HS4.out.pr.both (.int .i64 p) (.int .i64 q))
    have HB := Lib.hid (bel_both HS4.out.bel (b := w.heap.size + 1) (by omega) (.int .i64 p) (.int .i64 q))
    go_wp2
    have s0 := HR.out.cell 0
    have s1 := HR.out.cell 1
    simp at s0 s1
    exact bodyPost_ret (v := .agg #[.int .i64 p, .int .i64 q]) (by simp [results, Try.results20, go_sem, s0, s1]) rfl ⟨by rfl, HB.out⟩
  · have e : spanS ⟨9, a, b, lo, hi, cls, text⟩ S = frmS 65535 2 (pairS S a) := by simp [spanS, onePs]
    rw [e]
    generalize pairS S a = p at *
    obtain ⟨x, y⟩ := p
    simp only at CPa
    clear e
    unfold ndC at HS0 ⊢
    simp only at HS0 ⊢
    go_enter Try.func20, Try.ntmps20
    go_upto_region 1 with (fail)
    generalize (w.alloc (.cells #[.int .i64 9, .int .i64 a, .int .i64 b, .int .i64 lo, .int .i64 hi, .int .u64 (wd cls 0), .int .u64 (wd cls 1), .int .u64 (wd cls 2), .int .u64 (wd cls 3), .string (bs text)] 43)).alloc (.cells #[.int .i64 0, .int .i64 0] 48) = w1 at *
    obtain ⟨f0, f1, f2, f3, f4, f5, f6, f7, f8, f9⟩ := ten_cells HS0.out.box
    go_wp2_with fail
    refine (CPa.out _ HS0.out.row).mono ?_; rintro e w2 ⟨rfl, hb⟩
    have HS2 := Lib.hid (HS0.out.later hb)
    clear hb f0 f1 f2 f3 f4 f5 f6 f7 f8 f9 HS0
    have hb3 := (Below.refl w2.heap.size w2).alloc (Nat.le_refl _) (.cells #[.int .i64 x, .int .i64 y] 48)
    have HS3 := Lib.hid (HS2.out.later hb3)
    have HP3 := Lib.hid (Blk.new w2 #[.int .i64 x, .int .i64 y] 48)
    obtain ⟨f0, f1, f2, f3, f4, f5, f6, f7, f8, f9⟩ := ten_cells HS2.out.box
    clear hb3
    go_upto_region 2 with (fail)
    clear f0 f1 f2 f3 f4 f5 f6 f7 f8 f9 HS2
    generalize w2.alloc (.cells #[.int .i64 x, .int .i64 y] 48) = w3 at *
    generalize w2.heap.size = bp at *
    obtain ⟨f0, f1, f2, f3, f4, f5, f6, f7, f8, f9⟩ := ten_cells HS3.out.box
    have x0 := HP3.out.cell 0
    have x1 := HP3.out.cell 1
    simp at x0 x1
    have CW := Lib.hid (fun w' => sframed_any (x, y) hpa 2 65535 (by omega) (by omega) w')
    generalize frmS 65535 2 (x, y) = r at *
    obtain ⟨p, q⟩ := r
    simp only at CW
    go_wp2_with fail
    refine (CW.out _).mono ?_; rintro e w4 ⟨rfl, hb⟩
    have HS4 := Lib.hid (HS3.out.later hb)
    clear hb f0 f1 f2 f3 f4 f5 f6 f7 f8 f9 x0 x1
    have q0 := HS4.out.pr.frozen 0
    have q1 := HS4.out.pr.frozen 1
    have r0 := HS4.out.pr.cell 0
    have r1 := HS4.out.pr.cell 1
    simp at r0 r1
    have HR := Lib.hid (HS4.out.pr.both (.int .i64 p) (.int .i64 q))
    have HB := Lib.hid (bel_both HS4.out.bel (b := w.heap.size + 1) (by omega) (.int .i64 p) (.int .i64 q))
    go_wp2
    have s0 := HR.out.cell 0
    have s1 := HR.out.cell 1
    simp at s0 s1
    exact bodyPost_ret (v := .agg #[.int .i64 p, .int .i64 q]) (by simp [results, Try.results20, go_sem, s0, s1]) rfl ⟨by rfl, HB.out⟩
end Go.Proofs.Ytplgokgjcclhaaa
/- Spans of nodes: the loop, walked. -/
namespace Go.Proofs.Ytplgokgjcclhaaa
open Go Go.RowKit
set_option linter.unusedVariables false
set_option linter.unusedSimpArgs false
set_option maxRecDepth 100000

theorem onePs_m {kind lo hi : Int} {p : Spn} : (onePs kind lo hi p).1 ≤ mxS ∧ (onePs kind lo hi p).2 ≤ mxS := by
  have key : ∀ most head : Int, most + head ≤ 65537 → (frmS most head p).1 ≤ mxS ∧ (frmS most head p).2 ≤ mxS := fun most head hh => by
    unfold frmS mxS
    split
    · exact ⟨by decide, by decide⟩
    · rename_i h
      refine ⟨by show p.1 + head ≤ _; omega, ?_⟩
      show (if p.2 < 0 ∨ most < p.2 then most else p.2) + head ≤ _
      split <;> omega
  unfold onePs
  split
  · split <;> exact ⟨by decide, by decide⟩
  · split
    · unfold repS
      split
      · split <;> exact ⟨by decide, by decide⟩
      · split
        · exact ⟨by decide, by decide⟩
        · refine ⟨by show min mxS _ ≤ _; unfold mxS; omega, ?_⟩
          show (if p.2 < 0 then (-1 : Int) else bndS (p.2 * hi)) ≤ _
          split
          · decide
          · rcases bndS_cases (p.2 * hi) with h | ⟨h, h2⟩
            · rw [h]; decide
            · rw [h]; exact h2
    · split
      · exact key 255 1 (by decide)
      · exact key 65535 2 (by decide)
theorem twoPs_m {kind : Int} {p q : Spn} (h : p.1 ≤ mxS ∧ p.2 ≤ mxS) (k : q.1 ≤ mxS ∧ q.2 ≤ mxS) : (twoPs kind p q).1 ≤ mxS ∧ (twoPs kind p q).2 ≤ mxS := by
  unfold twoPs
  split
  · unfold seqS
    split
    · exact ⟨by decide, by decide⟩
    · refine ⟨by show min mxS _ ≤ _; unfold mxS; omega, ?_⟩
      show (if p.2 < 0 ∨ q.2 < 0 then (-1 : Int) else bndS (p.2 + q.2)) ≤ _
      split
      · decide
      · rcases bndS_cases (p.2 + q.2) with h | ⟨h, h2⟩
        · rw [h]; decide
        · rw [h]; exact h2
  · unfold orS
    split
    · exact k
    · split
      · exact h
      · refine ⟨by show min p.1 q.1 ≤ _; omega, ?_⟩
        show (if p.2 < 0 ∨ q.2 < 0 then (-1 : Int) else max p.2 q.2) ≤ _
        split
        · decide
        · omega
/-- What a node of a description must be, for its span to be told. -/
structure SpNd (n : Nd) : Prop where
  kind : 1 ≤ n.kind ∧ n.kind ≤ 9
  rep : n.kind = 7 → 0 ≤ n.lo ∧ n.lo ≤ n.hi ∧ n.hi ≤ 255
  text : n.text.length ≤ 1099511627776
theorem spanS_good {n : Nd} (hn : SpNd n) {S : List Spn} (hS : ∀ x ∈ S, SpG x) : SpG (spanS n S) := by
  have hm : (1099511627776 : Int) = mxS := rfl
  unfold spanS
  split
  · refine ⟨leafPs_ok n, ?_⟩
    have ht := hn.text
    unfold leafPs
    split
    · exact ⟨by decide, by decide⟩
    · split
      · split <;> exact ⟨by decide, by decide⟩
      · exact ⟨by show (n.text.length : Int) ≤ _; omega, by show (n.text.length : Int) ≤ _; omega⟩
  · have ha := pairS_good hS n.a
    have hb := pairS_good hS n.b
    split
    · refine ⟨?_, ?_⟩
      · unfold twoPs
        split
        · exact seqS_ok ha.1 hb.1
        · exact orS_ok ha.1 hb.1
      · rw [hm]; exact twoPs_m (by rw [← hm]; exact ha.2) (by rw [← hm]; exact hb.2)
    · refine ⟨onePs_ok ha.1 (fun h => ?_), by rw [hm]; exact onePs_m⟩
      have := hn.rep h
      exact ⟨this.1, this.2.1⟩
theorem sps_good {l : List Nd} (h : ∀ n ∈ l, SpNd n) : ∀ k, k ≤ l.length → ∀ x ∈ sps l k, SpG x
  | 0, _, x, hx => by cases hx
  | k + 1, hk, x, hx => by
    rw [sps, List.mem_append] at hx
    rcases hx with hx | hx
    · exact sps_good h k (by omega) x hx
    · rw [List.mem_singleton.1 hx]
      refine spanS_good (h _ ?_) (sps_good h k (by omega))
      unfold atN
      rw [List.getD_eq_getElem?_getD, List.getElem?_eq_getElem (by omega)]; exact List.getElem_mem _
structure SpDs (w0 : World) (A : Option Addr) (l : List Nd) (S : List Spn) (v : Value) (w : World) : Prop where
  bel : Below w0.heap.size w0 w
  own : OwnS w (w0.heap.size + 1) v S
  row : NRow w A l
  low : w0.heap.size + 1 ≤ w.heap.size
theorem SpDs.later {w0 w w' : World} {A : Option Addr} {l : List Nd} {S : List Spn} {v : Value} (h : SpDs w0 A l S v w) (hb : Below w.heap.size w w') : SpDs w0 A l S v w' :=
  ⟨h.bel.trans (hb.mono h.bel.size), h.own.later hb, h.row.later hb, Nat.le_trans h.low hb.size⟩
def SpDl (w0 : World) (A : Option Addr) (l : List Nd) (i : Nat) (v x : Value) (w : World) : Prop := ∃ k : Nat, k ≤ i + 1 ∧ x = .int .i64 (k : Int) ∧ SpDs w0 A l (sps l k) v w
/-- A span as it is answered. -/
def spT (p : Spn) : Value := .tuple #[.int .i64 p.1, .int .i64 p.2]
theorem sp_drewN {B : Nat} {a w : World} (h : Below B a w) (n : Nat) : Below B a (w.drewN n) := h.trans ⟨rfl, rfl, rfl, Nat.le_refl _, fun _ _ => rfl⟩
structure SpRs (w0 : World) (A : Option Addr) (S : List Spn) (w : World) : Prop where
  bel : Below w0.heap.size w0 w
  row : SRow w A S
theorem SpRs.later {w0 w w' : World} {A : Option Addr} {S : List Spn} (h : SpRs w0 A S w) (hb : Below w.heap.size w w') : SpRs w0 A S w' := ⟨h.bel.trans (hb.mono h.bel.size), h.row.later hb⟩
set_option maxHeartbeats 16000000 in
theorem spnode_any (l : List Nd) (A : Option Addr) (c i : Nat) (hi : i < l.length) (hc : l.length ≤ c) (hlen : l.length ≤ 536870912) (hok : ∀ n ∈ l, SpNd n) (w : World) (hrow : NRow w A l) :
    Calls Try.prog 10 #[.agg #[.slice A l.length c], .int .i64 (i : Int)] w (Ans w (spT (spN l i))) := by
  have HB := (Below.refl w.heap.size w).alloc (Nat.le_refl _) (.cells #[.slice A l.length c] 24)
  have HS0 : Hid (FstS w A l c (w.alloc (.cells #[.slice A l.length c] 24))) := ⟨HB, hrow.later HB, Blk.new _ _ _⟩
  have HZ0 : w.heap.size + 1 ≤ (w.alloc (.cells #[.slice A l.length c] 24)).heap.size := by simp
  have HSZ := Lib.hid HZ0
  have hA : ∀ b o, A = some ⟨b, o, none⟩ → b < w.heap.size := fun b o e => by
    obtain ⟨b', o', h1, h2, _⟩ := hrow 0 (by omega)
    rw [e] at h1; cases h1; exact h2
  have HA := Lib.hid hA
  obtain ⟨ba, oa, rfl, -, -⟩ := hrow i hi
  have HOK := Lib.hid hok
  have HG := Lib.hid (sps_good hok)
  clear hrow HB hok hA HZ0
  obtain ⟨v, hv⟩ : ∃ v, spN l i = v := ⟨_, rfl⟩
  rw [hv]
  have HV := Lib.hid hv
  clear hv
  have hlt0 : ¬ (i : Int) < 0 := by omega
  have hge : ¬ (i : Int) ≥ (l.length : Int) := by omega
  have hiz : (i : Int) < (l.length : Int) := by omega
  have hic : (i : Int) + 1 ≤ (c : Int) := by omega
  have hi1 : (i : Int) + 1 ≤ 536870912 := by omega
  go_enter Try.func10, Try.ntmps10
  go_upto_region 1 with (fail)
  generalize w.alloc (.cells #[.slice (some ⟨ba, oa, none⟩) l.length c] 24) = w1 at *
  have e0 := HS0.out.box.cell 0
  simp at e0
  go_upto_region 3 with (fail)
  clear e0
  go_upto_region 4 with (refine wpList_make_sp rfl _ _ rfl _ (i + 1) rfl rfl (by omega) (by omega) ?_; intro w2 ho2 hb2; have HO2 := Lib.hid ho2; have HS2 := Lib.hid (HS0.out.later hb2); have HZ2 := Lib.hid (Nat.le_trans HSZ.out hb2.size); clear ho2 hb2)
  have HN0 : Hid (SpDs w (some ⟨ba, oa, none⟩) l [] (.slice (some ⟨w1.heap.size, 0, none⟩) 0 (i + 1)) w2) := ⟨HS2.out.bel, HO2.out.lower HSZ.out, HS2.out.row, HZ2.out⟩
  have e0 := HS2.out.box.cell 0
  simp at e0
  clear HO2
  go_wp2
  clear e0 HS2 HS0
  go_loopw [6, 27] (SpDl w (some ⟨ba, oa, none⟩) l i) (fun _ x _ => i + 1 - (intOf x).toNat)
  case atStart => exact ⟨0, Nat.zero_le _, rfl, HN0.out⟩
  case round =>
    obtain ⟨k, hk, rfl, hs⟩ := hrel
    have HS := Lib.hid hs
    by_cases hlt : k < i + 1
    · have hltz : (k : Int) < (i : Int) + 1 := by omega
      have hkl : k < l.length := by omega
      have g : At10 wr ba (oa + k * 10) (l.getD k nd0) := hs.row.at hkl rfl
      have HM := Lib.hid (HOK.out (l.getD k nd0) (by rw [List.getD_eq_getElem?_getD, List.getElem?_eq_getElem hkl]; exact List.getElem_mem _))
      have HN : Hid (sps l (k + 1) = sps l k ++ [spanS (l.getD k nd0) (sps l k)]) := rfl
      have HL := Lib.hid (HG.out k (by omega))
      have hkS : (sps l k).length = k := sps_length l k
      generalize sps l k = S at *
      generalize l.getD k nd0 = n at *
      clear hs
      obtain ⟨a7, c7, hv7, hr7⟩ := HS.out.own.row
      rw [hkS] at hv7
      subst hv7
      have CW : Hid (∀ w', SRow w' a7 S → Calls Try.prog 20 #[.agg (ndC n), .slice a7 k c7] w' (Ans w' (.agg #[.int .i64 (spanS n S).1, .int .i64 (spanS n S).2]))) := fun w' h => by
        have := swhole_any n HM.out.kind HM.out.rep HM.out.text S HL.out a7 c7 w' h
        rwa [hkS] at this
      have hS1 : S.length < 1073741824 := by rw [hkS]; omega
      have HS1 := Lib.hid hS1
      clear hkS hS1
      generalize spanS n S = x at *
      obtain ⟨x, y⟩ := x
      simp only at CW
      have HR7 := Lib.hid hr7
      clear hr7
      obtain ⟨kk, na, nb, nlo, nhi, ncls, ntext⟩ := n
      unfold At10 at g
      simp only at g
      obtain ⟨g0, g1, g2, g3, g4, g5, g6, g7, g8, g9⟩ := g
      unfold ndC at CW
      simp only at CW
      have hb2 := (Below.refl wr.heap.size wr).alloc (Nat.le_refl _) (.cells #[.int .i64 kk, .int .i64 na, .int .i64 nb, .int .i64 nlo, .int .i64 nhi, .int .u64 (wd ncls 0), .int .u64 (wd ncls 1), .int .u64 (wd ncls 2), .int .u64 (wd ncls 3), .string (bs ntext)] 43)
      have HS2 := Lib.hid (HS.out.later hb2)
      have HR2 := Lib.hid (HR7.out.later hb2)
      have HB2 := Lib.hid (Blk.new wr #[.int .i64 kk, .int .i64 na, .int .i64 nb, .int .i64 nlo, .int .i64 nhi, .int .u64 (wd ncls 0), .int .u64 (wd ncls 1), .int .u64 (wd ncls 2), .int .u64 (wd ncls 3), .string (bs ntext)] 43)
      clear hb2
      go_upto_region 7 with (fail)
      clear g0 g1 g2 g3 g4 g5 g6 g7 g8 g9
      generalize wr.alloc (.cells #[.int .i64 kk, .int .i64 na, .int .i64 nb, .int .i64 nlo, .int .i64 nhi, .int .u64 (wd ncls 0), .int .u64 (wd ncls 1), .int .u64 (wd ncls 2), .int .u64 (wd ncls 3), .string (bs ntext)] 43) = w3 at *
      generalize wr.heap.size = bx at *
      have gg := HB2.out
      obtain ⟨g0, g1, g2, g3, g4, g5, g6, g7, g8, g9⟩ := ten_cells gg
      clear gg
      go_wp2_with fail
      refine (CW.out _ HR2.out).mono ?_; rintro e w4 ⟨rfl, hb4⟩
      have HS4 := Lib.hid (HS2.out.later (hb4.trans ((Below.refl _ _).alloc hb4.size (.cells #[.int .i64 x, .int .i64 y] 48))))
      have HX4 : Hid (Blk (w4.alloc (.cells #[.int .i64 x, .int .i64 y] 48)) w4.heap.size (spC (x, y)) 48) := Blk.new w4 #[.int .i64 x, .int .i64 y] 48
      clear hb4 g0 g1 g2 g3 g4 g5 g6 g7 g8 g9
      have hlow4 := HS4.out.low
      go_wp2_with (at_builtin; refine wpList_append_sp rfl _ _ rfl (w.heap.size + 1) _ S rfl HS4.out.own w4.heap.size (x, y) rfl HX4.out HS1.out hlow4 ?_; intro v' w6 h1 h2; rw [← HN.out] at h1; have HO6 := Lib.hid h1; have HB6 := Lib.hid ((Below.refl (w.heap.size + 1) _).grown h2 hlow4 (fun k hk => (World.ownsRow.lt HS4.out.own k hk).1)); clear h1 h2)
      have HS6 : Hid (SpDs w (some ⟨ba, oa, none⟩) l (sps l (k + 1)) v' w6) := ⟨HS4.out.bel.trans (HB6.out.mono (Nat.le_succ _)), HO6.out, HS4.out.row.below (fun b o e => Nat.lt_succ_of_lt (HA.out b o e)) HB6.out HB6.out.size, Nat.le_trans hlow4 HB6.out.size⟩
      go_roundw
      case rel => exact ⟨k + 1, by omega, by go_num, HS6.out⟩
      case measure => simp [intOf]; omega
    · obtain rfl : k = i + 1 := by omega
      have hlast : ¬ ((i + 1 : Nat) : Int) < (i : Int) + 1 := by omega
      have hlen1 : (sps l (i + 1)).length = i + 1 := sps_length l (i + 1)
      have hg1 : (sps l (i + 1)).getD i sp0 = v := by rw [← HV.out]; exact sps_get l (i + 1) i (by omega)
      obtain ⟨a7, c7, rfl, hr7⟩ := HS.out.own.row
      obtain ⟨b7, o7, rfl, -, -, -⟩ := hr7.two (i := i) (by omega)
      have HR0 : Hid (SpRs w (some ⟨b7, o7, none⟩) (sps l (i + 1)) wr) := ⟨HS.out.bel, hr7⟩
      have HT : Hid (∀ w', SpRs w (some ⟨b7, o7, none⟩) (sps l (i + 1)) w' → w'.cell? ⟨b7, o7 + i * 2, none⟩ = some (.int .i64 v.1) ∧ w'.cell? ⟨b7, o7 + i * 2 + 1, none⟩ = some (.int .i64 v.2)) := fun w' h => by
        obtain ⟨b, o, e1, -, e2, e3⟩ := h.row.two (i := i) (by omega)
        cases e1
        rw [hg1] at e2 e3
        exact ⟨e2, e3⟩
      rw [hlen1] at *
      clear hs hr7 hlen1 hg1 HS HN0
      unfold spT
      obtain ⟨v1, v2⟩ := v
      simp only at HT ⊢
      go_upto_region 9 with (fail)
      have HB := Lib.hid HR0.out.bel
      obtain ⟨t0, t1⟩ := HT.out _ HR0.out
      have hix : (i : Int) < ((i + 1 : Nat) : Int) := by omega
      clear hk hlast HT HR0 HV HA HOK HG HSZ HZ2
      go_quiet (fail)
      go_wp2
      go_ret2
      exact ⟨rfl, sp_drewN HB.out _⟩
set_option maxHeartbeats 16000000 in
theorem spof_any (l : List Nd) (A : Option Addr) (c : Nat) (hpos : 0 < l.length) (hc : l.length ≤ c) (hlen : l.length ≤ 536870912) (hok : ∀ n ∈ l, SpNd n) (w : World) (hrow : NRow w A l) :
    Calls Try.prog 12 #[.agg #[.slice A l.length c]] w (Ans w (spT (spD l))) := by
  have HB := (Below.refl w.heap.size w).alloc (Nat.le_refl _) (.cells #[.slice A l.length c] 24)
  have HS0 : Hid (FstS w A l c (w.alloc (.cells #[.slice A l.length c] 24))) := ⟨HB, hrow.later HB, Blk.new _ _ _⟩
  have CN : Hid (∀ w', NRow w' A l → Calls Try.prog 10 #[.agg #[.slice A l.length c], .int .i64 ((l.length : Int) - 1)] w' (Ans w' (spT (spD l)))) := fun w' h => by
    have := spnode_any l A c (l.length - 1) (by omega) hc hlen hok w' h
    rwa [show ((l.length - 1 : Nat) : Int) = (l.length : Int) - 1 by omega] at this
  generalize spD l = v at *
  obtain ⟨v1, v2⟩ := v
  unfold spT at *
  simp only at CN ⊢
  have hmin : -9223372036854775808 ≤ (l.length : Int) - 1 := by omega
  clear hrow HB hok
  go_enter Try.func12, Try.ntmps12
  go_upto_region 1 with (fail)
  generalize w.alloc (.cells #[.slice A l.length c] 24) = w1 at *
  have e0 := HS0.out.box.cell 0
  simp at e0
  go_wp2_with fail
  refine (CN.out _ HS0.out.row).mono ?_; rintro e w2 ⟨rfl, hb2⟩
  have HB := Lib.hid (HS0.out.bel.trans (hb2.mono HS0.out.bel.size))
  clear hb2 e0
  go_wp2
  go_ret2
  exact ⟨rfl, HB.out⟩
end Go.Proofs.Ytplgokgjcclhaaa
