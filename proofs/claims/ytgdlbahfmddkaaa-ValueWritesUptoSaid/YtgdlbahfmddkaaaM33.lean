/- Is a value one of a node, but for its kids: the program's walk, kind by kind. -/
import Derived.Test.YtgdlbahfmddkaaaM32
import Derived.Test.YtgdlbahfmddkaaaM02
namespace Go.Proofs.Ytgdlbahfmddkaaa
open Go Go.RowKit
set_option linter.unusedVariables false
set_option linter.unusedSimpArgs false
set_option maxRecDepth 100000

structure IoS (w0 : World) (n : Nd) (v : Vl) (B : Option Addr) (cv : Nat) (w : World) : Prop where
  bel : Below w0.heap.size w0 w
  who : Blk w w0.heap.size (ndC n) 44
  bv : Blk w (w0.heap.size + 1) (vlC v B cv) 27
theorem IoS.later {w0 w w' : World} {n : Nd} {v : Vl} {B : Option Addr} {cv : Nat} (h : IoS w0 n v B cv w) (hb : Below w.heap.size w w') : IoS w0 n v B cv w' := ⟨h.bel.trans (hb.mono h.bel.size), h.who.later hb, h.bv.later hb⟩
theorem IoS.new (w : World) (n : Nd) (v : Vl) (B : Option Addr) (cv : Nat) : IoS w n v B cv ((w.alloc (.cells (ndC n) 44)).alloc (.cells (vlC v B cv) 27)) :=
  ⟨((Below.refl w.heap.size w).alloc (Nat.le_refl _) _).alloc (by simp) _, (Blk.new w _ _).alloc _, Blk.new' (by simp) _ _⟩
def IsOfC (n : Nd) : Prop := ∀ (v : Vl) (B : Option Addr) (cv : Nat) (w : World), v.kids.len < 4611686018427387904 → Calls Try.prog 34 #[.agg (ndC n), .agg (vlC v B cv)] w (Ans w (.bool (decide (headV n v.kind v.byte v.text v.pick v.kids.len))))
set_option maxHeartbeats 16000000 in
theorem visof_1 (na nb nlo nhi : Int) (ncls : BitVec 256) (ntext : List UInt8) : IsOfC ⟨1, na, nb, nlo, nhi, ncls, ntext⟩ := by
  intro v B cv w hv
  have HS0 := Lib.hid (IoS.new w ⟨1, na, nb, nlo, nhi, ncls, ntext⟩ v B cv)
  have HT : Hid (∀ w', Calls Try.prog 40 #[.agg (vlC v B cv)] w' (Ans w' (.bool (decide (toldP v))))) := fun w' => vtold_any v B cv w'
  have HHD : Hid (∀ w', Calls Try.prog 41 #[cls ncls, .int .u8 ((v.byte.toNat : Nat) : Int)] w' (Ans w' (.bool (ncls.getLsbD v.byte.toNat)))) := fun w' => has_any ncls v.byte.toNat v.byte.toNat_lt w'
  obtain ⟨vk, vb, vt, vp, ks⟩ := v
  unfold toldP at HT
  simp only at HT hv ⊢
  rw [vlC_five] at *
  unfold cls at HHD
  have HD : Hid (¬ (headV ⟨1, na, nb, nlo, nhi, ncls, ntext⟩ vk vb vt vp ks.len) → decide (headV ⟨1, na, nb, nlo, nhi, ncls, ntext⟩ vk vb vt vp ks.len) = false) := fun h => decide_eq_false h
  have HE : Hid ((headV ⟨1, na, nb, nlo, nhi, ncls, ntext⟩ vk vb vt vp ks.len) → decide (headV ⟨1, na, nb, nlo, nhi, ncls, ntext⟩ vk vb vt vp ks.len) = true) := fun h => decide_eq_true h
  generalize decide (headV ⟨1, na, nb, nlo, nhi, ncls, ntext⟩ vk vb vt vp ks.len) = r at *
  unfold headV at HD HE
  unfold ndC at HS0 ⊢
  simp only at HS0 HD HE HHD HT ⊢
  generalize ncls.getLsbD vb.toNat = hbit at *
  by_cases hk : vk = 1
  · have zk : (vk == 1) = true := by simp [hk]
    have zkn : (vk != 1) = false := by simp [hk]
    by_cases ht : (vk = 2 ∨ vb = 0) ∧ (vk = 3 ∨ vt = []) ∧ (vk = 5 ∨ vp = 0)
    · rw [decide_eq_true ht] at HT
      by_cases hc0 : ks.len = 0
      · have zc : (((ks.len : Nat) : Int) == 0) = true := by rw [hc0]; rfl
        rw [HE.out (by simp_all <;> omega)]
        clear HD HE
        clear hc0 hk ht
        go_enter Try.func34, Try.ntmps34
        go_upto_region 1 with (fail)
        generalize (w.alloc (.cells #[.int .i64 1, .int .i64 na, .int .i64 nb, .int .i64 nlo, .int .i64 nhi, .int .u64 (wd ncls 0), .int .u64 (wd ncls 1), .int .u64 (wd ncls 2), .int .u64 (wd ncls 3), .string (bs ntext)] 44)).alloc (.cells #[.int .i64 vk, .int .u8 ((vb.toNat : Nat) : Int), .string (bs vt), .int .i64 vp, .slice B ks.len cv] 27) = w1 at *
        obtain ⟨f0, f1, f2, f3, f4, f5, f6, f7, f8, f9⟩ := ten_cells HS0.out.who
        obtain ⟨b0, b1, b2, b3, b4⟩ := vl_cells HS0.out.bv
        go_wp2_with fail
        refine (HT.out _).mono ?_; rintro e w2 ⟨rfl, hb⟩
        have HS2 := Lib.hid (HS0.out.later hb)
        clear hb f0 f1 f2 f3 f4 f5 f6 f7 f8 f9 b0 b1 b2 b3 b4 HT HS0
        obtain ⟨f0, f1, f2, f3, f4, f5, f6, f7, f8, f9⟩ := ten_cells HS2.out.who
        obtain ⟨b0, b1, b2, b3, b4⟩ := vl_cells HS2.out.bv
        go_wp2
        go_ret
        exact ⟨rfl, HS2.out.bel⟩
      · have zc : (((ks.len : Nat) : Int) == 0) = false := by rw [beq_eq_false_iff_ne]; omega
        rw [HD.out (by simp_all <;> omega)]
        clear HD HE
        clear hc0 hk ht
        go_enter Try.func34, Try.ntmps34
        go_upto_region 1 with (fail)
        generalize (w.alloc (.cells #[.int .i64 1, .int .i64 na, .int .i64 nb, .int .i64 nlo, .int .i64 nhi, .int .u64 (wd ncls 0), .int .u64 (wd ncls 1), .int .u64 (wd ncls 2), .int .u64 (wd ncls 3), .string (bs ntext)] 44)).alloc (.cells #[.int .i64 vk, .int .u8 ((vb.toNat : Nat) : Int), .string (bs vt), .int .i64 vp, .slice B ks.len cv] 27) = w1 at *
        obtain ⟨f0, f1, f2, f3, f4, f5, f6, f7, f8, f9⟩ := ten_cells HS0.out.who
        obtain ⟨b0, b1, b2, b3, b4⟩ := vl_cells HS0.out.bv
        go_wp2_with fail
        refine (HT.out _).mono ?_; rintro e w2 ⟨rfl, hb⟩
        have HS2 := Lib.hid (HS0.out.later hb)
        clear hb f0 f1 f2 f3 f4 f5 f6 f7 f8 f9 b0 b1 b2 b3 b4 HT HS0
        obtain ⟨f0, f1, f2, f3, f4, f5, f6, f7, f8, f9⟩ := ten_cells HS2.out.who
        obtain ⟨b0, b1, b2, b3, b4⟩ := vl_cells HS2.out.bv
        go_wp2
        go_ret
        exact ⟨rfl, HS2.out.bel⟩
    · rw [decide_eq_false ht] at HT
      rw [HD.out (by simp_all <;> omega)]
      clear HD HE
      clear hk ht
      go_enter Try.func34, Try.ntmps34
      go_upto_region 1 with (fail)
      generalize (w.alloc (.cells #[.int .i64 1, .int .i64 na, .int .i64 nb, .int .i64 nlo, .int .i64 nhi, .int .u64 (wd ncls 0), .int .u64 (wd ncls 1), .int .u64 (wd ncls 2), .int .u64 (wd ncls 3), .string (bs ntext)] 44)).alloc (.cells #[.int .i64 vk, .int .u8 ((vb.toNat : Nat) : Int), .string (bs vt), .int .i64 vp, .slice B ks.len cv] 27) = w1 at *
      obtain ⟨f0, f1, f2, f3, f4, f5, f6, f7, f8, f9⟩ := ten_cells HS0.out.who
      obtain ⟨b0, b1, b2, b3, b4⟩ := vl_cells HS0.out.bv
      go_wp2_with fail
      refine (HT.out _).mono ?_; rintro e w2 ⟨rfl, hb⟩
      have HS2 := Lib.hid (HS0.out.later hb)
      clear hb f0 f1 f2 f3 f4 f5 f6 f7 f8 f9 b0 b1 b2 b3 b4 HT HS0
      obtain ⟨f0, f1, f2, f3, f4, f5, f6, f7, f8, f9⟩ := ten_cells HS2.out.who
      obtain ⟨b0, b1, b2, b3, b4⟩ := vl_cells HS2.out.bv
      go_wp2
      go_ret
      exact ⟨rfl, HS2.out.bel⟩
  · have zk : (vk == 1) = false := by rw [beq_eq_false_iff_ne]; exact hk
    have zkn : (vk != 1) = true := by simp [hk]
    rw [HD.out (fun h => hk h.1)]
    clear HD HE
    clear hk
    go_enter Try.func34, Try.ntmps34
    go_upto_region 1 with (fail)
    generalize (w.alloc (.cells #[.int .i64 1, .int .i64 na, .int .i64 nb, .int .i64 nlo, .int .i64 nhi, .int .u64 (wd ncls 0), .int .u64 (wd ncls 1), .int .u64 (wd ncls 2), .int .u64 (wd ncls 3), .string (bs ntext)] 44)).alloc (.cells #[.int .i64 vk, .int .u8 ((vb.toNat : Nat) : Int), .string (bs vt), .int .i64 vp, .slice B ks.len cv] 27) = w1 at *
    obtain ⟨f0, f1, f2, f3, f4, f5, f6, f7, f8, f9⟩ := ten_cells HS0.out.who
    obtain ⟨b0, b1, b2, b3, b4⟩ := vl_cells HS0.out.bv
    go_wp2
    go_ret
    exact ⟨rfl, HS0.out.bel⟩
set_option maxHeartbeats 16000000 in
theorem visof_2 (na nb nlo nhi : Int) (ncls : BitVec 256) (ntext : List UInt8) : IsOfC ⟨2, na, nb, nlo, nhi, ncls, ntext⟩ := by
  intro v B cv w hv
  have HS0 := Lib.hid (IoS.new w ⟨2, na, nb, nlo, nhi, ncls, ntext⟩ v B cv)
  have HT : Hid (∀ w', Calls Try.prog 40 #[.agg (vlC v B cv)] w' (Ans w' (.bool (decide (toldP v))))) := fun w' => vtold_any v B cv w'
  have HHD : Hid (∀ w', Calls Try.prog 41 #[cls ncls, .int .u8 ((v.byte.toNat : Nat) : Int)] w' (Ans w' (.bool (ncls.getLsbD v.byte.toNat)))) := fun w' => has_any ncls v.byte.toNat v.byte.toNat_lt w'
  obtain ⟨vk, vb, vt, vp, ks⟩ := v
  unfold toldP at HT
  simp only at HT hv ⊢
  rw [vlC_five] at *
  unfold cls at HHD
  have HD : Hid (¬ (headV ⟨2, na, nb, nlo, nhi, ncls, ntext⟩ vk vb vt vp ks.len) → decide (headV ⟨2, na, nb, nlo, nhi, ncls, ntext⟩ vk vb vt vp ks.len) = false) := fun h => decide_eq_false h
  have HE : Hid ((headV ⟨2, na, nb, nlo, nhi, ncls, ntext⟩ vk vb vt vp ks.len) → decide (headV ⟨2, na, nb, nlo, nhi, ncls, ntext⟩ vk vb vt vp ks.len) = true) := fun h => decide_eq_true h
  generalize decide (headV ⟨2, na, nb, nlo, nhi, ncls, ntext⟩ vk vb vt vp ks.len) = r at *
  unfold headV at HD HE
  unfold ndC at HS0 ⊢
  simp only at HS0 HD HE HHD HT ⊢
  generalize ncls.getLsbD vb.toNat = hbit at *
  by_cases hk : vk = 2
  · have zk : (vk == 2) = true := by simp [hk]
    have zkn : (vk != 2) = false := by simp [hk]
    by_cases ht : (vk = 2 ∨ vb = 0) ∧ (vk = 3 ∨ vt = []) ∧ (vk = 5 ∨ vp = 0)
    · rw [decide_eq_true ht] at HT
      by_cases hc0 : ks.len = 0
      · have zc : (((ks.len : Nat) : Int) == 0) = true := by rw [hc0]; rfl
        cases hbit with
        | false =>
          rw [HD.out (fun h => absurd (h.2.2.1 trivial) (by decide))]
          clear HD HE
          clear hc0 hk ht
          go_enter Try.func34, Try.ntmps34
          go_upto_region 1 with (fail)
          generalize (w.alloc (.cells #[.int .i64 2, .int .i64 na, .int .i64 nb, .int .i64 nlo, .int .i64 nhi, .int .u64 (wd ncls 0), .int .u64 (wd ncls 1), .int .u64 (wd ncls 2), .int .u64 (wd ncls 3), .string (bs ntext)] 44)).alloc (.cells #[.int .i64 vk, .int .u8 ((vb.toNat : Nat) : Int), .string (bs vt), .int .i64 vp, .slice B ks.len cv] 27) = w1 at *
          obtain ⟨f0, f1, f2, f3, f4, f5, f6, f7, f8, f9⟩ := ten_cells HS0.out.who
          obtain ⟨b0, b1, b2, b3, b4⟩ := vl_cells HS0.out.bv
          go_wp2_with fail
          refine (HT.out _).mono ?_; rintro e w2 ⟨rfl, hb⟩
          have HS2 := Lib.hid (HS0.out.later hb)
          clear hb f0 f1 f2 f3 f4 f5 f6 f7 f8 f9 b0 b1 b2 b3 b4 HT HS0
          obtain ⟨f0, f1, f2, f3, f4, f5, f6, f7, f8, f9⟩ := ten_cells HS2.out.who
          obtain ⟨b0, b1, b2, b3, b4⟩ := vl_cells HS2.out.bv
          go_wp2_with fail
          refine (HHD.out _).mono ?_; rintro e w3 ⟨rfl, hb⟩
          have HS3 := Lib.hid (HS2.out.later hb)
          clear hb f0 f1 f2 f3 f4 f5 f6 f7 f8 f9 b0 b1 b2 b3 b4
          go_wp2
          go_ret
          exact ⟨rfl, HS3.out.bel⟩
        | true =>
          rw [HE.out ⟨hk, fun h => absurd rfl h, fun _ => rfl, by simpa [hk] using ht.2.1, .inl (by rcases ht.2.2 with h | h; omega; exact h), fun _ => hc0, fun h => by omega, fun h => by omega, fun h => by omega⟩]
          clear HD HE
          clear hc0 hk ht
          go_enter Try.func34, Try.ntmps34
          go_upto_region 1 with (fail)
          generalize (w.alloc (.cells #[.int .i64 2, .int .i64 na, .int .i64 nb, .int .i64 nlo, .int .i64 nhi, .int .u64 (wd ncls 0), .int .u64 (wd ncls 1), .int .u64 (wd ncls 2), .int .u64 (wd ncls 3), .string (bs ntext)] 44)).alloc (.cells #[.int .i64 vk, .int .u8 ((vb.toNat : Nat) : Int), .string (bs vt), .int .i64 vp, .slice B ks.len cv] 27) = w1 at *
          obtain ⟨f0, f1, f2, f3, f4, f5, f6, f7, f8, f9⟩ := ten_cells HS0.out.who
          obtain ⟨b0, b1, b2, b3, b4⟩ := vl_cells HS0.out.bv
          go_wp2_with fail
          refine (HT.out _).mono ?_; rintro e w2 ⟨rfl, hb⟩
          have HS2 := Lib.hid (HS0.out.later hb)
          clear hb f0 f1 f2 f3 f4 f5 f6 f7 f8 f9 b0 b1 b2 b3 b4 HT HS0
          obtain ⟨f0, f1, f2, f3, f4, f5, f6, f7, f8, f9⟩ := ten_cells HS2.out.who
          obtain ⟨b0, b1, b2, b3, b4⟩ := vl_cells HS2.out.bv
          go_wp2_with fail
          refine (HHD.out _).mono ?_; rintro e w3 ⟨rfl, hb⟩
          have HS3 := Lib.hid (HS2.out.later hb)
          clear hb f0 f1 f2 f3 f4 f5 f6 f7 f8 f9 b0 b1 b2 b3 b4
          go_wp2
          go_ret
          exact ⟨rfl, HS3.out.bel⟩
      · have zc : (((ks.len : Nat) : Int) == 0) = false := by rw [beq_eq_false_iff_ne]; omega
        rw [HD.out (by simp_all <;> omega)]
        clear HD HE
        clear hc0 hk ht
        go_enter Try.func34, Try.ntmps34
        go_upto_region 1 with (fail)
        generalize (w.alloc (.cells #[.int .i64 2, .int .i64 na, .int .i64 nb, .int .i64 nlo, .int .i64 nhi, .int .u64 (wd ncls 0), .int .u64 (wd ncls 1), .int .u64 (wd ncls 2), .int .u64 (wd ncls 3), .string (bs ntext)] 44)).alloc (.cells #[.int .i64 vk, .int .u8 ((vb.toNat : Nat) : Int), .string (bs vt), .int .i64 vp, .slice B ks.len cv] 27) = w1 at *
        obtain ⟨f0, f1, f2, f3, f4, f5, f6, f7, f8, f9⟩ := ten_cells HS0.out.who
        obtain ⟨b0, b1, b2, b3, b4⟩ := vl_cells HS0.out.bv
        go_wp2_with fail
        refine (HT.out _).mono ?_; rintro e w2 ⟨rfl, hb⟩
        have HS2 := Lib.hid (HS0.out.later hb)
        clear hb f0 f1 f2 f3 f4 f5 f6 f7 f8 f9 b0 b1 b2 b3 b4 HT HS0
        obtain ⟨f0, f1, f2, f3, f4, f5, f6, f7, f8, f9⟩ := ten_cells HS2.out.who
        obtain ⟨b0, b1, b2, b3, b4⟩ := vl_cells HS2.out.bv
        go_wp2
        go_ret
        exact ⟨rfl, HS2.out.bel⟩
    · rw [decide_eq_false ht] at HT
      rw [HD.out (by simp_all <;> omega)]
      clear HD HE
      clear hk ht
      go_enter Try.func34, Try.ntmps34
      go_upto_region 1 with (fail)
      generalize (w.alloc (.cells #[.int .i64 2, .int .i64 na, .int .i64 nb, .int .i64 nlo, .int .i64 nhi, .int .u64 (wd ncls 0), .int .u64 (wd ncls 1), .int .u64 (wd ncls 2), .int .u64 (wd ncls 3), .string (bs ntext)] 44)).alloc (.cells #[.int .i64 vk, .int .u8 ((vb.toNat : Nat) : Int), .string (bs vt), .int .i64 vp, .slice B ks.len cv] 27) = w1 at *
      obtain ⟨f0, f1, f2, f3, f4, f5, f6, f7, f8, f9⟩ := ten_cells HS0.out.who
      obtain ⟨b0, b1, b2, b3, b4⟩ := vl_cells HS0.out.bv
      go_wp2_with fail
      refine (HT.out _).mono ?_; rintro e w2 ⟨rfl, hb⟩
      have HS2 := Lib.hid (HS0.out.later hb)
      clear hb f0 f1 f2 f3 f4 f5 f6 f7 f8 f9 b0 b1 b2 b3 b4 HT HS0
      obtain ⟨f0, f1, f2, f3, f4, f5, f6, f7, f8, f9⟩ := ten_cells HS2.out.who
      obtain ⟨b0, b1, b2, b3, b4⟩ := vl_cells HS2.out.bv
      go_wp2
      go_ret
      exact ⟨rfl, HS2.out.bel⟩
  · have zk : (vk == 2) = false := by rw [beq_eq_false_iff_ne]; exact hk
    have zkn : (vk != 2) = true := by simp [hk]
    rw [HD.out (fun h => hk h.1)]
    clear HD HE
    clear hk
    go_enter Try.func34, Try.ntmps34
    go_upto_region 1 with (fail)
    generalize (w.alloc (.cells #[.int .i64 2, .int .i64 na, .int .i64 nb, .int .i64 nlo, .int .i64 nhi, .int .u64 (wd ncls 0), .int .u64 (wd ncls 1), .int .u64 (wd ncls 2), .int .u64 (wd ncls 3), .string (bs ntext)] 44)).alloc (.cells #[.int .i64 vk, .int .u8 ((vb.toNat : Nat) : Int), .string (bs vt), .int .i64 vp, .slice B ks.len cv] 27) = w1 at *
    obtain ⟨f0, f1, f2, f3, f4, f5, f6, f7, f8, f9⟩ := ten_cells HS0.out.who
    obtain ⟨b0, b1, b2, b3, b4⟩ := vl_cells HS0.out.bv
    go_wp2
    go_ret
    exact ⟨rfl, HS0.out.bel⟩
set_option maxHeartbeats 16000000 in
theorem visof_3 (na nb nlo nhi : Int) (ncls : BitVec 256) (ntext : List UInt8) : IsOfC ⟨3, na, nb, nlo, nhi, ncls, ntext⟩ := by
  intro v B cv w hv
  have HS0 := Lib.hid (IoS.new w ⟨3, na, nb, nlo, nhi, ncls, ntext⟩ v B cv)
  have HT : Hid (∀ w', Calls Try.prog 40 #[.agg (vlC v B cv)] w' (Ans w' (.bool (decide (toldP v))))) := fun w' => vtold_any v B cv w'
  have HHD : Hid (∀ w', Calls Try.prog 41 #[cls ncls, .int .u8 ((v.byte.toNat : Nat) : Int)] w' (Ans w' (.bool (ncls.getLsbD v.byte.toNat)))) := fun w' => has_any ncls v.byte.toNat v.byte.toNat_lt w'
  obtain ⟨vk, vb, vt, vp, ks⟩ := v
  unfold toldP at HT
  simp only at HT hv ⊢
  rw [vlC_five] at *
  unfold cls at HHD
  have HD : Hid (¬ (headV ⟨3, na, nb, nlo, nhi, ncls, ntext⟩ vk vb vt vp ks.len) → decide (headV ⟨3, na, nb, nlo, nhi, ncls, ntext⟩ vk vb vt vp ks.len) = false) := fun h => decide_eq_false h
  have HE : Hid ((headV ⟨3, na, nb, nlo, nhi, ncls, ntext⟩ vk vb vt vp ks.len) → decide (headV ⟨3, na, nb, nlo, nhi, ncls, ntext⟩ vk vb vt vp ks.len) = true) := fun h => decide_eq_true h
  generalize decide (headV ⟨3, na, nb, nlo, nhi, ncls, ntext⟩ vk vb vt vp ks.len) = r at *
  unfold headV at HD HE
  unfold ndC at HS0 ⊢
  simp only at HS0 HD HE HHD HT ⊢
  generalize ncls.getLsbD vb.toNat = hbit at *
  by_cases hk : vk = 3
  · have zk : (vk == 3) = true := by simp [hk]
    have zkn : (vk != 3) = false := by simp [hk]
    by_cases ht : (vk = 2 ∨ vb = 0) ∧ (vk = 3 ∨ vt = []) ∧ (vk = 5 ∨ vp = 0)
    · rw [decide_eq_true ht] at HT
      by_cases hc0 : ks.len = 0
      · have zc : (((ks.len : Nat) : Int) == 0) = true := by rw [hc0]; rfl
        by_cases hc1 : vt = ntext
        · have zt : (bs vt == bs ntext) = true := by rw [bs_beq, decide_eq_true hc1]
          have ztl : (bs vt).toList = (bs ntext).toList := by rw [hc1]
          have zte : ((bs vt).toList == (bs ntext).toList) = true := by rw [ztl]; simp
          rw [HE.out (by simp_all <;> omega)]
          clear HD HE
          clear hc0 hc1 hk ht
          go_enter Try.func34, Try.ntmps34
          go_upto_region 1 with (fail)
          generalize (w.alloc (.cells #[.int .i64 3, .int .i64 na, .int .i64 nb, .int .i64 nlo, .int .i64 nhi, .int .u64 (wd ncls 0), .int .u64 (wd ncls 1), .int .u64 (wd ncls 2), .int .u64 (wd ncls 3), .string (bs ntext)] 44)).alloc (.cells #[.int .i64 vk, .int .u8 ((vb.toNat : Nat) : Int), .string (bs vt), .int .i64 vp, .slice B ks.len cv] 27) = w1 at *
          obtain ⟨f0, f1, f2, f3, f4, f5, f6, f7, f8, f9⟩ := ten_cells HS0.out.who
          obtain ⟨b0, b1, b2, b3, b4⟩ := vl_cells HS0.out.bv
          go_wp2_with fail
          refine (HT.out _).mono ?_; rintro e w2 ⟨rfl, hb⟩
          have HS2 := Lib.hid (HS0.out.later hb)
          clear hb f0 f1 f2 f3 f4 f5 f6 f7 f8 f9 b0 b1 b2 b3 b4 HT HS0
          obtain ⟨f0, f1, f2, f3, f4, f5, f6, f7, f8, f9⟩ := ten_cells HS2.out.who
          obtain ⟨b0, b1, b2, b3, b4⟩ := vl_cells HS2.out.bv
          go_wp2
          go_ret
          exact ⟨rfl, HS2.out.bel⟩
        · have zt : (bs vt == bs ntext) = false := by rw [bs_beq, decide_eq_false hc1]
          have ztl : ¬ (bs vt).toList = (bs ntext).toList := fun e => hc1 (by rw [Lib.toList_data, Lib.toList_data, bs_data, bs_data] at e; exact e)
          have zte : ((bs vt).toList == (bs ntext).toList) = false := by rw [beq_eq_false_iff_ne]; exact ztl
          rw [HD.out (by simp_all <;> omega)]
          clear HD HE
          clear hc0 hc1 hk ht
          go_enter Try.func34, Try.ntmps34
          go_upto_region 1 with (fail)
          generalize (w.alloc (.cells #[.int .i64 3, .int .i64 na, .int .i64 nb, .int .i64 nlo, .int .i64 nhi, .int .u64 (wd ncls 0), .int .u64 (wd ncls 1), .int .u64 (wd ncls 2), .int .u64 (wd ncls 3), .string (bs ntext)] 44)).alloc (.cells #[.int .i64 vk, .int .u8 ((vb.toNat : Nat) : Int), .string (bs vt), .int .i64 vp, .slice B ks.len cv] 27) = w1 at *
          obtain ⟨f0, f1, f2, f3, f4, f5, f6, f7, f8, f9⟩ := ten_cells HS0.out.who
          obtain ⟨b0, b1, b2, b3, b4⟩ := vl_cells HS0.out.bv
          go_wp2_with fail
          refine (HT.out _).mono ?_; rintro e w2 ⟨rfl, hb⟩
          have HS2 := Lib.hid (HS0.out.later hb)
          clear hb f0 f1 f2 f3 f4 f5 f6 f7 f8 f9 b0 b1 b2 b3 b4 HT HS0
          obtain ⟨f0, f1, f2, f3, f4, f5, f6, f7, f8, f9⟩ := ten_cells HS2.out.who
          obtain ⟨b0, b1, b2, b3, b4⟩ := vl_cells HS2.out.bv
          go_wp2
          go_ret
          exact ⟨rfl, HS2.out.bel⟩
      · have zc : (((ks.len : Nat) : Int) == 0) = false := by rw [beq_eq_false_iff_ne]; omega
        rw [HD.out (by simp_all <;> omega)]
        clear HD HE
        clear hc0 hk ht
        go_enter Try.func34, Try.ntmps34
        go_upto_region 1 with (fail)
        generalize (w.alloc (.cells #[.int .i64 3, .int .i64 na, .int .i64 nb, .int .i64 nlo, .int .i64 nhi, .int .u64 (wd ncls 0), .int .u64 (wd ncls 1), .int .u64 (wd ncls 2), .int .u64 (wd ncls 3), .string (bs ntext)] 44)).alloc (.cells #[.int .i64 vk, .int .u8 ((vb.toNat : Nat) : Int), .string (bs vt), .int .i64 vp, .slice B ks.len cv] 27) = w1 at *
        obtain ⟨f0, f1, f2, f3, f4, f5, f6, f7, f8, f9⟩ := ten_cells HS0.out.who
        obtain ⟨b0, b1, b2, b3, b4⟩ := vl_cells HS0.out.bv
        go_wp2_with fail
        refine (HT.out _).mono ?_; rintro e w2 ⟨rfl, hb⟩
        have HS2 := Lib.hid (HS0.out.later hb)
        clear hb f0 f1 f2 f3 f4 f5 f6 f7 f8 f9 b0 b1 b2 b3 b4 HT HS0
        obtain ⟨f0, f1, f2, f3, f4, f5, f6, f7, f8, f9⟩ := ten_cells HS2.out.who
        obtain ⟨b0, b1, b2, b3, b4⟩ := vl_cells HS2.out.bv
        go_wp2
        go_ret
        exact ⟨rfl, HS2.out.bel⟩
    · rw [decide_eq_false ht] at HT
      rw [HD.out (by simp_all <;> omega)]
      clear HD HE
      clear hk ht
      go_enter Try.func34, Try.ntmps34
      go_upto_region 1 with (fail)
      generalize (w.alloc (.cells #[.int .i64 3, .int .i64 na, .int .i64 nb, .int .i64 nlo, .int .i64 nhi, .int .u64 (wd ncls 0), .int .u64 (wd ncls 1), .int .u64 (wd ncls 2), .int .u64 (wd ncls 3), .string (bs ntext)] 44)).alloc (.cells #[.int .i64 vk, .int .u8 ((vb.toNat : Nat) : Int), .string (bs vt), .int .i64 vp, .slice B ks.len cv] 27) = w1 at *
      obtain ⟨f0, f1, f2, f3, f4, f5, f6, f7, f8, f9⟩ := ten_cells HS0.out.who
      obtain ⟨b0, b1, b2, b3, b4⟩ := vl_cells HS0.out.bv
      go_wp2_with fail
      refine (HT.out _).mono ?_; rintro e w2 ⟨rfl, hb⟩
      have HS2 := Lib.hid (HS0.out.later hb)
      clear hb f0 f1 f2 f3 f4 f5 f6 f7 f8 f9 b0 b1 b2 b3 b4 HT HS0
      obtain ⟨f0, f1, f2, f3, f4, f5, f6, f7, f8, f9⟩ := ten_cells HS2.out.who
      obtain ⟨b0, b1, b2, b3, b4⟩ := vl_cells HS2.out.bv
      go_wp2
      go_ret
      exact ⟨rfl, HS2.out.bel⟩
  · have zk : (vk == 3) = false := by rw [beq_eq_false_iff_ne]; exact hk
    have zkn : (vk != 3) = true := by simp [hk]
    rw [HD.out (fun h => hk h.1)]
    clear HD HE
    clear hk
    go_enter Try.func34, Try.ntmps34
    go_upto_region 1 with (fail)
    generalize (w.alloc (.cells #[.int .i64 3, .int .i64 na, .int .i64 nb, .int .i64 nlo, .int .i64 nhi, .int .u64 (wd ncls 0), .int .u64 (wd ncls 1), .int .u64 (wd ncls 2), .int .u64 (wd ncls 3), .string (bs ntext)] 44)).alloc (.cells #[.int .i64 vk, .int .u8 ((vb.toNat : Nat) : Int), .string (bs vt), .int .i64 vp, .slice B ks.len cv] 27) = w1 at *
    obtain ⟨f0, f1, f2, f3, f4, f5, f6, f7, f8, f9⟩ := ten_cells HS0.out.who
    obtain ⟨b0, b1, b2, b3, b4⟩ := vl_cells HS0.out.bv
    go_wp2
    go_ret
    exact ⟨rfl, HS0.out.bel⟩
set_option maxHeartbeats 16000000 in
theorem visof_4 (na nb nlo nhi : Int) (ncls : BitVec 256) (ntext : List UInt8) : IsOfC ⟨4, na, nb, nlo, nhi, ncls, ntext⟩ := by
  intro v B cv w hv
  have HS0 := Lib.hid (IoS.new w ⟨4, na, nb, nlo, nhi, ncls, ntext⟩ v B cv)
  have HT : Hid (∀ w', Calls Try.prog 40 #[.agg (vlC v B cv)] w' (Ans w' (.bool (decide (toldP v))))) := fun w' => vtold_any v B cv w'
  have HHD : Hid (∀ w', Calls Try.prog 41 #[cls ncls, .int .u8 ((v.byte.toNat : Nat) : Int)] w' (Ans w' (.bool (ncls.getLsbD v.byte.toNat)))) := fun w' => has_any ncls v.byte.toNat v.byte.toNat_lt w'
  obtain ⟨vk, vb, vt, vp, ks⟩ := v
  unfold toldP at HT
  simp only at HT hv ⊢
  rw [vlC_five] at *
  unfold cls at HHD
  have HD : Hid (¬ (headV ⟨4, na, nb, nlo, nhi, ncls, ntext⟩ vk vb vt vp ks.len) → decide (headV ⟨4, na, nb, nlo, nhi, ncls, ntext⟩ vk vb vt vp ks.len) = false) := fun h => decide_eq_false h
  have HE : Hid ((headV ⟨4, na, nb, nlo, nhi, ncls, ntext⟩ vk vb vt vp ks.len) → decide (headV ⟨4, na, nb, nlo, nhi, ncls, ntext⟩ vk vb vt vp ks.len) = true) := fun h => decide_eq_true h
  generalize decide (headV ⟨4, na, nb, nlo, nhi, ncls, ntext⟩ vk vb vt vp ks.len) = r at *
  unfold headV at HD HE
  unfold ndC at HS0 ⊢
  simp only at HS0 HD HE HHD HT ⊢
  generalize ncls.getLsbD vb.toNat = hbit at *
  by_cases hk : vk = 4
  · have zk : (vk == 4) = true := by simp [hk]
    have zkn : (vk != 4) = false := by simp [hk]
    by_cases ht : (vk = 2 ∨ vb = 0) ∧ (vk = 3 ∨ vt = []) ∧ (vk = 5 ∨ vp = 0)
    · rw [decide_eq_true ht] at HT
      by_cases hc0 : ks.len = 2
      · have zc : (((ks.len : Nat) : Int) == 2) = true := by rw [hc0]; rfl
        rw [HE.out (by simp_all <;> omega)]
        clear HD HE
        clear hc0 hk ht
        go_enter Try.func34, Try.ntmps34
        go_upto_region 1 with (fail)
        generalize (w.alloc (.cells #[.int .i64 4, .int .i64 na, .int .i64 nb, .int .i64 nlo, .int .i64 nhi, .int .u64 (wd ncls 0), .int .u64 (wd ncls 1), .int .u64 (wd ncls 2), .int .u64 (wd ncls 3), .string (bs ntext)] 44)).alloc (.cells #[.int .i64 vk, .int .u8 ((vb.toNat : Nat) : Int), .string (bs vt), .int .i64 vp, .slice B ks.len cv] 27) = w1 at *
        obtain ⟨f0, f1, f2, f3, f4, f5, f6, f7, f8, f9⟩ := ten_cells HS0.out.who
        obtain ⟨b0, b1, b2, b3, b4⟩ := vl_cells HS0.out.bv
        go_wp2_with fail
        refine (HT.out _).mono ?_; rintro e w2 ⟨rfl, hb⟩
        have HS2 := Lib.hid (HS0.out.later hb)
        clear hb f0 f1 f2 f3 f4 f5 f6 f7 f8 f9 b0 b1 b2 b3 b4 HT HS0
        obtain ⟨f0, f1, f2, f3, f4, f5, f6, f7, f8, f9⟩ := ten_cells HS2.out.who
        obtain ⟨b0, b1, b2, b3, b4⟩ := vl_cells HS2.out.bv
        go_wp2
        go_ret
        exact ⟨rfl, HS2.out.bel⟩
      · have zc : (((ks.len : Nat) : Int) == 2) = false := by rw [beq_eq_false_iff_ne]; omega
        rw [HD.out (by simp_all <;> omega)]
        clear HD HE
        clear hc0 hk ht
        go_enter Try.func34, Try.ntmps34
        go_upto_region 1 with (fail)
        generalize (w.alloc (.cells #[.int .i64 4, .int .i64 na, .int .i64 nb, .int .i64 nlo, .int .i64 nhi, .int .u64 (wd ncls 0), .int .u64 (wd ncls 1), .int .u64 (wd ncls 2), .int .u64 (wd ncls 3), .string (bs ntext)] 44)).alloc (.cells #[.int .i64 vk, .int .u8 ((vb.toNat : Nat) : Int), .string (bs vt), .int .i64 vp, .slice B ks.len cv] 27) = w1 at *
        obtain ⟨f0, f1, f2, f3, f4, f5, f6, f7, f8, f9⟩ := ten_cells HS0.out.who
        obtain ⟨b0, b1, b2, b3, b4⟩ := vl_cells HS0.out.bv
        go_wp2_with fail
        refine (HT.out _).mono ?_; rintro e w2 ⟨rfl, hb⟩
        have HS2 := Lib.hid (HS0.out.later hb)
        clear hb f0 f1 f2 f3 f4 f5 f6 f7 f8 f9 b0 b1 b2 b3 b4 HT HS0
        obtain ⟨f0, f1, f2, f3, f4, f5, f6, f7, f8, f9⟩ := ten_cells HS2.out.who
        obtain ⟨b0, b1, b2, b3, b4⟩ := vl_cells HS2.out.bv
        go_wp2
        go_ret
        exact ⟨rfl, HS2.out.bel⟩
    · rw [decide_eq_false ht] at HT
      rw [HD.out (by simp_all <;> omega)]
      clear HD HE
      clear hk ht
      go_enter Try.func34, Try.ntmps34
      go_upto_region 1 with (fail)
      generalize (w.alloc (.cells #[.int .i64 4, .int .i64 na, .int .i64 nb, .int .i64 nlo, .int .i64 nhi, .int .u64 (wd ncls 0), .int .u64 (wd ncls 1), .int .u64 (wd ncls 2), .int .u64 (wd ncls 3), .string (bs ntext)] 44)).alloc (.cells #[.int .i64 vk, .int .u8 ((vb.toNat : Nat) : Int), .string (bs vt), .int .i64 vp, .slice B ks.len cv] 27) = w1 at *
      obtain ⟨f0, f1, f2, f3, f4, f5, f6, f7, f8, f9⟩ := ten_cells HS0.out.who
      obtain ⟨b0, b1, b2, b3, b4⟩ := vl_cells HS0.out.bv
      go_wp2_with fail
      refine (HT.out _).mono ?_; rintro e w2 ⟨rfl, hb⟩
      have HS2 := Lib.hid (HS0.out.later hb)
      clear hb f0 f1 f2 f3 f4 f5 f6 f7 f8 f9 b0 b1 b2 b3 b4 HT HS0
      obtain ⟨f0, f1, f2, f3, f4, f5, f6, f7, f8, f9⟩ := ten_cells HS2.out.who
      obtain ⟨b0, b1, b2, b3, b4⟩ := vl_cells HS2.out.bv
      go_wp2
      go_ret
      exact ⟨rfl, HS2.out.bel⟩
  · have zk : (vk == 4) = false := by rw [beq_eq_false_iff_ne]; exact hk
    have zkn : (vk != 4) = true := by simp [hk]
    rw [HD.out (fun h => hk h.1)]
    clear HD HE
    clear hk
    go_enter Try.func34, Try.ntmps34
    go_upto_region 1 with (fail)
    generalize (w.alloc (.cells #[.int .i64 4, .int .i64 na, .int .i64 nb, .int .i64 nlo, .int .i64 nhi, .int .u64 (wd ncls 0), .int .u64 (wd ncls 1), .int .u64 (wd ncls 2), .int .u64 (wd ncls 3), .string (bs ntext)] 44)).alloc (.cells #[.int .i64 vk, .int .u8 ((vb.toNat : Nat) : Int), .string (bs vt), .int .i64 vp, .slice B ks.len cv] 27) = w1 at *
    obtain ⟨f0, f1, f2, f3, f4, f5, f6, f7, f8, f9⟩ := ten_cells HS0.out.who
    obtain ⟨b0, b1, b2, b3, b4⟩ := vl_cells HS0.out.bv
    go_wp2
    go_ret
    exact ⟨rfl, HS0.out.bel⟩
set_option maxHeartbeats 16000000 in
theorem visof_5 (na nb nlo nhi : Int) (ncls : BitVec 256) (ntext : List UInt8) : IsOfC ⟨5, na, nb, nlo, nhi, ncls, ntext⟩ := by
  intro v B cv w hv
  have HS0 := Lib.hid (IoS.new w ⟨5, na, nb, nlo, nhi, ncls, ntext⟩ v B cv)
  have HT : Hid (∀ w', Calls Try.prog 40 #[.agg (vlC v B cv)] w' (Ans w' (.bool (decide (toldP v))))) := fun w' => vtold_any v B cv w'
  have HHD : Hid (∀ w', Calls Try.prog 41 #[cls ncls, .int .u8 ((v.byte.toNat : Nat) : Int)] w' (Ans w' (.bool (ncls.getLsbD v.byte.toNat)))) := fun w' => has_any ncls v.byte.toNat v.byte.toNat_lt w'
  obtain ⟨vk, vb, vt, vp, ks⟩ := v
  unfold toldP at HT
  simp only at HT hv ⊢
  rw [vlC_five] at *
  unfold cls at HHD
  have HD : Hid (¬ (headV ⟨5, na, nb, nlo, nhi, ncls, ntext⟩ vk vb vt vp ks.len) → decide (headV ⟨5, na, nb, nlo, nhi, ncls, ntext⟩ vk vb vt vp ks.len) = false) := fun h => decide_eq_false h
  have HE : Hid ((headV ⟨5, na, nb, nlo, nhi, ncls, ntext⟩ vk vb vt vp ks.len) → decide (headV ⟨5, na, nb, nlo, nhi, ncls, ntext⟩ vk vb vt vp ks.len) = true) := fun h => decide_eq_true h
  generalize decide (headV ⟨5, na, nb, nlo, nhi, ncls, ntext⟩ vk vb vt vp ks.len) = r at *
  unfold headV at HD HE
  unfold ndC at HS0 ⊢
  simp only at HS0 HD HE HHD HT ⊢
  generalize ncls.getLsbD vb.toNat = hbit at *
  by_cases hk : vk = 5
  · have zk : (vk == 5) = true := by simp [hk]
    have zkn : (vk != 5) = false := by simp [hk]
    by_cases ht : (vk = 2 ∨ vb = 0) ∧ (vk = 3 ∨ vt = []) ∧ (vk = 5 ∨ vp = 0)
    · rw [decide_eq_true ht] at HT
      by_cases hc0 : ks.len = 1
      · have zc : (((ks.len : Nat) : Int) == 1) = true := by rw [hc0]; rfl
        by_cases hp0 : vp = 0
        · have zp : (vp == 0) = true := by simp [hp0]
          have zq : (vp == 1) = false := by rw [hp0]; rfl
          rw [HE.out (by simp_all <;> omega)]
          clear HD HE
          clear hc0 hp0 hk ht
          go_enter Try.func34, Try.ntmps34
          go_upto_region 1 with (fail)
          generalize (w.alloc (.cells #[.int .i64 5, .int .i64 na, .int .i64 nb, .int .i64 nlo, .int .i64 nhi, .int .u64 (wd ncls 0), .int .u64 (wd ncls 1), .int .u64 (wd ncls 2), .int .u64 (wd ncls 3), .string (bs ntext)] 44)).alloc (.cells #[.int .i64 vk, .int .u8 ((vb.toNat : Nat) : Int), .string (bs vt), .int .i64 vp, .slice B ks.len cv] 27) = w1 at *
          obtain ⟨f0, f1, f2, f3, f4, f5, f6, f7, f8, f9⟩ := ten_cells HS0.out.who
          obtain ⟨b0, b1, b2, b3, b4⟩ := vl_cells HS0.out.bv
          go_wp2_with fail
          refine (HT.out _).mono ?_; rintro e w2 ⟨rfl, hb⟩
          have HS2 := Lib.hid (HS0.out.later hb)
          clear hb f0 f1 f2 f3 f4 f5 f6 f7 f8 f9 b0 b1 b2 b3 b4 HT HS0
          obtain ⟨f0, f1, f2, f3, f4, f5, f6, f7, f8, f9⟩ := ten_cells HS2.out.who
          obtain ⟨b0, b1, b2, b3, b4⟩ := vl_cells HS2.out.bv
          go_wp2
          go_ret
          exact ⟨rfl, HS2.out.bel⟩
        · have zp : (vp == 0) = false := by rw [beq_eq_false_iff_ne]; exact hp0
          by_cases hp1 : vp = 1
          · have zq : (vp == 1) = true := by simp [hp1]
            rw [HE.out (by simp_all <;> omega)]
            clear HD HE
            clear hc0 hp0 hp1 hk ht
            go_enter Try.func34, Try.ntmps34
            go_upto_region 1 with (fail)
            generalize (w.alloc (.cells #[.int .i64 5, .int .i64 na, .int .i64 nb, .int .i64 nlo, .int .i64 nhi, .int .u64 (wd ncls 0), .int .u64 (wd ncls 1), .int .u64 (wd ncls 2), .int .u64 (wd ncls 3), .string (bs ntext)] 44)).alloc (.cells #[.int .i64 vk, .int .u8 ((vb.toNat : Nat) : Int), .string (bs vt), .int .i64 vp, .slice B ks.len cv] 27) = w1 at *
            obtain ⟨f0, f1, f2, f3, f4, f5, f6, f7, f8, f9⟩ := ten_cells HS0.out.who
            obtain ⟨b0, b1, b2, b3, b4⟩ := vl_cells HS0.out.bv
            go_wp2_with fail
            refine (HT.out _).mono ?_; rintro e w2 ⟨rfl, hb⟩
            have HS2 := Lib.hid (HS0.out.later hb)
            clear hb f0 f1 f2 f3 f4 f5 f6 f7 f8 f9 b0 b1 b2 b3 b4 HT HS0
            obtain ⟨f0, f1, f2, f3, f4, f5, f6, f7, f8, f9⟩ := ten_cells HS2.out.who
            obtain ⟨b0, b1, b2, b3, b4⟩ := vl_cells HS2.out.bv
            go_wp2
            go_ret
            exact ⟨rfl, HS2.out.bel⟩
          · have zq : (vp == 1) = false := by rw [beq_eq_false_iff_ne]; exact hp1
            rw [HD.out (by simp_all <;> omega)]
            clear HD HE
            clear hc0 hp0 hp1 hk ht
            go_enter Try.func34, Try.ntmps34
            go_upto_region 1 with (fail)
            generalize (w.alloc (.cells #[.int .i64 5, .int .i64 na, .int .i64 nb, .int .i64 nlo, .int .i64 nhi, .int .u64 (wd ncls 0), .int .u64 (wd ncls 1), .int .u64 (wd ncls 2), .int .u64 (wd ncls 3), .string (bs ntext)] 44)).alloc (.cells #[.int .i64 vk, .int .u8 ((vb.toNat : Nat) : Int), .string (bs vt), .int .i64 vp, .slice B ks.len cv] 27) = w1 at *
            obtain ⟨f0, f1, f2, f3, f4, f5, f6, f7, f8, f9⟩ := ten_cells HS0.out.who
            obtain ⟨b0, b1, b2, b3, b4⟩ := vl_cells HS0.out.bv
            go_wp2_with fail
            refine (HT.out _).mono ?_; rintro e w2 ⟨rfl, hb⟩
            have HS2 := Lib.hid (HS0.out.later hb)
            clear hb f0 f1 f2 f3 f4 f5 f6 f7 f8 f9 b0 b1 b2 b3 b4 HT HS0
            obtain ⟨f0, f1, f2, f3, f4, f5, f6, f7, f8, f9⟩ := ten_cells HS2.out.who
            obtain ⟨b0, b1, b2, b3, b4⟩ := vl_cells HS2.out.bv
            go_wp2
            go_ret
            exact ⟨rfl, HS2.out.bel⟩
      · have zc : (((ks.len : Nat) : Int) == 1) = false := by rw [beq_eq_false_iff_ne]; omega
        rw [HD.out (by simp_all <;> omega)]
        clear HD HE
        clear hc0 hk ht
        go_enter Try.func34, Try.ntmps34
        go_upto_region 1 with (fail)
        generalize (w.alloc (.cells #[.int .i64 5, .int .i64 na, .int .i64 nb, .int .i64 nlo, .int .i64 nhi, .int .u64 (wd ncls 0), .int .u64 (wd ncls 1), .int .u64 (wd ncls 2), .int .u64 (wd ncls 3), .string (bs ntext)] 44)).alloc (.cells #[.int .i64 vk, .int .u8 ((vb.toNat : Nat) : Int), .string (bs vt), .int .i64 vp, .slice B ks.len cv] 27) = w1 at *
        obtain ⟨f0, f1, f2, f3, f4, f5, f6, f7, f8, f9⟩ := ten_cells HS0.out.who
        obtain ⟨b0, b1, b2, b3, b4⟩ := vl_cells HS0.out.bv
        go_wp2_with fail
        refine (HT.out _).mono ?_; rintro e w2 ⟨rfl, hb⟩
        have HS2 := Lib.hid (HS0.out.later hb)
        clear hb f0 f1 f2 f3 f4 f5 f6 f7 f8 f9 b0 b1 b2 b3 b4 HT HS0
        obtain ⟨f0, f1, f2, f3, f4, f5, f6, f7, f8, f9⟩ := ten_cells HS2.out.who
        obtain ⟨b0, b1, b2, b3, b4⟩ := vl_cells HS2.out.bv
        go_wp2
        go_ret
        exact ⟨rfl, HS2.out.bel⟩
    · rw [decide_eq_false ht] at HT
      rw [HD.out (by simp_all <;> omega)]
      clear HD HE
      clear hk ht
      go_enter Try.func34, Try.ntmps34
      go_upto_region 1 with (fail)
      generalize (w.alloc (.cells #[.int .i64 5, .int .i64 na, .int .i64 nb, .int .i64 nlo, .int .i64 nhi, .int .u64 (wd ncls 0), .int .u64 (wd ncls 1), .int .u64 (wd ncls 2), .int .u64 (wd ncls 3), .string (bs ntext)] 44)).alloc (.cells #[.int .i64 vk, .int .u8 ((vb.toNat : Nat) : Int), .string (bs vt), .int .i64 vp, .slice B ks.len cv] 27) = w1 at *
      obtain ⟨f0, f1, f2, f3, f4, f5, f6, f7, f8, f9⟩ := ten_cells HS0.out.who
      obtain ⟨b0, b1, b2, b3, b4⟩ := vl_cells HS0.out.bv
      go_wp2_with fail
      refine (HT.out _).mono ?_; rintro e w2 ⟨rfl, hb⟩
      have HS2 := Lib.hid (HS0.out.later hb)
      clear hb f0 f1 f2 f3 f4 f5 f6 f7 f8 f9 b0 b1 b2 b3 b4 HT HS0
      obtain ⟨f0, f1, f2, f3, f4, f5, f6, f7, f8, f9⟩ := ten_cells HS2.out.who
      obtain ⟨b0, b1, b2, b3, b4⟩ := vl_cells HS2.out.bv
      go_wp2
      go_ret
      exact ⟨rfl, HS2.out.bel⟩
  · have zk : (vk == 5) = false := by rw [beq_eq_false_iff_ne]; exact hk
    have zkn : (vk != 5) = true := by simp [hk]
    rw [HD.out (fun h => hk h.1)]
    clear HD HE
    clear hk
    go_enter Try.func34, Try.ntmps34
    go_upto_region 1 with (fail)
    generalize (w.alloc (.cells #[.int .i64 5, .int .i64 na, .int .i64 nb, .int .i64 nlo, .int .i64 nhi, .int .u64 (wd ncls 0), .int .u64 (wd ncls 1), .int .u64 (wd ncls 2), .int .u64 (wd ncls 3), .string (bs ntext)] 44)).alloc (.cells #[.int .i64 vk, .int .u8 ((vb.toNat : Nat) : Int), .string (bs vt), .int .i64 vp, .slice B ks.len cv] 27) = w1 at *
    obtain ⟨f0, f1, f2, f3, f4, f5, f6, f7, f8, f9⟩ := ten_cells HS0.out.who
    obtain ⟨b0, b1, b2, b3, b4⟩ := vl_cells HS0.out.bv
    go_wp2
    go_ret
    exact ⟨rfl, HS0.out.bel⟩
set_option maxHeartbeats 16000000 in
theorem visof_6 (na nb nlo nhi : Int) (ncls : BitVec 256) (ntext : List UInt8) : IsOfC ⟨6, na, nb, nlo, nhi, ncls, ntext⟩ := by
  intro v B cv w hv
  have HS0 := Lib.hid (IoS.new w ⟨6, na, nb, nlo, nhi, ncls, ntext⟩ v B cv)
  have HT : Hid (∀ w', Calls Try.prog 40 #[.agg (vlC v B cv)] w' (Ans w' (.bool (decide (toldP v))))) := fun w' => vtold_any v B cv w'
  have HHD : Hid (∀ w', Calls Try.prog 41 #[cls ncls, .int .u8 ((v.byte.toNat : Nat) : Int)] w' (Ans w' (.bool (ncls.getLsbD v.byte.toNat)))) := fun w' => has_any ncls v.byte.toNat v.byte.toNat_lt w'
  obtain ⟨vk, vb, vt, vp, ks⟩ := v
  unfold toldP at HT
  simp only at HT hv ⊢
  rw [vlC_five] at *
  unfold cls at HHD
  have HD : Hid (¬ (headV ⟨6, na, nb, nlo, nhi, ncls, ntext⟩ vk vb vt vp ks.len) → decide (headV ⟨6, na, nb, nlo, nhi, ncls, ntext⟩ vk vb vt vp ks.len) = false) := fun h => decide_eq_false h
  have HE : Hid ((headV ⟨6, na, nb, nlo, nhi, ncls, ntext⟩ vk vb vt vp ks.len) → decide (headV ⟨6, na, nb, nlo, nhi, ncls, ntext⟩ vk vb vt vp ks.len) = true) := fun h => decide_eq_true h
  generalize decide (headV ⟨6, na, nb, nlo, nhi, ncls, ntext⟩ vk vb vt vp ks.len) = r at *
  unfold headV at HD HE
  unfold ndC at HS0 ⊢
  simp only at HS0 HD HE HHD HT ⊢
  generalize ncls.getLsbD vb.toNat = hbit at *
  by_cases hk : vk = 6
  · have zk : (vk == 6) = true := by simp [hk]
    have zkn : (vk != 6) = false := by simp [hk]
    by_cases ht : (vk = 2 ∨ vb = 0) ∧ (vk = 3 ∨ vt = []) ∧ (vk = 5 ∨ vp = 0)
    · rw [decide_eq_true ht] at HT
      rw [HE.out (by simp_all <;> omega)]
      clear HD HE
      clear hk ht
      go_enter Try.func34, Try.ntmps34
      go_upto_region 1 with (fail)
      generalize (w.alloc (.cells #[.int .i64 6, .int .i64 na, .int .i64 nb, .int .i64 nlo, .int .i64 nhi, .int .u64 (wd ncls 0), .int .u64 (wd ncls 1), .int .u64 (wd ncls 2), .int .u64 (wd ncls 3), .string (bs ntext)] 44)).alloc (.cells #[.int .i64 vk, .int .u8 ((vb.toNat : Nat) : Int), .string (bs vt), .int .i64 vp, .slice B ks.len cv] 27) = w1 at *
      obtain ⟨f0, f1, f2, f3, f4, f5, f6, f7, f8, f9⟩ := ten_cells HS0.out.who
      obtain ⟨b0, b1, b2, b3, b4⟩ := vl_cells HS0.out.bv
      go_wp2_with fail
      refine (HT.out _).mono ?_; rintro e w2 ⟨rfl, hb⟩
      have HS2 := Lib.hid (HS0.out.later hb)
      clear hb f0 f1 f2 f3 f4 f5 f6 f7 f8 f9 b0 b1 b2 b3 b4 HT HS0
      obtain ⟨f0, f1, f2, f3, f4, f5, f6, f7, f8, f9⟩ := ten_cells HS2.out.who
      obtain ⟨b0, b1, b2, b3, b4⟩ := vl_cells HS2.out.bv
      go_wp2
      go_ret
      exact ⟨rfl, HS2.out.bel⟩
    · rw [decide_eq_false ht] at HT
      rw [HD.out (by simp_all <;> omega)]
      clear HD HE
      clear hk ht
      go_enter Try.func34, Try.ntmps34
      go_upto_region 1 with (fail)
      generalize (w.alloc (.cells #[.int .i64 6, .int .i64 na, .int .i64 nb, .int .i64 nlo, .int .i64 nhi, .int .u64 (wd ncls 0), .int .u64 (wd ncls 1), .int .u64 (wd ncls 2), .int .u64 (wd ncls 3), .string (bs ntext)] 44)).alloc (.cells #[.int .i64 vk, .int .u8 ((vb.toNat : Nat) : Int), .string (bs vt), .int .i64 vp, .slice B ks.len cv] 27) = w1 at *
      obtain ⟨f0, f1, f2, f3, f4, f5, f6, f7, f8, f9⟩ := ten_cells HS0.out.who
      obtain ⟨b0, b1, b2, b3, b4⟩ := vl_cells HS0.out.bv
      go_wp2_with fail
      refine (HT.out _).mono ?_; rintro e w2 ⟨rfl, hb⟩
      have HS2 := Lib.hid (HS0.out.later hb)
      clear hb f0 f1 f2 f3 f4 f5 f6 f7 f8 f9 b0 b1 b2 b3 b4 HT HS0
      obtain ⟨f0, f1, f2, f3, f4, f5, f6, f7, f8, f9⟩ := ten_cells HS2.out.who
      obtain ⟨b0, b1, b2, b3, b4⟩ := vl_cells HS2.out.bv
      go_wp2
      go_ret
      exact ⟨rfl, HS2.out.bel⟩
  · have zk : (vk == 6) = false := by rw [beq_eq_false_iff_ne]; exact hk
    have zkn : (vk != 6) = true := by simp [hk]
    rw [HD.out (fun h => hk h.1)]
    clear HD HE
    clear hk
    go_enter Try.func34, Try.ntmps34
    go_upto_region 1 with (fail)
    generalize (w.alloc (.cells #[.int .i64 6, .int .i64 na, .int .i64 nb, .int .i64 nlo, .int .i64 nhi, .int .u64 (wd ncls 0), .int .u64 (wd ncls 1), .int .u64 (wd ncls 2), .int .u64 (wd ncls 3), .string (bs ntext)] 44)).alloc (.cells #[.int .i64 vk, .int .u8 ((vb.toNat : Nat) : Int), .string (bs vt), .int .i64 vp, .slice B ks.len cv] 27) = w1 at *
    obtain ⟨f0, f1, f2, f3, f4, f5, f6, f7, f8, f9⟩ := ten_cells HS0.out.who
    obtain ⟨b0, b1, b2, b3, b4⟩ := vl_cells HS0.out.bv
    go_wp2
    go_ret
    exact ⟨rfl, HS0.out.bel⟩
set_option maxHeartbeats 16000000 in
theorem visof_7 (na nb nlo nhi : Int) (ncls : BitVec 256) (ntext : List UInt8) : IsOfC ⟨7, na, nb, nlo, nhi, ncls, ntext⟩ := by
  intro v B cv w hv
  have HS0 := Lib.hid (IoS.new w ⟨7, na, nb, nlo, nhi, ncls, ntext⟩ v B cv)
  have HT : Hid (∀ w', Calls Try.prog 40 #[.agg (vlC v B cv)] w' (Ans w' (.bool (decide (toldP v))))) := fun w' => vtold_any v B cv w'
  have HHD : Hid (∀ w', Calls Try.prog 41 #[cls ncls, .int .u8 ((v.byte.toNat : Nat) : Int)] w' (Ans w' (.bool (ncls.getLsbD v.byte.toNat)))) := fun w' => has_any ncls v.byte.toNat v.byte.toNat_lt w'
  obtain ⟨vk, vb, vt, vp, ks⟩ := v
  unfold toldP at HT
  simp only at HT hv ⊢
  rw [vlC_five] at *
  unfold cls at HHD
  have HD : Hid (¬ (headV ⟨7, na, nb, nlo, nhi, ncls, ntext⟩ vk vb vt vp ks.len) → decide (headV ⟨7, na, nb, nlo, nhi, ncls, ntext⟩ vk vb vt vp ks.len) = false) := fun h => decide_eq_false h
  have HE : Hid ((headV ⟨7, na, nb, nlo, nhi, ncls, ntext⟩ vk vb vt vp ks.len) → decide (headV ⟨7, na, nb, nlo, nhi, ncls, ntext⟩ vk vb vt vp ks.len) = true) := fun h => decide_eq_true h
  generalize decide (headV ⟨7, na, nb, nlo, nhi, ncls, ntext⟩ vk vb vt vp ks.len) = r at *
  unfold headV at HD HE
  unfold ndC at HS0 ⊢
  simp only at HS0 HD HE HHD HT ⊢
  generalize ncls.getLsbD vb.toNat = hbit at *
  by_cases hk : vk = 7
  · have zk : (vk == 7) = true := by simp [hk]
    have zkn : (vk != 7) = false := by simp [hk]
    by_cases ht : (vk = 2 ∨ vb = 0) ∧ (vk = 3 ∨ vt = []) ∧ (vk = 5 ∨ vp = 0)
    · rw [decide_eq_true ht] at HT
      by_cases hc0 : nlo ≤ (ks.len : Int)
      · have zl : nlo ≤ (ks.len : Int) := hc0
        have zl2 : decide (nlo ≤ (ks.len : Int)) = true := decide_eq_true hc0
        by_cases hc1 : (ks.len : Int) ≤ nhi
        · have zh : (ks.len : Int) ≤ nhi := hc1
          have zh2 : decide ((ks.len : Int) ≤ nhi) = true := decide_eq_true hc1
          rw [HE.out (by simp_all <;> omega)]
          clear HD HE
          clear hc0 hc1 hk ht
          go_enter Try.func34, Try.ntmps34
          go_upto_region 1 with (fail)
          generalize (w.alloc (.cells #[.int .i64 7, .int .i64 na, .int .i64 nb, .int .i64 nlo, .int .i64 nhi, .int .u64 (wd ncls 0), .int .u64 (wd ncls 1), .int .u64 (wd ncls 2), .int .u64 (wd ncls 3), .string (bs ntext)] 44)).alloc (.cells #[.int .i64 vk, .int .u8 ((vb.toNat : Nat) : Int), .string (bs vt), .int .i64 vp, .slice B ks.len cv] 27) = w1 at *
          obtain ⟨f0, f1, f2, f3, f4, f5, f6, f7, f8, f9⟩ := ten_cells HS0.out.who
          obtain ⟨b0, b1, b2, b3, b4⟩ := vl_cells HS0.out.bv
          go_wp2_with fail
          refine (HT.out _).mono ?_; rintro e w2 ⟨rfl, hb⟩
          have HS2 := Lib.hid (HS0.out.later hb)
          clear hb f0 f1 f2 f3 f4 f5 f6 f7 f8 f9 b0 b1 b2 b3 b4 HT HS0
          obtain ⟨f0, f1, f2, f3, f4, f5, f6, f7, f8, f9⟩ := ten_cells HS2.out.who
          obtain ⟨b0, b1, b2, b3, b4⟩ := vl_cells HS2.out.bv
          go_wp2
          go_ret
          exact ⟨rfl, HS2.out.bel⟩
        · have zh : ¬ (ks.len : Int) ≤ nhi := hc1
          have zh2 : decide ((ks.len : Int) ≤ nhi) = false := decide_eq_false hc1
          rw [HD.out (by simp_all <;> omega)]
          clear HD HE
          clear hc0 hc1 hk ht
          go_enter Try.func34, Try.ntmps34
          go_upto_region 1 with (fail)
          generalize (w.alloc (.cells #[.int .i64 7, .int .i64 na, .int .i64 nb, .int .i64 nlo, .int .i64 nhi, .int .u64 (wd ncls 0), .int .u64 (wd ncls 1), .int .u64 (wd ncls 2), .int .u64 (wd ncls 3), .string (bs ntext)] 44)).alloc (.cells #[.int .i64 vk, .int .u8 ((vb.toNat : Nat) : Int), .string (bs vt), .int .i64 vp, .slice B ks.len cv] 27) = w1 at *
          obtain ⟨f0, f1, f2, f3, f4, f5, f6, f7, f8, f9⟩ := ten_cells HS0.out.who
          obtain ⟨b0, b1, b2, b3, b4⟩ := vl_cells HS0.out.bv
          go_wp2_with fail
          refine (HT.out _).mono ?_; rintro e w2 ⟨rfl, hb⟩
          have HS2 := Lib.hid (HS0.out.later hb)
          clear hb f0 f1 f2 f3 f4 f5 f6 f7 f8 f9 b0 b1 b2 b3 b4 HT HS0
          obtain ⟨f0, f1, f2, f3, f4, f5, f6, f7, f8, f9⟩ := ten_cells HS2.out.who
          obtain ⟨b0, b1, b2, b3, b4⟩ := vl_cells HS2.out.bv
          go_wp2
          go_ret
          exact ⟨rfl, HS2.out.bel⟩
      · have zl : ¬ nlo ≤ (ks.len : Int) := hc0
        have zl2 : decide (nlo ≤ (ks.len : Int)) = false := decide_eq_false hc0
        rw [HD.out (by simp_all <;> omega)]
        clear HD HE
        clear hc0 hk ht
        go_enter Try.func34, Try.ntmps34
        go_upto_region 1 with (fail)
        generalize (w.alloc (.cells #[.int .i64 7, .int .i64 na, .int .i64 nb, .int .i64 nlo, .int .i64 nhi, .int .u64 (wd ncls 0), .int .u64 (wd ncls 1), .int .u64 (wd ncls 2), .int .u64 (wd ncls 3), .string (bs ntext)] 44)).alloc (.cells #[.int .i64 vk, .int .u8 ((vb.toNat : Nat) : Int), .string (bs vt), .int .i64 vp, .slice B ks.len cv] 27) = w1 at *
        obtain ⟨f0, f1, f2, f3, f4, f5, f6, f7, f8, f9⟩ := ten_cells HS0.out.who
        obtain ⟨b0, b1, b2, b3, b4⟩ := vl_cells HS0.out.bv
        go_wp2_with fail
        refine (HT.out _).mono ?_; rintro e w2 ⟨rfl, hb⟩
        have HS2 := Lib.hid (HS0.out.later hb)
        clear hb f0 f1 f2 f3 f4 f5 f6 f7 f8 f9 b0 b1 b2 b3 b4 HT HS0
        obtain ⟨f0, f1, f2, f3, f4, f5, f6, f7, f8, f9⟩ := ten_cells HS2.out.who
        obtain ⟨b0, b1, b2, b3, b4⟩ := vl_cells HS2.out.bv
        go_wp2
        go_ret
        exact ⟨rfl, HS2.out.bel⟩
    · rw [decide_eq_false ht] at HT
      rw [HD.out (by simp_all <;> omega)]
      clear HD HE
      clear hk ht
      go_enter Try.func34, Try.ntmps34
      go_upto_region 1 with (fail)
      generalize (w.alloc (.cells #[.int .i64 7, .int .i64 na, .int .i64 nb, .int .i64 nlo, .int .i64 nhi, .int .u64 (wd ncls 0), .int .u64 (wd ncls 1), .int .u64 (wd ncls 2), .int .u64 (wd ncls 3), .string (bs ntext)] 44)).alloc (.cells #[.int .i64 vk, .int .u8 ((vb.toNat : Nat) : Int), .string (bs vt), .int .i64 vp, .slice B ks.len cv] 27) = w1 at *
      obtain ⟨f0, f1, f2, f3, f4, f5, f6, f7, f8, f9⟩ := ten_cells HS0.out.who
      obtain ⟨b0, b1, b2, b3, b4⟩ := vl_cells HS0.out.bv
      go_wp2_with fail
      refine (HT.out _).mono ?_; rintro e w2 ⟨rfl, hb⟩
      have HS2 := Lib.hid (HS0.out.later hb)
      clear hb f0 f1 f2 f3 f4 f5 f6 f7 f8 f9 b0 b1 b2 b3 b4 HT HS0
      obtain ⟨f0, f1, f2, f3, f4, f5, f6, f7, f8, f9⟩ := ten_cells HS2.out.who
      obtain ⟨b0, b1, b2, b3, b4⟩ := vl_cells HS2.out.bv
      go_wp2
      go_ret
      exact ⟨rfl, HS2.out.bel⟩
  · have zk : (vk == 7) = false := by rw [beq_eq_false_iff_ne]; exact hk
    have zkn : (vk != 7) = true := by simp [hk]
    rw [HD.out (fun h => hk h.1)]
    clear HD HE
    clear hk
    go_enter Try.func34, Try.ntmps34
    go_upto_region 1 with (fail)
    generalize (w.alloc (.cells #[.int .i64 7, .int .i64 na, .int .i64 nb, .int .i64 nlo, .int .i64 nhi, .int .u64 (wd ncls 0), .int .u64 (wd ncls 1), .int .u64 (wd ncls 2), .int .u64 (wd ncls 3), .string (bs ntext)] 44)).alloc (.cells #[.int .i64 vk, .int .u8 ((vb.toNat : Nat) : Int), .string (bs vt), .int .i64 vp, .slice B ks.len cv] 27) = w1 at *
    obtain ⟨f0, f1, f2, f3, f4, f5, f6, f7, f8, f9⟩ := ten_cells HS0.out.who
    obtain ⟨b0, b1, b2, b3, b4⟩ := vl_cells HS0.out.bv
    go_wp2
    go_ret
    exact ⟨rfl, HS0.out.bel⟩
set_option maxHeartbeats 16000000 in
theorem visof_8 (na nb nlo nhi : Int) (ncls : BitVec 256) (ntext : List UInt8) : IsOfC ⟨8, na, nb, nlo, nhi, ncls, ntext⟩ := by
  intro v B cv w hv
  have HS0 := Lib.hid (IoS.new w ⟨8, na, nb, nlo, nhi, ncls, ntext⟩ v B cv)
  have HT : Hid (∀ w', Calls Try.prog 40 #[.agg (vlC v B cv)] w' (Ans w' (.bool (decide (toldP v))))) := fun w' => vtold_any v B cv w'
  have HHD : Hid (∀ w', Calls Try.prog 41 #[cls ncls, .int .u8 ((v.byte.toNat : Nat) : Int)] w' (Ans w' (.bool (ncls.getLsbD v.byte.toNat)))) := fun w' => has_any ncls v.byte.toNat v.byte.toNat_lt w'
  obtain ⟨vk, vb, vt, vp, ks⟩ := v
  unfold toldP at HT
  simp only at HT hv ⊢
  rw [vlC_five] at *
  unfold cls at HHD
  have HD : Hid (¬ (headV ⟨8, na, nb, nlo, nhi, ncls, ntext⟩ vk vb vt vp ks.len) → decide (headV ⟨8, na, nb, nlo, nhi, ncls, ntext⟩ vk vb vt vp ks.len) = false) := fun h => decide_eq_false h
  have HE : Hid ((headV ⟨8, na, nb, nlo, nhi, ncls, ntext⟩ vk vb vt vp ks.len) → decide (headV ⟨8, na, nb, nlo, nhi, ncls, ntext⟩ vk vb vt vp ks.len) = true) := fun h => decide_eq_true h
  generalize decide (headV ⟨8, na, nb, nlo, nhi, ncls, ntext⟩ vk vb vt vp ks.len) = r at *
  unfold headV at HD HE
  unfold ndC at HS0 ⊢
  simp only at HS0 HD HE HHD HT ⊢
  generalize ncls.getLsbD vb.toNat = hbit at *
  by_cases hk : vk = 8
  · have zk : (vk == 8) = true := by simp [hk]
    have zkn : (vk != 8) = false := by simp [hk]
    by_cases ht : (vk = 2 ∨ vb = 0) ∧ (vk = 3 ∨ vt = []) ∧ (vk = 5 ∨ vp = 0)
    · rw [decide_eq_true ht] at HT
      by_cases hc0 : ks.len = 1
      · have zc : (((ks.len : Nat) : Int) == 1) = true := by rw [hc0]; rfl
        rw [HE.out (by simp_all <;> omega)]
        clear HD HE
        clear hc0 hk ht
        go_enter Try.func34, Try.ntmps34
        go_upto_region 1 with (fail)
        generalize (w.alloc (.cells #[.int .i64 8, .int .i64 na, .int .i64 nb, .int .i64 nlo, .int .i64 nhi, .int .u64 (wd ncls 0), .int .u64 (wd ncls 1), .int .u64 (wd ncls 2), .int .u64 (wd ncls 3), .string (bs ntext)] 44)).alloc (.cells #[.int .i64 vk, .int .u8 ((vb.toNat : Nat) : Int), .string (bs vt), .int .i64 vp, .slice B ks.len cv] 27) = w1 at *
        obtain ⟨f0, f1, f2, f3, f4, f5, f6, f7, f8, f9⟩ := ten_cells HS0.out.who
        obtain ⟨b0, b1, b2, b3, b4⟩ := vl_cells HS0.out.bv
        go_wp2_with fail
        refine (HT.out _).mono ?_; rintro e w2 ⟨rfl, hb⟩
        have HS2 := Lib.hid (HS0.out.later hb)
        clear hb f0 f1 f2 f3 f4 f5 f6 f7 f8 f9 b0 b1 b2 b3 b4 HT HS0
        obtain ⟨f0, f1, f2, f3, f4, f5, f6, f7, f8, f9⟩ := ten_cells HS2.out.who
        obtain ⟨b0, b1, b2, b3, b4⟩ := vl_cells HS2.out.bv
        go_wp2
        go_ret
        exact ⟨rfl, HS2.out.bel⟩
      · have zc : (((ks.len : Nat) : Int) == 1) = false := by rw [beq_eq_false_iff_ne]; omega
        rw [HD.out (by simp_all <;> omega)]
        clear HD HE
        clear hc0 hk ht
        go_enter Try.func34, Try.ntmps34
        go_upto_region 1 with (fail)
        generalize (w.alloc (.cells #[.int .i64 8, .int .i64 na, .int .i64 nb, .int .i64 nlo, .int .i64 nhi, .int .u64 (wd ncls 0), .int .u64 (wd ncls 1), .int .u64 (wd ncls 2), .int .u64 (wd ncls 3), .string (bs ntext)] 44)).alloc (.cells #[.int .i64 vk, .int .u8 ((vb.toNat : Nat) : Int), .string (bs vt), .int .i64 vp, .slice B ks.len cv] 27) = w1 at *
        obtain ⟨f0, f1, f2, f3, f4, f5, f6, f7, f8, f9⟩ := ten_cells HS0.out.who
        obtain ⟨b0, b1, b2, b3, b4⟩ := vl_cells HS0.out.bv
        go_wp2_with fail
        refine (HT.out _).mono ?_; rintro e w2 ⟨rfl, hb⟩
        have HS2 := Lib.hid (HS0.out.later hb)
        clear hb f0 f1 f2 f3 f4 f5 f6 f7 f8 f9 b0 b1 b2 b3 b4 HT HS0
        obtain ⟨f0, f1, f2, f3, f4, f5, f6, f7, f8, f9⟩ := ten_cells HS2.out.who
        obtain ⟨b0, b1, b2, b3, b4⟩ := vl_cells HS2.out.bv
        go_wp2
        go_ret
        exact ⟨rfl, HS2.out.bel⟩
    · rw [decide_eq_false ht] at HT
      rw [HD.out (by simp_all <;> omega)]
      clear HD HE
      clear hk ht
      go_enter Try.func34, Try.ntmps34
      go_upto_region 1 with (fail)
      generalize (w.alloc (.cells #[.int .i64 8, .int .i64 na, .int .i64 nb, .int .i64 nlo, .int .i64 nhi, .int .u64 (wd ncls 0), .int .u64 (wd ncls 1), .int .u64 (wd ncls 2), .int .u64 (wd ncls 3), .string (bs ntext)] 44)).alloc (.cells #[.int .i64 vk, .int .u8 ((vb.toNat : Nat) : Int), .string (bs vt), .int .i64 vp, .slice B ks.len cv] 27) = w1 at *
      obtain ⟨f0, f1, f2, f3, f4, f5, f6, f7, f8, f9⟩ := ten_cells HS0.out.who
      obtain ⟨b0, b1, b2, b3, b4⟩ := vl_cells HS0.out.bv
      go_wp2_with fail
      refine (HT.out _).mono ?_; rintro e w2 ⟨rfl, hb⟩
      have HS2 := Lib.hid (HS0.out.later hb)
      clear hb f0 f1 f2 f3 f4 f5 f6 f7 f8 f9 b0 b1 b2 b3 b4 HT HS0
      obtain ⟨f0, f1, f2, f3, f4, f5, f6, f7, f8, f9⟩ := ten_cells HS2.out.who
      obtain ⟨b0, b1, b2, b3, b4⟩ := vl_cells HS2.out.bv
      go_wp2
      go_ret
      exact ⟨rfl, HS2.out.bel⟩
  · have zk : (vk == 8) = false := by rw [beq_eq_false_iff_ne]; exact hk
    have zkn : (vk != 8) = true := by simp [hk]
    rw [HD.out (fun h => hk h.1)]
    clear HD HE
    clear hk
    go_enter Try.func34, Try.ntmps34
    go_upto_region 1 with (fail)
    generalize (w.alloc (.cells #[.int .i64 8, .int .i64 na, .int .i64 nb, .int .i64 nlo, .int .i64 nhi, .int .u64 (wd ncls 0), .int .u64 (wd ncls 1), .int .u64 (wd ncls 2), .int .u64 (wd ncls 3), .string (bs ntext)] 44)).alloc (.cells #[.int .i64 vk, .int .u8 ((vb.toNat : Nat) : Int), .string (bs vt), .int .i64 vp, .slice B ks.len cv] 27) = w1 at *
    obtain ⟨f0, f1, f2, f3, f4, f5, f6, f7, f8, f9⟩ := ten_cells HS0.out.who
    obtain ⟨b0, b1, b2, b3, b4⟩ := vl_cells HS0.out.bv
    go_wp2
    go_ret
    exact ⟨rfl, HS0.out.bel⟩
set_option maxHeartbeats 16000000 in
theorem visof_9 (na nb nlo nhi : Int) (ncls : BitVec 256) (ntext : List UInt8) : IsOfC ⟨9, na, nb, nlo, nhi, ncls, ntext⟩ := by
  intro v B cv w hv
  have HS0 := Lib.hid (IoS.new w ⟨9, na, nb, nlo, nhi, ncls, ntext⟩ v B cv)
  have HT : Hid (∀ w', Calls Try.prog 40 #[.agg (vlC v B cv)] w' (Ans w' (.bool (decide (toldP v))))) := fun w' => vtold_any v B cv w'
  have HHD : Hid (∀ w', Calls Try.prog 41 #[cls ncls, .int .u8 ((v.byte.toNat : Nat) : Int)] w' (Ans w' (.bool (ncls.getLsbD v.byte.toNat)))) := fun w' => has_any ncls v.byte.toNat v.byte.toNat_lt w'
  obtain ⟨vk, vb, vt, vp, ks⟩ := v
  unfold toldP at HT
  simp only at HT hv ⊢
  rw [vlC_five] at *
  unfold cls at HHD
  have HD : Hid (¬ (headV ⟨9, na, nb, nlo, nhi, ncls, ntext⟩ vk vb vt vp ks.len) → decide (headV ⟨9, na, nb, nlo, nhi, ncls, ntext⟩ vk vb vt vp ks.len) = false) := fun h => decide_eq_false h
  have HE : Hid ((headV ⟨9, na, nb, nlo, nhi, ncls, ntext⟩ vk vb vt vp ks.len) → decide (headV ⟨9, na, nb, nlo, nhi, ncls, ntext⟩ vk vb vt vp ks.len) = true) := fun h => decide_eq_true h
  generalize decide (headV ⟨9, na, nb, nlo, nhi, ncls, ntext⟩ vk vb vt vp ks.len) = r at *
  unfold headV at HD HE
  unfold ndC at HS0 ⊢
  simp only at HS0 HD HE HHD HT ⊢
  generalize ncls.getLsbD vb.toNat = hbit at *
  by_cases hk : vk = 9
  · have zk : (vk == 9) = true := by simp [hk]
    have zkn : (vk != 9) = false := by simp [hk]
    by_cases ht : (vk = 2 ∨ vb = 0) ∧ (vk = 3 ∨ vt = []) ∧ (vk = 5 ∨ vp = 0)
    · rw [decide_eq_true ht] at HT
      by_cases hc0 : ks.len = 1
      · have zc : (((ks.len : Nat) : Int) == 1) = true := by rw [hc0]; rfl
        rw [HE.out (by simp_all <;> omega)]
        clear HD HE
        clear hc0 hk ht
        go_enter Try.func34, Try.ntmps34
        go_upto_region 1 with (fail)
        generalize (w.alloc (.cells #[.int .i64 9, .int .i64 na, .int .i64 nb, .int .i64 nlo, .int .i64 nhi, .int .u64 (wd ncls 0), .int .u64 (wd ncls 1), .int .u64 (wd ncls 2), .int .u64 (wd ncls 3), .string (bs ntext)] 44)).alloc (.cells #[.int .i64 vk, .int .u8 ((vb.toNat : Nat) : Int), .string (bs vt), .int .i64 vp, .slice B ks.len cv] 27) = w1 at *
        obtain ⟨f0, f1, f2, f3, f4, f5, f6, f7, f8, f9⟩ := ten_cells HS0.out.who
        obtain ⟨b0, b1, b2, b3, b4⟩ := vl_cells HS0.out.bv
        go_wp2_with fail
        refine (HT.out _).mono ?_; rintro e w2 ⟨rfl, hb⟩
        have HS2 := Lib.hid (HS0.out.later hb)
        clear hb f0 f1 f2 f3 f4 f5 f6 f7 f8 f9 b0 b1 b2 b3 b4 HT HS0
        obtain ⟨f0, f1, f2, f3, f4, f5, f6, f7, f8, f9⟩ := ten_cells HS2.out.who
        obtain ⟨b0, b1, b2, b3, b4⟩ := vl_cells HS2.out.bv
        go_wp2
        go_ret
        exact ⟨rfl, HS2.out.bel⟩
      · have zc : (((ks.len : Nat) : Int) == 1) = false := by rw [beq_eq_false_iff_ne]; omega
        rw [HD.out (by simp_all <;> omega)]
        clear HD HE
        clear hc0 hk ht
        go_enter Try.func34, Try.ntmps34
        go_upto_region 1 with (fail)
        generalize (w.alloc (.cells #[.int .i64 9, .int .i64 na, .int .i64 nb, .int .i64 nlo, .int .i64 nhi, .int .u64 (wd ncls 0), .int .u64 (wd ncls 1), .int .u64 (wd ncls 2), .int .u64 (wd ncls 3), .string (bs ntext)] 44)).alloc (.cells #[.int .i64 vk, .int .u8 ((vb.toNat : Nat) : Int), .string (bs vt), .int .i64 vp, .slice B ks.len cv] 27) = w1 at *
        obtain ⟨f0, f1, f2, f3, f4, f5, f6, f7, f8, f9⟩ := ten_cells HS0.out.who
        obtain ⟨b0, b1, b2, b3, b4⟩ := vl_cells HS0.out.bv
        go_wp2_with fail
        refine (HT.out _).mono ?_; rintro e w2 ⟨rfl, hb⟩
        have HS2 := Lib.hid (HS0.out.later hb)
        clear hb f0 f1 f2 f3 f4 f5 f6 f7 f8 f9 b0 b1 b2 b3 b4 HT HS0
        obtain ⟨f0, f1, f2, f3, f4, f5, f6, f7, f8, f9⟩ := ten_cells HS2.out.who
        obtain ⟨b0, b1, b2, b3, b4⟩ := vl_cells HS2.out.bv
        go_wp2
        go_ret
        exact ⟨rfl, HS2.out.bel⟩
    · rw [decide_eq_false ht] at HT
      rw [HD.out (by simp_all <;> omega)]
      clear HD HE
      clear hk ht
      go_enter Try.func34, Try.ntmps34
      go_upto_region 1 with (fail)
      generalize (w.alloc (.cells #[.int .i64 9, .int .i64 na, .int .i64 nb, .int .i64 nlo, .int .i64 nhi, .int .u64 (wd ncls 0), .int .u64 (wd ncls 1), .int .u64 (wd ncls 2), .int .u64 (wd ncls 3), .string (bs ntext)] 44)).alloc (.cells #[.int .i64 vk, .int .u8 ((vb.toNat : Nat) : Int), .string (bs vt), .int .i64 vp, .slice B ks.len cv] 27) = w1 at *
      obtain ⟨f0, f1, f2, f3, f4, f5, f6, f7, f8, f9⟩ := ten_cells HS0.out.who
      obtain ⟨b0, b1, b2, b3, b4⟩ := vl_cells HS0.out.bv
      go_wp2_with fail
      refine (HT.out _).mono ?_; rintro e w2 ⟨rfl, hb⟩
      have HS2 := Lib.hid (HS0.out.later hb)
      clear hb f0 f1 f2 f3 f4 f5 f6 f7 f8 f9 b0 b1 b2 b3 b4 HT HS0
      obtain ⟨f0, f1, f2, f3, f4, f5, f6, f7, f8, f9⟩ := ten_cells HS2.out.who
      obtain ⟨b0, b1, b2, b3, b4⟩ := vl_cells HS2.out.bv
      go_wp2
      go_ret
      exact ⟨rfl, HS2.out.bel⟩
  · have zk : (vk == 9) = false := by rw [beq_eq_false_iff_ne]; exact hk
    have zkn : (vk != 9) = true := by simp [hk]
    rw [HD.out (fun h => hk h.1)]
    clear HD HE
    clear hk
    go_enter Try.func34, Try.ntmps34
    go_upto_region 1 with (fail)
    generalize (w.alloc (.cells #[.int .i64 9, .int .i64 na, .int .i64 nb, .int .i64 nlo, .int .i64 nhi, .int .u64 (wd ncls 0), .int .u64 (wd ncls 1), .int .u64 (wd ncls 2), .int .u64 (wd ncls 3), .string (bs ntext)] 44)).alloc (.cells #[.int .i64 vk, .int .u8 ((vb.toNat : Nat) : Int), .string (bs vt), .int .i64 vp, .slice B ks.len cv] 27) = w1 at *
    obtain ⟨f0, f1, f2, f3, f4, f5, f6, f7, f8, f9⟩ := ten_cells HS0.out.who
    obtain ⟨b0, b1, b2, b3, b4⟩ := vl_cells HS0.out.bv
    go_wp2
    go_ret
    exact ⟨rfl, HS0.out.bel⟩
theorem visof_any (n : Nd) (h1 : 1 ≤ n.kind) (h9 : n.kind ≤ 9) : IsOfC n := by
  obtain ⟨nk, na, nb, nlo, nhi, ncls, ntext⟩ := n
  simp only at h1 h9
  rcases (by omega : nk = 1 ∨ nk = 2 ∨ nk = 3 ∨ nk = 4 ∨ nk = 5 ∨ nk = 6 ∨ nk = 7 ∨ nk = 8 ∨ nk = 9) with rfl | rfl | rfl | rfl | rfl | rfl | rfl | rfl | rfl
  · exact visof_1 na nb nlo nhi ncls ntext
  · exact visof_2 na nb nlo nhi ncls ntext
  · exact visof_3 na nb nlo nhi ncls ntext
  · exact visof_4 na nb nlo nhi ncls ntext
  · exact visof_5 na nb nlo nhi ncls ntext
  · exact visof_6 na nb nlo nhi ncls ntext
  · exact visof_7 na nb nlo nhi ncls ntext
  · exact visof_8 na nb nlo nhi ncls ntext
  · exact visof_9 na nb nlo nhi ncls ntext
end Go.Proofs.Ytgdlbahfmddkaaa
