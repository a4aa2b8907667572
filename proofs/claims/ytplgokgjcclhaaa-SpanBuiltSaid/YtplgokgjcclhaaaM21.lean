/- Spans: a class, a part, a star, a repeat, a frame: walked. -/
import Derived.Test.YtplgokgjcclhaaaM20
namespace Go.Proofs.Ytplgokgjcclhaaa
open Go Go.RowKit
set_option linter.unusedVariables false
set_option linter.unusedSimpArgs false
set_option maxRecDepth 100000
set_option maxHeartbeats 16000000

theorem eql_cls0 (c : BitVec 256) (w : World) : (binOp .eql 40 (.agg #[.int .u64 (wd c 0), .int .u64 (wd c 1), .int .u64 (wd c 2), .int .u64 (wd c 3)]) (.agg #[.int .u64 0, .int .u64 0, .int .u64 0, .int .u64 0])).run Try.prog w = .ok (.bool (decide (c = 0))) w := by
  have h := equalIn_cls 9998 c 0 w
  obtain ⟨z0, z1, z2, z3⟩ := zcls
  unfold cls at h
  rw [show (0 : BitVec 256) = 0#256 from rfl, z0, z1, z2, z3] at h
  have h' : (Op.equal 40 (.agg #[.int .u64 (wd c 0), .int .u64 (wd c 1), .int .u64 (wd c 2), .int .u64 (wd c 3)]) (.agg #[.int .u64 0, .int .u64 0, .int .u64 0, .int .u64 0])).run Try.prog w = .ok (c == 0#256) w := h
  simp only [binOp]
  simp [h']
  by_cases e : c = 0#256 <;> simp [e]
theorem eqGuard_cls0 (o1 o2 : Operand) (a b c d : Int) (w : World) : (eqGuard .eql 40 o1 o2 (.agg #[.int .u64 a, .int .u64 b, .int .u64 c, .int .u64 d]) (.agg #[.int .u64 0, .int .u64 0, .int .u64 0, .int .u64 0])).run Try.prog w = .ok () w := by
  simp [eqGuard, go_sem]
/-- A span of a class. -/
def clsS (c : BitVec 256) : Int := if c = 0 then -1 else 1
theorem sclass_any (c : BitVec 256) (w : World) : Calls Try.prog 26 #[.agg #[.int .u64 (wd c 0), .int .u64 (wd c 1), .int .u64 (wd c 2), .int .u64 (wd c 3)]] w (Ans w (.agg #[.int .i64 (clsS c), .int .i64 (clsS c)])) := by
  have E1 := fun w => eql_cls0 c w
  have G1 := fun o1 o2 w => eqGuard_cls0 o1 o2 (wd c 0) (wd c 1) (wd c 2) (wd c 3) w
  have CN : Hid (∀ w', Calls Try.prog 33 #[] w' (Ans w' (.agg #[.int .i64 (-1), .int .i64 (-1)]))) := fun w' => snothing_any w'
  have HB0 := Lib.hid (((Below.refl w.heap.size w).alloc (Nat.le_refl _) (.cells #[.int .u64 (wd c 0), .int .u64 (wd c 1), .int .u64 (wd c 2), .int .u64 (wd c 3)] 40)).alloc (by simp) (.cells #[.int .i64 0, .int .i64 0] 48))
  have HC0 := Lib.hid ((Blk.new w #[.int .u64 (wd c 0), .int .u64 (wd c 1), .int .u64 (wd c 2), .int .u64 (wd c 3)] 40).alloc (.cells #[.int .i64 0, .int .i64 0] 48))
  have HK0 := Lib.hid (Blk.new' (w := w.alloc (.cells #[.int .u64 (wd c 0), .int .u64 (wd c 1), .int .u64 (wd c 2), .int .u64 (wd c 3)] 40)) (b := w.heap.size + 1) (by simp) #[.int .i64 0, .int .i64 0] 48)
  by_cases h : c = 0
  · have e : clsS c = -1 := by unfold clsS; rw [if_pos h]
    rw [decide_eq_true h] at E1
    rw [e]
    clear h e
    generalize wd c 0 = c0 at *
    generalize wd c 1 = c1 at *
    generalize wd c 2 = c2 at *
    generalize wd c 3 = c3 at *
    go_enter Try.func26, Try.ntmps26
    go_upto_region 1 with (fail)
    generalize (w.alloc (.cells #[.int .u64 c0, .int .u64 c1, .int .u64 c2, .int .u64 c3] 40)).alloc (.cells #[.int .i64 0, .int .i64 0] 48) = w1 at *
    have d0 := HC0.out.cell 0
    have d1 := HC0.out.cell 1
    have d2 := HC0.out.cell 2
    have d3 := HC0.out.cell 3
    simp at d0 d1 d2 d3
    go_wp2_with fail
    refine (CN.out _).mono ?_; rintro e w2 ⟨rfl, hb⟩
    have HB2 := Lib.hid (HB0.out.trans (hb.mono HB0.out.size))
    have HK2 := Lib.hid (HK0.out.later hb)
    clear hb HB0 HK0
    have f0 := HK2.out.frozen 0
    have f1 := HK2.out.frozen 1
    have r0 := HK2.out.cell 0
    have r1 := HK2.out.cell 1
    simp at r0 r1
    have HR := Lib.hid (HK2.out.both (.int .i64 (-1)) (.int .i64 (-1)))
    have HB := Lib.hid (bel_both HB2.out (b := w.heap.size + 1) (by omega) (.int .i64 (-1)) (.int .i64 (-1)))
    go_wp2
    have s0 := HR.out.cell 0
    have s1 := HR.out.cell 1
    simp at s0 s1
    exact bodyPost_ret (v := .agg #[.int .i64 (-1), .int .i64 (-1)]) (by simp [results, Try.results26, go_sem, s0, s1]) rfl ⟨by rfl, HB.out⟩
  · have e : clsS c = 1 := by unfold clsS; rw [if_neg h]
    rw [decide_eq_false h] at E1
    rw [e]
    clear h e
    generalize wd c 0 = c0 at *
    generalize wd c 1 = c1 at *
    generalize wd c 2 = c2 at *
    generalize wd c 3 = c3 at *
    go_enter Try.func26, Try.ntmps26
    go_upto_region 1 with (fail)
    generalize (w.alloc (.cells #[.int .u64 c0, .int .u64 c1, .int .u64 c2, .int .u64 c3] 40)).alloc (.cells #[.int .i64 0, .int .i64 0] 48) = w1 at *
    have d0 := HC0.out.cell 0
    have d1 := HC0.out.cell 1
    have d2 := HC0.out.cell 2
    have d3 := HC0.out.cell 3
    simp at d0 d1 d2 d3
    have f0 := HK0.out.frozen 0
    have f1 := HK0.out.frozen 1
    have r0 := HK0.out.cell 0
    have r1 := HK0.out.cell 1
    simp at r0 r1
    have HR := Lib.hid (HK0.out.both (.int .i64 1) (.int .i64 1))
    have HB := Lib.hid (bel_both HB0.out (b := w.heap.size + 1) (by omega) (.int .i64 1) (.int .i64 1))
    go_wp2
    have s0 := HR.out.cell 0
    have s1 := HR.out.cell 1
    simp at s0 s1
    exact bodyPost_ret (v := .agg #[.int .i64 1, .int .i64 1]) (by simp [results, Try.results26, go_sem, s0, s1]) rfl ⟨by rfl, HB.out⟩
theorem pairS_good {S : List Spn} (h : ∀ p ∈ S, SpG p) (a : Int) : SpG (pairS S a) := by
  unfold pairS
  split
  · rename_i hh
    have hk : a.toNat < S.length := by omega
    rw [List.getD_eq_getElem?_getD, List.getElem?_eq_getElem hk]
    exact h _ (List.getElem_mem hk)
  · exact ⟨.inl ⟨rfl, rfl⟩, by decide, by decide⟩
theorem spart_any (S : List Spn) (a : Int) (A : Option Addr) (c : Nat) (w : World) (hrow : SRow w A S) :
    Calls Try.prog 25 #[.slice A S.length c, .int .i64 a] w (Ans w (.agg #[.int .i64 (pairS S a).1, .int .i64 (pairS S a).2])) := by
  have HB0 := Lib.hid ((Below.refl w.heap.size w).alloc (Nat.le_refl _) (.cells #[.int .i64 0, .int .i64 0] 48))
  have HK0 := Lib.hid (Blk.new w #[.int .i64 0, .int .i64 0] 48)
  have CN : Hid (∀ w', Calls Try.prog 33 #[] w' (Ans w' (.agg #[.int .i64 (-1), .int .i64 (-1)]))) := fun w' => snothing_any w'
  by_cases h0 : a < 0
  ·
    have e : pairS S a = (-1, -1) := by unfold pairS; rw [if_neg (by omega)]
    rw [e]
    go_enter Try.func25, Try.ntmps25
    go_upto_region 1 with (fail)
    generalize w.alloc (.cells #[.int .i64 0, .int .i64 0] 48) = w1 at *
    go_wp2_with fail
    refine (CN.out _).mono ?_; rintro e w2 ⟨rfl, hb⟩
    have HB2 := Lib.hid (HB0.out.trans (hb.mono HB0.out.size))
    have HK2 := Lib.hid (HK0.out.later hb)
    clear hb HB0 HK0
    have f0 := HK2.out.frozen 0
    have f1 := HK2.out.frozen 1
    have r0 := HK2.out.cell 0
    have r1 := HK2.out.cell 1
    simp at r0 r1
    have HR := Lib.hid (HK2.out.both (.int .i64 (-1)) (.int .i64 (-1)))
    have HB := Lib.hid (bel_both HB2.out (b := w.heap.size) (Nat.le_refl _) (.int .i64 (-1)) (.int .i64 (-1)))
    go_wp2
    have s0 := HR.out.cell 0
    have s1 := HR.out.cell 1
    simp at s0 s1
    exact bodyPost_ret (v := .agg #[.int .i64 (-1), .int .i64 (-1)]) (by simp [results, Try.results25, go_sem, s0, s1]) rfl ⟨by rfl, HB.out⟩
  · by_cases h1 : a < (S.length : Int)
    · obtain ⟨k, rfl⟩ : ∃ k : Nat, a = (k : Int) := ⟨a.toNat, by omega⟩
      have hk : k < S.length := by omega
      have e : pairS S (k : Int) = S.getD k sp0 := by unfold pairS; rw [if_pos (by omega)]; rfl
      rw [e]
      obtain ⟨b, off, rfl, hlt, -⟩ := hrow.two hk
      obtain ⟨b2, off2, hbo, -, hc0, hc1⟩ := (hrow.later HB0.out).two hk
      cases hbo
      generalize S.getD k sp0 = x at *
      obtain ⟨x, y⟩ := x
      simp only at hc0 hc1 ⊢
      have h2 : ¬ (k : Int) ≥ (S.length : Int) := by omega
      clear hrow e
      go_enter Try.func25, Try.ntmps25
      go_upto_region 1 with (fail)
      generalize w.alloc (.cells #[.int .i64 0, .int .i64 0] 48) = w1 at *
      have f0 := HK0.out.frozen 0
      have f1 := HK0.out.frozen 1
      have r0 := HK0.out.cell 0
      have r1 := HK0.out.cell 1
      simp at r0 r1
      have HR := Lib.hid (HK0.out.both (.int .i64 x) (.int .i64 y))
      have HB := Lib.hid (bel_both HB0.out (b := w.heap.size) (Nat.le_refl _) (.int .i64 x) (.int .i64 y))
      go_wp2
      have s0 := HR.out.cell 0
      have s1 := HR.out.cell 1
      simp at s0 s1
      exact bodyPost_ret (v := .agg #[.int .i64 x, .int .i64 y]) (by simp [results, Try.results25, go_sem, s0, s1]) rfl ⟨by rfl, HB.out⟩
    · have h2 : a ≥ (S.length : Int) := by omega
      have e : pairS S a = (-1, -1) := by unfold pairS; rw [if_neg (by omega)]
      rw [e]
      go_enter Try.func25, Try.ntmps25
      go_upto_region 1 with (fail)
      generalize w.alloc (.cells #[.int .i64 0, .int .i64 0] 48) = w1 at *
      go_wp2_with fail
      refine (CN.out _).mono ?_; rintro e w2 ⟨rfl, hb⟩
      have HB2 := Lib.hid (HB0.out.trans (hb.mono HB0.out.size))
      have HK2 := Lib.hid (HK0.out.later hb)
      clear hb HB0 HK0
      have f0 := HK2.out.frozen 0
      have f1 := HK2.out.frozen 1
      have r0 := HK2.out.cell 0
      have r1 := HK2.out.cell 1
      simp at r0 r1
      have HR := Lib.hid (HK2.out.both (.int .i64 (-1)) (.int .i64 (-1)))
      have HB := Lib.hid (bel_both HB2.out (b := w.heap.size) (Nat.le_refl _) (.int .i64 (-1)) (.int .i64 (-1)))
      go_wp2
      have s0 := HR.out.cell 0
      have s1 := HR.out.cell 1
      simp at s0 s1
      exact bodyPost_ret (v := .agg #[.int .i64 (-1), .int .i64 (-1)]) (by simp [results, Try.results25, go_sem, s0, s1]) rfl ⟨by rfl, HB.out⟩
/-- A span in its box, what is made of it. -/
structure SpSb (w0 : World) (a b : Int) (w : World) : Prop where
  bel : Below w0.heap.size w0 w
  pa : Blk w w0.heap.size #[.int .i64 a, .int .i64 b] 48
  pr : Blk w (w0.heap.size + 1) #[.int .i64 0, .int .i64 0] 48
theorem SpSb.later {w0 w w' : World} {a b : Int} (h : SpSb w0 a b w) (hb : Below w.heap.size w w') : SpSb w0 a b w' := ⟨h.bel.trans (hb.mono h.bel.size), h.pa.later hb, h.pr.later hb⟩
theorem SpSb.new {w : World} {a b : Int} : SpSb w a b ((w.alloc (.cells #[.int .i64 a, .int .i64 b] 48)).alloc (.cells #[.int .i64 0, .int .i64 0] 48)) :=
  ⟨((Below.refl w.heap.size w).alloc (Nat.le_refl _) _).alloc (by simp) _, (Blk.new w _ _).alloc _, Blk.new' (by simp) _ _⟩
theorem sstarred_any (p : Spn) (hp : SpG p) (lo hi : Int) (w : World) : Calls Try.prog 30 #[.agg #[.int .i64 p.1, .int .i64 p.2]] w (Ans w (.agg #[.int .i64 (onePs 6 lo hi p).1, .int .i64 (onePs 6 lo hi p).2])) := by
  have n1 := isno hp
  obtain ⟨a, b⟩ := p
  simp only at n1 ⊢
  have HS0 := Lib.hid (SpSb.new (w := w) (a := a) (b := b))
  have E1 := fun w => eql_sp a b (-1) (-1) w
  have G1 := fun o1 o2 w => eqGuard_eql_sp o1 o2 a b (-1) (-1) w
  rw [n1] at E1
  have CN : Hid (∀ w', Calls Try.prog 33 #[] w' (Ans w' (.agg #[.int .i64 (-1), .int .i64 (-1)]))) := fun w' => snothing_any w'
  have CT := CN
  have CV := CN
  obtain ⟨hp1, hp2, hp3⟩ := hp
  unfold SpOk at hp1
  simp only at hp1 hp2 hp3
  clear n1
  by_cases ha : a < 0
  · have e : onePs 6 lo hi (a, b) = (0, 0) := by unfold onePs; rw [if_pos rfl, if_pos (.inl ha)]
    rw [e]
    have h0 : decide (a < 0) = true := decide_eq_true ha
    rw [h0] at E1
    clear hp1 hp2 hp3 ha e h0
    go_enter Try.func30, Try.ntmps30
    go_upto_region 1 with (fail)
    generalize (w.alloc (.cells #[.int .i64 a, .int .i64 b] 48)).alloc (.cells #[.int .i64 0, .int .i64 0] 48) = w1 at *
    refine wp_region_stable (S := (SpSb w a b)) (hSt := fun _ _ h hb => h.later hb) (plan := [[(1, none)], [], [(3, some 0), (4, some 1)], [(5, some 2)], [(1, none)], [(7, some 4)], [(8, some 5)], [(6, some 3), (9, some 6)]]) (by kernel_rfl) (by kernel_rfl) (by kernel_rfl) ?hS ?_
    rotate_left
    iterate 8 first
      | (refine chain_skip (by rfl) (by rfl) ?_)
      | (apply chain_want (by rfl)
         · intro act wx hS hr
           simp at hr
           have a0 := hS.pa.cell 0
           have a1 := hS.pa.cell 1
           simp at a0 a1
           go_simp
           (try go_ints)
           first
             | ((with_reducible refine (CN.out _).mono ?_); rintro e w' ⟨rfl, hb⟩; exact Done.mk hb)
             | ((with_reducible refine (CT.out _).mono ?_); rintro e w' ⟨rfl, rfl⟩; exact Done.same)
             | ((with_reducible refine (CV.out _).mono ?_); rintro e w' ⟨rfl, rfl⟩; exact Done.same)
             | exact Done.same
        )
    show ∀ w', _ → _
    intro wz hz
    simp [Act.put]
    case hS => exact HS0.out
    have HS2 := Lib.hid hz
    clear hz HS0
    have f0 := HS2.out.pr.frozen 0
    have f1 := HS2.out.pr.frozen 1
    have r0 := HS2.out.pr.cell 0
    have r1 := HS2.out.pr.cell 1
    simp at r0 r1
    have HR := Lib.hid (HS2.out.pr.both (.int .i64 0) (.int .i64 0))
    have HB := Lib.hid (bel_both HS2.out.bel (b := w.heap.size + 1) (by omega) (.int .i64 0) (.int .i64 0))
    go_wp2
    have s0 := HR.out.cell 0
    have s1 := HR.out.cell 1
    simp at s0 s1
    exact bodyPost_ret (v := .agg #[.int .i64 0, .int .i64 0]) (by simp [results, Try.results30, go_sem, s0, s1]) rfl ⟨by rfl, HB.out⟩
  · have h0 : decide (a < 0) = false := decide_eq_false ha
    rw [h0] at E1
    by_cases hb : b = 0
    · have e : onePs 6 lo hi (a, b) = (0, 0) := by unfold onePs; rw [if_pos rfl, if_pos (.inr hb)]
      rw [e]
      have hz0 : (b == 0) = true := by simp [hb]
      clear hp1 hp2 hp3 ha e h0 hb
      go_enter Try.func30, Try.ntmps30
      go_upto_region 1 with (fail)
      generalize (w.alloc (.cells #[.int .i64 a, .int .i64 b] 48)).alloc (.cells #[.int .i64 0, .int .i64 0] 48) = w1 at *
      refine wp_region_stable (S := (SpSb w a b)) (hSt := fun _ _ h hb => h.later hb) (plan := [[(1, none)], [], [(3, some 0), (4, some 1)], [(5, some 2)], [(1, none)], [(7, some 4)], [(8, some 5)], [(6, some 3), (9, some 6)]]) (by kernel_rfl) (by kernel_rfl) (by kernel_rfl) ?hS ?_
      rotate_left
      iterate 8 first
        | (refine chain_skip (by rfl) (by rfl) ?_)
        | (apply chain_want (by rfl)
           · intro act wx hS hr
             simp at hr
             have a0 := hS.pa.cell 0
             have a1 := hS.pa.cell 1
             simp at a0 a1
             go_simp
             (try go_ints)
             first
               | ((with_reducible refine (CN.out _).mono ?_); rintro e w' ⟨rfl, hb⟩; exact Done.mk hb)
               | ((with_reducible refine (CT.out _).mono ?_); rintro e w' ⟨rfl, rfl⟩; exact Done.same)
               | ((with_reducible refine (CV.out _).mono ?_); rintro e w' ⟨rfl, rfl⟩; exact Done.same)
               | exact Done.same
          )
      show ∀ w', _ → _
      intro wz hz
      simp [Act.put]
      case hS => exact HS0.out
      have HS2 := Lib.hid hz
      clear hz HS0
      have f0 := HS2.out.pr.frozen 0
      have f1 := HS2.out.pr.frozen 1
      have r0 := HS2.out.pr.cell 0
      have r1 := HS2.out.pr.cell 1
      simp at r0 r1
      have HR := Lib.hid (HS2.out.pr.both (.int .i64 0) (.int .i64 0))
      have HB := Lib.hid (bel_both HS2.out.bel (b := w.heap.size + 1) (by omega) (.int .i64 0) (.int .i64 0))
      go_wp2
      have s0 := HR.out.cell 0
      have s1 := HR.out.cell 1
      simp at s0 s1
      exact bodyPost_ret (v := .agg #[.int .i64 0, .int .i64 0]) (by simp [results, Try.results30, go_sem, s0, s1]) rfl ⟨by rfl, HB.out⟩
    · have e : onePs 6 lo hi (a, b) = (0, -1) := by unfold onePs; rw [if_pos rfl, if_neg (by simp only; omega)]
      rw [e]
      have hz0 : (b == 0) = false := by rw [beq_eq_false_iff_ne]; exact hb
      clear hp1 hp2 hp3 ha e h0 hb
      go_enter Try.func30, Try.ntmps30
      go_upto_region 1 with (fail)
      generalize (w.alloc (.cells #[.int .i64 a, .int .i64 b] 48)).alloc (.cells #[.int .i64 0, .int .i64 0] 48) = w1 at *
      refine wp_region_stable (S := (SpSb w a b)) (hSt := fun _ _ h hb => h.later hb) (plan := [[(1, none)], [], [(3, some 0), (4, some 1)], [(5, some 2)], [(1, none)], [(7, some 4)], [(8, some 5)], [(6, some 3), (9, some 6)]]) (by kernel_rfl) (by kernel_rfl) (by kernel_rfl) ?hS ?_
      rotate_left
      iterate 8 first
        | (refine chain_skip (by rfl) (by rfl) ?_)
        | (apply chain_want (by rfl)
           · intro act wx hS hr
             simp at hr
             have a0 := hS.pa.cell 0
             have a1 := hS.pa.cell 1
             simp at a0 a1
             go_simp
             (try go_ints)
             first
               | ((with_reducible refine (CN.out _).mono ?_); rintro e w' ⟨rfl, hb⟩; exact Done.mk hb)
               | ((with_reducible refine (CT.out _).mono ?_); rintro e w' ⟨rfl, rfl⟩; exact Done.same)
               | ((with_reducible refine (CV.out _).mono ?_); rintro e w' ⟨rfl, rfl⟩; exact Done.same)
               | exact Done.same
          )
      show ∀ w', _ → _
      intro wz hz
      simp [Act.put]
      case hS => exact HS0.out
      have HS2 := Lib.hid hz
      clear hz HS0
      have f0 := HS2.out.pr.frozen 0
      have f1 := HS2.out.pr.frozen 1
      have r0 := HS2.out.pr.cell 0
      have r1 := HS2.out.pr.cell 1
      simp at r0 r1
      have HR := Lib.hid (HS2.out.pr.both (.int .i64 0) (.int .i64 (-1)))
      have HB := Lib.hid (bel_both HS2.out.bel (b := w.heap.size + 1) (by omega) (.int .i64 0) (.int .i64 (-1)))
      go_wp2
      have s0 := HR.out.cell 0
      have s1 := HR.out.cell 1
      simp at s0 s1
      exact bodyPost_ret (v := .agg #[.int .i64 0, .int .i64 (-1)]) (by simp [results, Try.results30, go_sem, s0, s1]) rfl ⟨by rfl, HB.out⟩
theorem SpSb.put {w0 w : World} {a b : Int} (h : SpSb w0 a b w) (m : Int) : SpSb w0 a m (w.setCell ⟨w0.heap.size, 1, none⟩ (.int .i64 m)) := by
  refine ⟨h.bel.setCell (p := ⟨w0.heap.size, 1, none⟩) (Nat.le_refl _) _, ?_, h.pr.setCell_ne (a := ⟨w0.heap.size, 1, none⟩) (by show w0.heap.size ≠ w0.heap.size + 1; omega) _⟩
  have := h.pa.setCell 1 (.int .i64 m)
  simpa using this
theorem srepeated_any (p : Spn) (hp : SpG p) (lo hi : Int) (hl : 0 ≤ lo ∧ lo ≤ hi ∧ hi ≤ 255) (w : World) : Calls Try.prog 31 #[.int .i64 lo, .int .i64 hi, .agg #[.int .i64 p.1, .int .i64 p.2]] w (Ans w (.agg #[.int .i64 (repS lo hi p).1, .int .i64 (repS lo hi p).2])) := by
  have n1 := isno hp
  obtain ⟨a, b⟩ := p
  simp only at n1 ⊢
  have HS0 := Lib.hid (SpSb.new (w := w) (a := a) (b := b))
  have E1 := fun w => eql_sp a b (-1) (-1) w
  have G1 := fun o1 o2 w => eqGuard_eql_sp o1 o2 a b (-1) (-1) w
  rw [n1] at E1
  have CN : Hid (∀ w', Calls Try.prog 33 #[] w' (Ans w' (.agg #[.int .i64 (-1), .int .i64 (-1)]))) := fun w' => snothing_any w'
  have CT := CN
  have CV := CN
  obtain ⟨hp1, hp2, hp3⟩ := hp
  unfold SpOk at hp1
  simp only at hp1 hp2 hp3
  clear n1
  obtain ⟨hl0, hl1, hl2⟩ := hl
  by_cases ha : a < 0
  · have h0 : decide (a < 0) = true := decide_eq_true ha
    rw [h0] at E1
    by_cases hl : 0 < lo
    · have e : repS lo hi (a, b) = (-1, -1) := by unfold repS; rw [if_pos ha, if_pos hl]
      rw [e]
      have hg : lo > 0 := hl
      have hg2 : decide (lo > 0) = true := decide_eq_true hl
      clear hp1 hp2 hp3 ha e h0 hl0 hl1 hl2
      go_enter Try.func31, Try.ntmps31
      go_upto_region 1 with (fail)
      generalize (w.alloc (.cells #[.int .i64 a, .int .i64 b] 48)).alloc (.cells #[.int .i64 0, .int .i64 0] 48) = w1 at *
      refine wp_region_stable (S := (SpSb w a b)) (hSt := fun _ _ h hb => h.later hb) (plan := [[(5, none)], [], [(7, some 0), (8, some 1)], [(9, some 2)], [(0, none)], [(11, some 4)], [(10, some 3), (12, some 5)]]) (by kernel_rfl) (by kernel_rfl) (by kernel_rfl) ?hS ?_
      rotate_left
      iterate 7 first
        | (refine chain_skip (by rfl) (by rfl) ?_)
        | (apply chain_want (by rfl)
           · intro act wx hS hr
             simp at hr
             have a0 := hS.pa.cell 0
             have a1 := hS.pa.cell 1
             simp at a0 a1
             go_simp
             (try go_ints)
             first
               | ((with_reducible refine (CN.out _).mono ?_); rintro e w' ⟨rfl, hb⟩; exact Done.mk hb)
               | ((with_reducible refine (CT.out _).mono ?_); rintro e w' ⟨rfl, rfl⟩; exact Done.same)
               | ((with_reducible refine (CV.out _).mono ?_); rintro e w' ⟨rfl, rfl⟩; exact Done.same)
               | exact Done.same
          )
      show ∀ w', _ → _
      intro wz hz
      simp [Act.put]
      case hS => exact HS0.out
      have HS2 := Lib.hid hz
      clear hz HS0
      go_wp2_with fail
      refine (CN.out _).mono ?_; rintro e w2 ⟨rfl, hb⟩
      have HS3 := Lib.hid (HS2.out.later hb)
      clear hb HS2
      have f0 := HS3.out.pr.frozen 0
      have f1 := HS3.out.pr.frozen 1
      have r0 := HS3.out.pr.cell 0
      have r1 := HS3.out.pr.cell 1
      simp at r0 r1
      have HR := Lib.hid (HS3.out.pr.both (.int .i64 (-1)) (.int .i64 (-1)))
      have HB := Lib.hid (bel_both HS3.out.bel (b := w.heap.size + 1) (by omega) (.int .i64 (-1)) (.int .i64 (-1)))
      go_wp2
      have s0 := HR.out.cell 0
      have s1 := HR.out.cell 1
      simp at s0 s1
      exact bodyPost_ret (v := .agg #[.int .i64 (-1), .int .i64 (-1)]) (by simp [results, Try.results31, go_sem, s0, s1]) rfl ⟨by rfl, HB.out⟩
    · have e : repS lo hi (a, b) = (0, 0) := by unfold repS; rw [if_pos ha, if_neg hl]
      rw [e]
      have hg : ¬ lo > 0 := hl
      have hg2 : decide (lo > 0) = false := decide_eq_false hl
      clear hp1 hp2 hp3 ha e h0 hl0 hl1 hl2
      go_enter Try.func31, Try.ntmps31
      go_upto_region 1 with (fail)
      generalize (w.alloc (.cells #[.int .i64 a, .int .i64 b] 48)).alloc (.cells #[.int .i64 0, .int .i64 0] 48) = w1 at *
      refine wp_region_stable (S := (SpSb w a b)) (hSt := fun _ _ h hb => h.later hb) (plan := [[(5, none)], [], [(7, some 0), (8, some 1)], [(9, some 2)], [(0, none)], [(11, some 4)], [(10, some 3), (12, some 5)]]) (by kernel_rfl) (by kernel_rfl) (by kernel_rfl) ?hS ?_
      rotate_left
      iterate 7 first
        | (refine chain_skip (by rfl) (by rfl) ?_)
        | (apply chain_want (by rfl)
           · intro act wx hS hr
             simp at hr
             have a0 := hS.pa.cell 0
             have a1 := hS.pa.cell 1
             simp at a0 a1
             go_simp
             (try go_ints)
             first
               | ((with_reducible refine (CN.out _).mono ?_); rintro e w' ⟨rfl, hb⟩; exact Done.mk hb)
               | ((with_reducible refine (CT.out _).mono ?_); rintro e w' ⟨rfl, rfl⟩; exact Done.same)
               | ((with_reducible refine (CV.out _).mono ?_); rintro e w' ⟨rfl, rfl⟩; exact Done.same)
               | exact Done.same
          )
      show ∀ w', _ → _
      intro wz hz
      simp [Act.put]
      case hS => exact HS0.out
      have HS2 := Lib.hid hz
      clear hz HS0
      go_upto_region 3 with (fail)
      refine wp_region_stable (S := (SpSb w a b)) (hSt := fun _ _ h hb => h.later hb) (plan := [[(5, none)], [], [(15, some 0), (16, some 1)], [(17, some 2)], [(1, none)], [(19, some 4)], [(18, some 3), (20, some 5)]]) (by kernel_rfl) (by kernel_rfl) (by kernel_rfl) ?hS ?_
      rotate_left
      iterate 7 first
        | (refine chain_skip (by rfl) (by rfl) ?_)
        | (apply chain_want (by rfl)
           · intro act wx hS hr
             simp at hr
             have a0 := hS.pa.cell 0
             have a1 := hS.pa.cell 1
             simp at a0 a1
             go_simp
             (try go_ints)
             first
               | ((with_reducible refine (CN.out _).mono ?_); rintro e w' ⟨rfl, hb⟩; exact Done.mk hb)
               | ((with_reducible refine (CT.out _).mono ?_); rintro e w' ⟨rfl, rfl⟩; exact Done.same)
               | ((with_reducible refine (CV.out _).mono ?_); rintro e w' ⟨rfl, rfl⟩; exact Done.same)
               | exact Done.same
          )
      show ∀ w', _ → _
      intro wz hz
      simp [Act.put]
      case hS => exact HS2.out
      have HS3 := Lib.hid hz
      clear hz HS2
      have f0 := HS3.out.pr.frozen 0
      have f1 := HS3.out.pr.frozen 1
      have r0 := HS3.out.pr.cell 0
      have r1 := HS3.out.pr.cell 1
      simp at r0 r1
      have HR := Lib.hid (HS3.out.pr.both (.int .i64 0) (.int .i64 0))
      have HB := Lib.hid (bel_both HS3.out.bel (b := w.heap.size + 1) (by omega) (.int .i64 0) (.int .i64 0))
      go_wp2
      have s0 := HR.out.cell 0
      have s1 := HR.out.cell 1
      simp at s0 s1
      exact bodyPost_ret (v := .agg #[.int .i64 0, .int .i64 0]) (by simp [results, Try.results31, go_sem, s0, s1]) rfl ⟨by rfl, HB.out⟩
  · have h0 : decide (a < 0) = false := decide_eq_false ha
    rw [h0] at E1
    by_cases hh : hi = 0
    · have e : repS lo hi (a, b) = (0, 0) := by unfold repS; rw [if_neg ha, if_pos hh]
      rw [e]
      have hz0 : (hi == 0) = true := by simp [hh]
      clear hp1 hp2 hp3 ha e h0 hl0 hl1 hl2 hh
      go_enter Try.func31, Try.ntmps31
      go_upto_region 1 with (fail)
      generalize (w.alloc (.cells #[.int .i64 a, .int .i64 b] 48)).alloc (.cells #[.int .i64 0, .int .i64 0] 48) = w1 at *
      refine wp_region_stable (S := (SpSb w a b)) (hSt := fun _ _ h hb => h.later hb) (plan := [[(5, none)], [], [(7, some 0), (8, some 1)], [(9, some 2)], [(0, none)], [(11, some 4)], [(10, some 3), (12, some 5)]]) (by kernel_rfl) (by kernel_rfl) (by kernel_rfl) ?hS ?_
      rotate_left
      iterate 7 first
        | (refine chain_skip (by rfl) (by rfl) ?_)
        | (apply chain_want (by rfl)
           · intro act wx hS hr
             simp at hr
             have a0 := hS.pa.cell 0
             have a1 := hS.pa.cell 1
             simp at a0 a1
             go_simp
             (try go_ints)
             first
               | ((with_reducible refine (CN.out _).mono ?_); rintro e w' ⟨rfl, hb⟩; exact Done.mk hb)
               | ((with_reducible refine (CT.out _).mono ?_); rintro e w' ⟨rfl, rfl⟩; exact Done.same)
               | ((with_reducible refine (CV.out _).mono ?_); rintro e w' ⟨rfl, rfl⟩; exact Done.same)
               | exact Done.same
          )
      show ∀ w', _ → _
      intro wz hz
      simp [Act.put]
      case hS => exact HS0.out
      have HS2 := Lib.hid hz
      clear hz HS0
      go_upto_region 3 with (fail)
      refine wp_region_stable (S := (SpSb w a b)) (hSt := fun _ _ h hb => h.later hb) (plan := [[(5, none)], [], [(15, some 0), (16, some 1)], [(17, some 2)], [(1, none)], [(19, some 4)], [(18, some 3), (20, some 5)]]) (by kernel_rfl) (by kernel_rfl) (by kernel_rfl) ?hS ?_
      rotate_left
      iterate 7 first
        | (refine chain_skip (by rfl) (by rfl) ?_)
        | (apply chain_want (by rfl)
           · intro act wx hS hr
             simp at hr
             have a0 := hS.pa.cell 0
             have a1 := hS.pa.cell 1
             simp at a0 a1
             go_simp
             (try go_ints)
             first
               | ((with_reducible refine (CN.out _).mono ?_); rintro e w' ⟨rfl, hb⟩; exact Done.mk hb)
               | ((with_reducible refine (CT.out _).mono ?_); rintro e w' ⟨rfl, rfl⟩; exact Done.same)
               | ((with_reducible refine (CV.out _).mono ?_); rintro e w' ⟨rfl, rfl⟩; exact Done.same)
               | exact Done.same
          )
      show ∀ w', _ → _
      intro wz hz
      simp [Act.put]
      case hS => exact HS2.out
      have HS3 := Lib.hid hz
      clear hz HS2
      have f0 := HS3.out.pr.frozen 0
      have f1 := HS3.out.pr.frozen 1
      have r0 := HS3.out.pr.cell 0
      have r1 := HS3.out.pr.cell 1
      simp at r0 r1
      have HR := Lib.hid (HS3.out.pr.both (.int .i64 0) (.int .i64 0))
      have HB := Lib.hid (bel_both HS3.out.bel (b := w.heap.size + 1) (by omega) (.int .i64 0) (.int .i64 0))
      go_wp2
      have s0 := HR.out.cell 0
      have s1 := HR.out.cell 1
      simp at s0 s1
      exact bodyPost_ret (v := .agg #[.int .i64 0, .int .i64 0]) (by simp [results, Try.results31, go_sem, s0, s1]) rfl ⟨by rfl, HB.out⟩
    · have hz0 : (hi == 0) = false := by rw [beq_eq_false_iff_ne]; exact hh
      have CT : Hid (∀ w', Calls Try.prog 42 #[.int .i64 lo, .int .i64 a] w' (Pure w' (.int .i64 (lo * a)))) := fun w' => stimes_any lo a hl0 (by omega) (by omega) (by omega) w'
      have CV : Hid (∀ w', Calls Try.prog 42 #[.int .i64 hi, .int .i64 b] w' (Pure w' (.int .i64 (hi * b)))) := fun w' => stimes_any hi b (by omega) hl2 (by omega) (by omega) w'
      by_cases hb : b = -1
      · have e : repS lo hi (a, b) = (min (lo * a) 1099511627776, -1) := by
          unfold repS mxS; rw [if_neg ha, if_neg hh]
          refine Prod.ext (by simp only; rw [Int.mul_comm a lo]; omega) ?_
          simp only; rw [if_pos (by omega)]
        rw [e]
        have hy : (b == -1) = true := by simp [hb]
        have CW : Hid (∀ w', Calls Try.prog 27 #[.int .i64 (lo * a), .int .i64 (-1)] w' (Ans w' (.agg #[.int .i64 (min (lo * a) 1099511627776), .int .i64 (-1)]))) := fun w' => by
          have := swithin_any (lo * a) (-1) w'
          rw [show bndS (-1) = -1 from by unfold bndS mxS; rw [if_neg (by decide)]] at this
          exact this
        generalize min (lo * a) 1099511627776 = x at *
        generalize lo * a = y at *
        clear hp1 hp2 hp3 ha e h0 hl0 hl1 hl2 hh hb
        go_enter Try.func31, Try.ntmps31
        go_upto_region 1 with (fail)
        generalize (w.alloc (.cells #[.int .i64 a, .int .i64 b] 48)).alloc (.cells #[.int .i64 0, .int .i64 0] 48) = w1 at *
        refine wp_region_stable (S := (SpSb w a b)) (hSt := fun _ _ h hb => h.later hb) (plan := [[(5, none)], [], [(7, some 0), (8, some 1)], [(9, some 2)], [(0, none)], [(11, some 4)], [(10, some 3), (12, some 5)]]) (by kernel_rfl) (by kernel_rfl) (by kernel_rfl) ?hS ?_
        rotate_left
        iterate 7 first
          | (refine chain_skip (by rfl) (by rfl) ?_)
          | (apply chain_want (by rfl)
             · intro act wx hS hr
               simp at hr
               have a0 := hS.pa.cell 0
               have a1 := hS.pa.cell 1
               simp at a0 a1
               go_simp
               (try go_ints)
               first
                 | ((with_reducible refine (CN.out _).mono ?_); rintro e w' ⟨rfl, hb⟩; exact Done.mk hb)
                 | ((with_reducible refine (CT.out _).mono ?_); rintro e w' ⟨rfl, rfl⟩; exact Done.same)
                 | ((with_reducible refine (CV.out _).mono ?_); rintro e w' ⟨rfl, rfl⟩; exact Done.same)
                 | exact Done.same
            )
        show ∀ w', _ → _
        intro wz hz
        simp [Act.put]
        case hS => exact HS0.out
        have HS2 := Lib.hid hz
        clear hz HS0
        go_upto_region 3 with (fail)
        refine wp_region_stable (S := (SpSb w a b)) (hSt := fun _ _ h hb => h.later hb) (plan := [[(5, none)], [], [(15, some 0), (16, some 1)], [(17, some 2)], [(1, none)], [(19, some 4)], [(18, some 3), (20, some 5)]]) (by kernel_rfl) (by kernel_rfl) (by kernel_rfl) ?hS ?_
        rotate_left
        iterate 7 first
          | (refine chain_skip (by rfl) (by rfl) ?_)
          | (apply chain_want (by rfl)
             · intro act wx hS hr
               simp at hr
               have a0 := hS.pa.cell 0
               have a1 := hS.pa.cell 1
               simp at a0 a1
               go_simp
               (try go_ints)
               first
                 | ((with_reducible refine (CN.out _).mono ?_); rintro e w' ⟨rfl, hb⟩; exact Done.mk hb)
                 | ((with_reducible refine (CT.out _).mono ?_); rintro e w' ⟨rfl, rfl⟩; exact Done.same)
                 | ((with_reducible refine (CV.out _).mono ?_); rintro e w' ⟨rfl, rfl⟩; exact Done.same)
                 | exact Done.same
            )
        show ∀ w', _ → _
        intro wz hz
        simp [Act.put]
        case hS => exact HS2.out
        have HS3 := Lib.hid hz
        clear hz HS2
        have a0 := HS3.out.pa.cell 0
        have a1 := HS3.out.pa.cell 1
        simp at a0 a1
        go_wp2_with fail
        refine (CT.out _).mono ?_; rintro e w2 ⟨rfl, rfl⟩
        go_wp2_with fail
        refine (CW.out _).mono ?_; rintro e w2 ⟨rfl, hb⟩
        have HS4 := Lib.hid (HS3.out.later hb)
        clear hb HS3 a0 a1
        have f0 := HS4.out.pr.frozen 0
        have f1 := HS4.out.pr.frozen 1
        have r0 := HS4.out.pr.cell 0
        have r1 := HS4.out.pr.cell 1
        simp at r0 r1
        have HR := Lib.hid (HS4.out.pr.both (.int .i64 x) (.int .i64 (-1)))
        have HB := Lib.hid (bel_both HS4.out.bel (b := w.heap.size + 1) (by omega) (.int .i64 x) (.int .i64 (-1)))
        go_wp2
        have s0 := HR.out.cell 0
        have s1 := HR.out.cell 1
        simp at s0 s1
        exact bodyPost_ret (v := .agg #[.int .i64 x, .int .i64 (-1)]) (by simp [results, Try.results31, go_sem, s0, s1]) rfl ⟨by rfl, HB.out⟩
      · have e : repS lo hi (a, b) = (min (lo * a) 1099511627776, bndS (hi * b)) := by
          unfold repS mxS; rw [if_neg ha, if_neg hh]
          refine Prod.ext (by simp only; rw [Int.mul_comm a lo]; omega) ?_
          simp only; rw [if_neg (by omega), Int.mul_comm b hi]
        rw [e]
        have hy : (b == -1) = false := by rw [beq_eq_false_iff_ne]; exact hb
        have CW : Hid (∀ w', Calls Try.prog 27 #[.int .i64 (lo * a), .int .i64 (hi * b)] w' (Ans w' (.agg #[.int .i64 (min (lo * a) 1099511627776), .int .i64 (bndS (hi * b))]))) := fun w' => swithin_any (lo * a) (hi * b) w'
        generalize min (lo * a) 1099511627776 = x at *
        generalize bndS (hi * b) = y at *
        generalize lo * a = x2 at *
        generalize hi * b = y2 at *
        clear hp1 hp2 hp3 ha e h0 hl0 hl1 hl2 hh hb
        go_enter Try.func31, Try.ntmps31
        go_upto_region 1 with (fail)
        generalize (w.alloc (.cells #[.int .i64 a, .int .i64 b] 48)).alloc (.cells #[.int .i64 0, .int .i64 0] 48) = w1 at *
        refine wp_region_stable (S := (SpSb w a b)) (hSt := fun _ _ h hb => h.later hb) (plan := [[(5, none)], [], [(7, some 0), (8, some 1)], [(9, some 2)], [(0, none)], [(11, some 4)], [(10, some 3), (12, some 5)]]) (by kernel_rfl) (by kernel_rfl) (by kernel_rfl) ?hS ?_
        rotate_left
        iterate 7 first
          | (refine chain_skip (by rfl) (by rfl) ?_)
          | (apply chain_want (by rfl)
             · intro act wx hS hr
               simp at hr
               have a0 := hS.pa.cell 0
               have a1 := hS.pa.cell 1
               simp at a0 a1
               go_simp
               (try go_ints)
               first
                 | ((with_reducible refine (CN.out _).mono ?_); rintro e w' ⟨rfl, hb⟩; exact Done.mk hb)
                 | ((with_reducible refine (CT.out _).mono ?_); rintro e w' ⟨rfl, rfl⟩; exact Done.same)
                 | ((with_reducible refine (CV.out _).mono ?_); rintro e w' ⟨rfl, rfl⟩; exact Done.same)
                 | exact Done.same
            )
        show ∀ w', _ → _
        intro wz hz
        simp [Act.put]
        case hS => exact HS0.out
        have HS2 := Lib.hid hz
        clear hz HS0
        go_upto_region 3 with (fail)
        refine wp_region_stable (S := (SpSb w a b)) (hSt := fun _ _ h hb => h.later hb) (plan := [[(5, none)], [], [(15, some 0), (16, some 1)], [(17, some 2)], [(1, none)], [(19, some 4)], [(18, some 3), (20, some 5)]]) (by kernel_rfl) (by kernel_rfl) (by kernel_rfl) ?hS ?_
        rotate_left
        iterate 7 first
          | (refine chain_skip (by rfl) (by rfl) ?_)
          | (apply chain_want (by rfl)
             · intro act wx hS hr
               simp at hr
               have a0 := hS.pa.cell 0
               have a1 := hS.pa.cell 1
               simp at a0 a1
               go_simp
               (try go_ints)
               first
                 | ((with_reducible refine (CN.out _).mono ?_); rintro e w' ⟨rfl, hb⟩; exact Done.mk hb)
                 | ((with_reducible refine (CT.out _).mono ?_); rintro e w' ⟨rfl, rfl⟩; exact Done.same)
                 | ((with_reducible refine (CV.out _).mono ?_); rintro e w' ⟨rfl, rfl⟩; exact Done.same)
                 | exact Done.same
            )
        show ∀ w', _ → _
        intro wz hz
        simp [Act.put]
        case hS => exact HS2.out
        have HS3 := Lib.hid hz
        clear hz HS2
        have a0 := HS3.out.pa.cell 0
        have a1 := HS3.out.pa.cell 1
        simp at a0 a1
        go_upto_region 7 with (fail)
        refine wp_region_stable_tail 8 (S := (SpSb w a b)) (hSt := fun _ _ h hb => h.later hb) (plan := [[(0, none)], [(5, none)], [(32, some 1)], [(31, some 0), (33, some 2)], [(1, none)], [(5, none)], [(36, some 5)], [(35, some 4), (37, some 6)]]) rfl rfl (by kernel_rfl) (by kernel_rfl) (by kernel_rfl) (by kernel_rfl) ?hS ?_
        rotate_left
        iterate 8 first
          | (refine chain_skip (by rfl) (by rfl) ?_)
          | (apply chain_want (by rfl)
             · intro act wx hS hr
               simp at hr
               have a0 := hS.pa.cell 0
               have a1 := hS.pa.cell 1
               simp at a0 a1
               go_simp
               (try go_ints)
               first
                 | ((with_reducible refine (CN.out _).mono ?_); rintro e w' ⟨rfl, hb⟩; exact Done.mk hb)
                 | ((with_reducible refine (CT.out _).mono ?_); rintro e w' ⟨rfl, rfl⟩; exact Done.same)
                 | ((with_reducible refine (CV.out _).mono ?_); rintro e w' ⟨rfl, rfl⟩; exact Done.same)
                 | exact Done.same
            )
        show ∀ w', _ → _
        intro wz hz
        simp [Act.put]
        case hS => exact HS3.out
        have HS3 := Lib.hid hz
        clear hz a0 a1
        go_wp2_with fail
        refine (CW.out _).mono ?_; rintro e w2 ⟨rfl, hb⟩
        have HS4 := Lib.hid (HS3.out.later hb)
        clear hb HS3
        have f0 := HS4.out.pr.frozen 0
        have f1 := HS4.out.pr.frozen 1
        have r0 := HS4.out.pr.cell 0
        have r1 := HS4.out.pr.cell 1
        simp at r0 r1
        have HR := Lib.hid (HS4.out.pr.both (.int .i64 x) (.int .i64 y))
        have HB := Lib.hid (bel_both HS4.out.bel (b := w.heap.size + 1) (by omega) (.int .i64 x) (.int .i64 y))
        go_wp2
        have s0 := HR.out.cell 0
        have s1 := HR.out.cell 1
        simp at s0 s1
        exact bodyPost_ret (v := .agg #[.int .i64 x, .int .i64 y]) (by simp [results, Try.results31, go_sem, s0, s1]) rfl ⟨by rfl, HB.out⟩
theorem sframed_any (p : Spn) (hp : SpG p) (head most : Int) (hh : 0 ≤ head ∧ head ≤ 2) (hm : 0 ≤ most ∧ most ≤ 65535) (w : World) : Calls Try.prog 32 #[.int .i64 head, .int .i64 most, .agg #[.int .i64 p.1, .int .i64 p.2]] w (Ans w (.agg #[.int .i64 (frmS most head p).1, .int .i64 (frmS most head p).2])) := by
  have n1 := isno hp
  obtain ⟨a, b⟩ := p
  simp only at n1 ⊢
  have HS0 := Lib.hid (SpSb.new (w := w) (a := a) (b := b))
  have E1 := fun w => eql_sp a b (-1) (-1) w
  have G1 := fun o1 o2 w => eqGuard_eql_sp o1 o2 a b (-1) (-1) w
  rw [n1] at E1
  have CN : Hid (∀ w', Calls Try.prog 33 #[] w' (Ans w' (.agg #[.int .i64 (-1), .int .i64 (-1)]))) := fun w' => snothing_any w'
  have CT := CN
  have CV := CN
  obtain ⟨hp1, hp2, hp3⟩ := hp
  unfold SpOk at hp1
  simp only at hp1 hp2 hp3
  clear n1
  obtain ⟨hh1, hh2⟩ := hh
  obtain ⟨hm1, hm2⟩ := hm
  by_cases ha : a < 0
  · have e : frmS most head (a, b) = (-1, -1) := by unfold frmS; rw [if_pos (.inl ha)]
    rw [e]
    have h0 : decide (a < 0) = true := decide_eq_true ha
    rw [h0] at E1
    clear hp1 hp2 hp3 ha e h0 hh1 hh2 hm1 hm2
    go_enter Try.func32, Try.ntmps32
    go_upto_region 1 with (fail)
    generalize (w.alloc (.cells #[.int .i64 a, .int .i64 b] 48)).alloc (.cells #[.int .i64 0, .int .i64 0] 48) = w1 at *
    refine wp_region_stable (S := (SpSb w a b)) (hSt := fun _ _ h hb => h.later hb) (plan := [[(5, none)], [], [(7, some 0), (8, some 1)], [(9, some 2)], [(5, none)], [(11, some 4)], [(1, none)], [(12, some 5), (13, some 6)], [(10, some 3), (14, some 7)]]) (by kernel_rfl) (by kernel_rfl) (by kernel_rfl) ?hS ?_
    rotate_left
    iterate 9 first
      | (refine chain_skip (by rfl) (by rfl) ?_)
      | (apply chain_want (by rfl)
         · intro act wx hS hr
           simp at hr
           have a0 := hS.pa.cell 0
           have a1 := hS.pa.cell 1
           simp at a0 a1
           go_simp
           (try go_ints)
           first
             | ((with_reducible refine (CN.out _).mono ?_); rintro e w' ⟨rfl, hb⟩; exact Done.mk hb)
             | ((with_reducible refine (CT.out _).mono ?_); rintro e w' ⟨rfl, rfl⟩; exact Done.same)
             | ((with_reducible refine (CV.out _).mono ?_); rintro e w' ⟨rfl, rfl⟩; exact Done.same)
             | exact Done.same
        )
    show ∀ w', _ → _
    intro wz hz
    simp [Act.put]
    case hS => exact HS0.out
    have HS2 := Lib.hid hz
    clear hz HS0
    go_wp2_with fail
    refine (CN.out _).mono ?_; rintro e w2 ⟨rfl, hb⟩
    have HS3 := Lib.hid (HS2.out.later hb)
    clear hb HS2
    have f0 := HS3.out.pr.frozen 0
    have f1 := HS3.out.pr.frozen 1
    have r0 := HS3.out.pr.cell 0
    have r1 := HS3.out.pr.cell 1
    simp at r0 r1
    have HR := Lib.hid (HS3.out.pr.both (.int .i64 (-1)) (.int .i64 (-1)))
    have HB := Lib.hid (bel_both HS3.out.bel (b := w.heap.size + 1) (by omega) (.int .i64 (-1)) (.int .i64 (-1)))
    go_wp2
    have s0 := HR.out.cell 0
    have s1 := HR.out.cell 1
    simp at s0 s1
    exact bodyPost_ret (v := .agg #[.int .i64 (-1), .int .i64 (-1)]) (by simp [results, Try.results32, go_sem, s0, s1]) rfl ⟨by rfl, HB.out⟩
  · have h0 : decide (a < 0) = false := decide_eq_false ha
    rw [h0] at E1
    by_cases hg : most < a
    · have e : frmS most head (a, b) = (-1, -1) := by unfold frmS; rw [if_pos (.inr hg)]
      rw [e]
      have hg1 : a > most := hg
      have hg2 : decide (a > most) = true := decide_eq_true hg
      clear hp1 hp2 hp3 ha e h0 hh1 hh2 hm1 hm2
      go_enter Try.func32, Try.ntmps32
      go_upto_region 1 with (fail)
      generalize (w.alloc (.cells #[.int .i64 a, .int .i64 b] 48)).alloc (.cells #[.int .i64 0, .int .i64 0] 48) = w1 at *
      refine wp_region_stable (S := (SpSb w a b)) (hSt := fun _ _ h hb => h.later hb) (plan := [[(5, none)], [], [(7, some 0), (8, some 1)], [(9, some 2)], [(5, none)], [(11, some 4)], [(1, none)], [(12, some 5), (13, some 6)], [(10, some 3), (14, some 7)]]) (by kernel_rfl) (by kernel_rfl) (by kernel_rfl) ?hS ?_
      rotate_left
      iterate 9 first
        | (refine chain_skip (by rfl) (by rfl) ?_)
        | (apply chain_want (by rfl)
           · intro act wx hS hr
             simp at hr
             have a0 := hS.pa.cell 0
             have a1 := hS.pa.cell 1
             simp at a0 a1
             go_simp
             (try go_ints)
             first
               | ((with_reducible refine (CN.out _).mono ?_); rintro e w' ⟨rfl, hb⟩; exact Done.mk hb)
               | ((with_reducible refine (CT.out _).mono ?_); rintro e w' ⟨rfl, rfl⟩; exact Done.same)
               | ((with_reducible refine (CV.out _).mono ?_); rintro e w' ⟨rfl, rfl⟩; exact Done.same)
               | exact Done.same
          )
      show ∀ w', _ → _
      intro wz hz
      simp [Act.put]
      case hS => exact HS0.out
      have HS2 := Lib.hid hz
      clear hz HS0
      go_wp2_with fail
      refine (CN.out _).mono ?_; rintro e w2 ⟨rfl, hb⟩
      have HS3 := Lib.hid (HS2.out.later hb)
      clear hb HS2
      have f0 := HS3.out.pr.frozen 0
      have f1 := HS3.out.pr.frozen 1
      have r0 := HS3.out.pr.cell 0
      have r1 := HS3.out.pr.cell 1
      simp at r0 r1
      have HR := Lib.hid (HS3.out.pr.both (.int .i64 (-1)) (.int .i64 (-1)))
      have HB := Lib.hid (bel_both HS3.out.bel (b := w.heap.size + 1) (by omega) (.int .i64 (-1)) (.int .i64 (-1)))
      go_wp2
      have s0 := HR.out.cell 0
      have s1 := HR.out.cell 1
      simp at s0 s1
      exact bodyPost_ret (v := .agg #[.int .i64 (-1), .int .i64 (-1)]) (by simp [results, Try.results32, go_sem, s0, s1]) rfl ⟨by rfl, HB.out⟩
    · have hg1 : ¬ a > most := hg
      have hg2 : decide (a > most) = false := decide_eq_false hg
      have ew : wrap64 (head + a) = head + a := by unfold wrap64; omega
      by_cases hc : b = -1
      · have e : frmS most head (a, b) = (head + a, head + most) := by
          unfold frmS; rw [if_neg (by simp only; omega)]
          simp only; rw [if_pos (.inl (by omega)), Int.add_comm a, Int.add_comm most]
        rw [e]
        have hy : (b == -1) = true := by simp [hc]
        clear hp1 hp3 ha e h0 hc hg
        go_enter Try.func32, Try.ntmps32
        go_upto_region 1 with (fail)
        generalize (w.alloc (.cells #[.int .i64 a, .int .i64 b] 48)).alloc (.cells #[.int .i64 0, .int .i64 0] 48) = w1 at *
        refine wp_region_stable (S := (SpSb w a b)) (hSt := fun _ _ h hb => h.later hb) (plan := [[(5, none)], [], [(7, some 0), (8, some 1)], [(9, some 2)], [(5, none)], [(11, some 4)], [(1, none)], [(12, some 5), (13, some 6)], [(10, some 3), (14, some 7)]]) (by kernel_rfl) (by kernel_rfl) (by kernel_rfl) ?hS ?_
        rotate_left
        iterate 9 first
          | (refine chain_skip (by rfl) (by rfl) ?_)
          | (apply chain_want (by rfl)
             · intro act wx hS hr
               simp at hr
               have a0 := hS.pa.cell 0
               have a1 := hS.pa.cell 1
               simp at a0 a1
               go_simp
               (try go_ints)
               first
                 | ((with_reducible refine (CN.out _).mono ?_); rintro e w' ⟨rfl, hb⟩; exact Done.mk hb)
                 | ((with_reducible refine (CT.out _).mono ?_); rintro e w' ⟨rfl, rfl⟩; exact Done.same)
                 | ((with_reducible refine (CV.out _).mono ?_); rintro e w' ⟨rfl, rfl⟩; exact Done.same)
                 | exact Done.same
            )
        show ∀ w', _ → _
        intro wz hz
        simp [Act.put]
        case hS => exact HS0.out
        have HS2 := Lib.hid hz
        clear hz HS0
        have a0 := HS2.out.pa.cell 0
        have a1 := HS2.out.pa.cell 1
        have fz := HS2.out.pa.frozen 1
        simp at a0 a1
        have HS3 := Lib.hid (HS2.out.put most)
        go_upto_region 5 with (fail)
        clear a0 a1 fz HS2
        generalize wz.setCell ⟨w.heap.size, 1, none⟩ (.int .i64 most) = w3 at *
        have a0 := HS3.out.pa.cell 0
        have a1 := HS3.out.pa.cell 1
        simp at a0 a1
        have f0 := HS3.out.pr.frozen 0
        have f1 := HS3.out.pr.frozen 1
        have r0 := HS3.out.pr.cell 0
        have r1 := HS3.out.pr.cell 1
        simp at r0 r1
        have HR := Lib.hid (HS3.out.pr.both (.int .i64 (head + a)) (.int .i64 (head + most)))
        have HB := Lib.hid (bel_both HS3.out.bel (b := w.heap.size + 1) (by omega) (.int .i64 (head + a)) (.int .i64 (head + most)))
        go_wp2
        have s0 := HR.out.cell 0
        have s1 := HR.out.cell 1
        simp at s0 s1
        exact bodyPost_ret (v := .agg #[.int .i64 (head + a), .int .i64 (head + most)]) (by simp [results, Try.results32, go_sem, s0, s1]) rfl ⟨by rfl, HB.out⟩
      · have hy : (b == -1) = false := by rw [beq_eq_false_iff_ne]; exact hc
        by_cases hk : most < b
        · have e : frmS most head (a, b) = (head + a, head + most) := by
            unfold frmS; rw [if_neg (by simp only; omega)]
            simp only; rw [if_pos (.inr (by omega)), Int.add_comm a, Int.add_comm most]
          rw [e]
          have hk1 : b > most := hk
          have hk2 : decide (b > most) = true := decide_eq_true hk
          clear hp1 hp3 ha e h0 hc hg
          go_enter Try.func32, Try.ntmps32
          go_upto_region 1 with (fail)
          generalize (w.alloc (.cells #[.int .i64 a, .int .i64 b] 48)).alloc (.cells #[.int .i64 0, .int .i64 0] 48) = w1 at *
          refine wp_region_stable (S := (SpSb w a b)) (hSt := fun _ _ h hb => h.later hb) (plan := [[(5, none)], [], [(7, some 0), (8, some 1)], [(9, some 2)], [(5, none)], [(11, some 4)], [(1, none)], [(12, some 5), (13, some 6)], [(10, some 3), (14, some 7)]]) (by kernel_rfl) (by kernel_rfl) (by kernel_rfl) ?hS ?_
          rotate_left
          iterate 9 first
            | (refine chain_skip (by rfl) (by rfl) ?_)
            | (apply chain_want (by rfl)
               · intro act wx hS hr
                 simp at hr
                 have a0 := hS.pa.cell 0
                 have a1 := hS.pa.cell 1
                 simp at a0 a1
                 go_simp
                 (try go_ints)
                 first
                   | ((with_reducible refine (CN.out _).mono ?_); rintro e w' ⟨rfl, hb⟩; exact Done.mk hb)
                   | ((with_reducible refine (CT.out _).mono ?_); rintro e w' ⟨rfl, rfl⟩; exact Done.same)
                   | ((with_reducible refine (CV.out _).mono ?_); rintro e w' ⟨rfl, rfl⟩; exact Done.same)
                   | exact Done.same
              )
          show ∀ w', _ → _
          intro wz hz
          simp [Act.put]
          case hS => exact HS0.out
          have HS2 := Lib.hid hz
          clear hz HS0
          have a0 := HS2.out.pa.cell 0
          have a1 := HS2.out.pa.cell 1
          have fz := HS2.out.pa.frozen 1
          simp at a0 a1
          have HS3 := Lib.hid (HS2.out.put most)
          go_upto_region 5 with (fail)
          clear a0 a1 fz HS2
          generalize wz.setCell ⟨w.heap.size, 1, none⟩ (.int .i64 most) = w3 at *
          have a0 := HS3.out.pa.cell 0
          have a1 := HS3.out.pa.cell 1
          simp at a0 a1
          have f0 := HS3.out.pr.frozen 0
          have f1 := HS3.out.pr.frozen 1
          have r0 := HS3.out.pr.cell 0
          have r1 := HS3.out.pr.cell 1
          simp at r0 r1
          have HR := Lib.hid (HS3.out.pr.both (.int .i64 (head + a)) (.int .i64 (head + most)))
          have HB := Lib.hid (bel_both HS3.out.bel (b := w.heap.size + 1) (by omega) (.int .i64 (head + a)) (.int .i64 (head + most)))
          go_wp2
          have s0 := HR.out.cell 0
          have s1 := HR.out.cell 1
          simp at s0 s1
          exact bodyPost_ret (v := .agg #[.int .i64 (head + a), .int .i64 (head + most)]) (by simp [results, Try.results32, go_sem, s0, s1]) rfl ⟨by rfl, HB.out⟩
        · have e : frmS most head (a, b) = (head + a, head + b) := by
            unfold frmS; rw [if_neg (by simp only; omega)]
            simp only; rw [if_neg (by omega), Int.add_comm a, Int.add_comm b]
          rw [e]
          have hk1 : ¬ b > most := hk
          have hk2 : decide (b > most) = false := decide_eq_false hk
          have hb0 : -1 ≤ b := by omega
          have hb1 : b ≤ 65535 := by omega
          clear hp1 hp3 ha e h0 hc hg
          go_enter Try.func32, Try.ntmps32
          go_upto_region 1 with (fail)
          generalize (w.alloc (.cells #[.int .i64 a, .int .i64 b] 48)).alloc (.cells #[.int .i64 0, .int .i64 0] 48) = w1 at *
          refine wp_region_stable (S := (SpSb w a b)) (hSt := fun _ _ h hb => h.later hb) (plan := [[(5, none)], [], [(7, some 0), (8, some 1)], [(9, some 2)], [(5, none)], [(11, some 4)], [(1, none)], [(12, some 5), (13, some 6)], [(10, some 3), (14, some 7)]]) (by kernel_rfl) (by kernel_rfl) (by kernel_rfl) ?hS ?_
          rotate_left
          iterate 9 first
            | (refine chain_skip (by rfl) (by rfl) ?_)
            | (apply chain_want (by rfl)
               · intro act wx hS hr
                 simp at hr
                 have a0 := hS.pa.cell 0
                 have a1 := hS.pa.cell 1
                 simp at a0 a1
                 go_simp
                 (try go_ints)
                 first
                   | ((with_reducible refine (CN.out _).mono ?_); rintro e w' ⟨rfl, hb⟩; exact Done.mk hb)
                   | ((with_reducible refine (CT.out _).mono ?_); rintro e w' ⟨rfl, rfl⟩; exact Done.same)
                   | ((with_reducible refine (CV.out _).mono ?_); rintro e w' ⟨rfl, rfl⟩; exact Done.same)
                   | exact Done.same
              )
          show ∀ w', _ → _
          intro wz hz
          simp [Act.put]
          case hS => exact HS0.out
          have HS2 := Lib.hid hz
          clear hz HS0
          have a0 := HS2.out.pa.cell 0
          have a1 := HS2.out.pa.cell 1
          simp at a0 a1
          have f0 := HS2.out.pr.frozen 0
          have f1 := HS2.out.pr.frozen 1
          have r0 := HS2.out.pr.cell 0
          have r1 := HS2.out.pr.cell 1
          simp at r0 r1
          have HR := Lib.hid (HS2.out.pr.both (.int .i64 (head + a)) (.int .i64 (head + b)))
          have HB := Lib.hid (bel_both HS2.out.bel (b := w.heap.size + 1) (by omega) (.int .i64 (head + a)) (.int .i64 (head + b)))
          go_wp2
          have s0 := HR.out.cell 0
          have s1 := HR.out.cell 1
          simp at s0 s1
          exact bodyPost_ret (v := .agg #[.int .i64 (head + a), .int .i64 (head + b)]) (by simp [results, Try.results32, go_sem, s0, s1]) rfl ⟨by rfl, HB.out⟩
end Go.Proofs.Ytplgokgjcclhaaa
