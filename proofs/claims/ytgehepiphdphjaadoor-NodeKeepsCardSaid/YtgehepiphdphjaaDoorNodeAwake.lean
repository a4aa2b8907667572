/- The anchor of layer 4: answers that the document fixes. -/
import Derived.Test.YtgehepiphdphjaaDoorNodeBuild
namespace Go.Proofs.YtgehepiphdphjaaDoor
open Go Go.RowKit
set_option linter.unusedVariables false
set_option linter.unusedSimpArgs false

def awA : List Nd := [{ kind := 1 }]
def awX : Nd := { kind := 3, text := [120] }
def awB : List Nd := [awX, { kind := 7, a := 0, lo := 1, hi := 2 }]
def awN2 : Nd := { kind := 7, a := 1, lo := 1, hi := 2 }
def awN3 : Nd := { kind := 5, a := 0, b := 2 }
def awD : List Nd := [{ kind := 1 }, awX, awN2, awN3]
theorem awB_eq : wrapL 7 1 2 [awX] = awB := by decide
theorem awD_eq : pairL 5 awA awB = awD := by decide
theorem form_one {n : Nd} (h : okN [n] 0 n) (hk : leafK n.kind) : Form [n] := by
  refine ⟨by simp, fun i hi => ?_, ?_⟩
  · obtain rfl : i = 0 := by simpa using hi
    exact h
  · show firstP [n] 0 = 0
    have := firstP_le [n] 0; omega
theorem awA_form : Form awA := form_one ⟨by decide, .inl rfl⟩ (.inl rfl)
theorem awX_form : Form [awX] := form_one ⟨by decide, .inr (.inr (.inl ⟨rfl, by decide⟩))⟩ (.inr (.inr rfl))
theorem awB_form : Form awB := by rw [← awB_eq]; exact wrap_form7 awX_form (by decide) (by decide) (by decide)
theorem awD_form : Form awD := by rw [← awD_eq]; exact pair_form awA_form awB_form (.inr rfl)
theorem awD_first2 : firstP awD 2 = 1 := by
  have := (pair_sub awA_form awB_form (kind := 5)).2.2
  rw [awD_eq] at this; exact this
theorem awD_sub2 : subL awD 2 = awB := by
  have := (pair_sub awA_form awB_form (kind := 5)).2.1
  rw [awD_eq] at this; exact this
theorem awD_first3 : firstP awD 3 = 0 := awD_form.2.2
theorem awD_cut : formB (awD.take 3) = false := formB_not (fun h => by
  have := (cut_form awD_form (k := 2) (by decide)).1 h
  rw [awD_first2] at this; cases this)
theorem awNil : formB [] = false := formB_not (fun h => by have := h.1; simp at this)
def awE : Nd := { kind := 1, a := 1 }
theorem awE_form : formB [awE] = false := formB_not (fun h => by
  have := (h.2.1 0 (by simp)).1
  exact absurd this (by decide))
theorem awTxt : Txt awD := fun n hn => by
  have : ∀ n ∈ awD, n.text.length ≤ 1 := by decide
  have := this n hn; omega
theorem mvOk0 {n : Nd} (ht : n.text.length ≤ 1000) (ha : -1000 ≤ n.a ∧ n.a ≤ 1000) (hb : -1000 ≤ n.b ∧ n.b ≤ 1000) {d : Int} (hd : -1000 ≤ d ∧ d ≤ 1000) : MvOk d n :=
  ⟨by omega, fun _ => wrap_in (by omega) (by omega), fun _ => wrap_in (by omega) (by omega)⟩
theorem awETxt : Txt [awE] := fun n hn => by simp at hn; subst hn; decide
structure AwN (w0 : World) (b1 b2 b3 : Nat) (A1 A2 : Option Addr) (bd od : Nat) (c1 c2 c3 : Nat) (w : World) : Prop where
  bel : Below w0.heap.size w0 w
  u8 : U8T w
  x1 : Blk w b1 #[.slice A1 1 c1] 49
  x2 : Blk w b2 #[.slice A2 2 c2] 49
  x3 : Blk w b3 #[.slice (some ⟨bd, od, none⟩) 4 c3] 49
  r1 : NRow w A1 awA
  r2 : NRow w A2 awB
  r3 : NRow w (some ⟨bd, od, none⟩) awD
theorem AwN.later {w0 w w' : World} {b1 b2 b3 : Nat} {A1 A2 : Option Addr} {bd od c1 c2 c3 : Nat} (h : AwN w0 b1 b2 b3 A1 A2 bd od c1 c2 c3 w) (hb : Below w.heap.size w w') : AwN w0 b1 b2 b3 A1 A2 bd od c1 c2 c3 w' :=
  ⟨h.bel.trans (hb.mono h.bel.size), h.u8.later hb, h.x1.later hb, h.x2.later hb, h.x3.later hb, h.r1.later hb, h.r2.later hb, h.r3.later hb⟩
theorem AwN.cells {w0 w : World} {b1 b2 b3 : Nat} {A1 A2 : Option Addr} {bd od c1 c2 c3 : Nat} (h : AwN w0 b1 b2 b3 A1 A2 bd od c1 c2 c3 w) : w.cell? ⟨bd, od + 20, none⟩ = some (.int .i64 7) ∧ w.cell? ⟨bd, od + 21, none⟩ = some (.int .i64 1) ∧ w.cell? ⟨bd, od + 22, none⟩ = some (.int .i64 0) ∧ w.cell? ⟨bd, od + 23, none⟩ = some (.int .i64 1) ∧ w.cell? ⟨bd, od + 24, none⟩ = some (.int .i64 2) ∧ w.cell? ⟨bd, od + 25, none⟩ = some (.int .u64 0) ∧ w.cell? ⟨bd, od + 26, none⟩ = some (.int .u64 0) ∧ w.cell? ⟨bd, od + 27, none⟩ = some (.int .u64 0) ∧ w.cell? ⟨bd, od + 28, none⟩ = some (.int .u64 0) ∧ w.cell? ⟨bd, od + 29, none⟩ = some (.string ⟨#[]⟩) ∧ w.cell? ⟨bd, od + 30, none⟩ = some (.int .i64 5) ∧ w.cell? ⟨bd, od + 31, none⟩ = some (.int .i64 0) ∧ w.cell? ⟨bd, od + 32, none⟩ = some (.int .i64 2) ∧ w.cell? ⟨bd, od + 33, none⟩ = some (.int .i64 0) ∧ w.cell? ⟨bd, od + 34, none⟩ = some (.int .i64 0) ∧ w.cell? ⟨bd, od + 35, none⟩ = some (.int .u64 0) ∧ w.cell? ⟨bd, od + 36, none⟩ = some (.int .u64 0) ∧ w.cell? ⟨bd, od + 37, none⟩ = some (.int .u64 0) ∧ w.cell? ⟨bd, od + 38, none⟩ = some (.int .u64 0) ∧ w.cell? ⟨bd, od + 39, none⟩ = some (.string ⟨#[]⟩) := by
  have g2 : At10 w bd (od + 20) awN2 := h.r3.at (i := 2) (by decide) rfl
  have g3 : At10 w bd (od + 30) awN3 := h.r3.at (i := 3) (by decide) rfl
  obtain ⟨a0, a1, a2, a3, a4, a5, a6, a7, a8, a9⟩ := g2
  obtain ⟨d0, d1, d2, d3, d4, d5, d6, d7, d8, d9⟩ := g3
  have z0 : (wd awN2.cls 0 : Int) = 0 := by decide
  have z1 : (wd awN2.cls 1 : Int) = 0 := by decide
  have z2 : (wd awN2.cls 2 : Int) = 0 := by decide
  have z3 : (wd awN2.cls 3 : Int) = 0 := by decide
  have y0 : (wd awN3.cls 0 : Int) = 0 := by decide
  have y1 : (wd awN3.cls 1 : Int) = 0 := by decide
  have y2 : (wd awN3.cls 2 : Int) = 0 := by decide
  have y3 : (wd awN3.cls 3 : Int) = 0 := by decide
  rw [z0] at a5
  rw [z1] at a6
  rw [z2] at a7
  rw [z3] at a8
  rw [y0] at d5
  rw [y1] at d6
  rw [y2] at d7
  rw [y3] at d8
  exact ⟨a0, a1, a2, a3, a4, a5, a6, a7, a8, a9, d0, d1, d2, d3, d4, d5, d6, d7, d8, d9⟩
theorem awq1 (w : World) : (binOp .eql 59 (.agg #[.int .i64 7, .int .i64 1, .int .i64 0, .int .i64 1, .int .i64 2, .int .u64 0, .int .u64 0, .int .u64 0, .int .u64 0, .string ⟨#[]⟩]) (.agg #[.int .i64 7, .int .i64 1, .int .i64 0, .int .i64 1, .int .i64 2, .int .u64 0, .int .u64 0, .int .u64 0, .int .u64 0, .string ⟨#[]⟩])).run Tryd.prog w = .ok (.bool true) w := by
  have := eql_nd awN2 awN2 w
  unfold awN2 at this
  rw [ndC_zero] at this
  exact this
theorem awq2 (w : World) : (binOp .eql 59 (.agg #[.int .i64 5, .int .i64 0, .int .i64 2, .int .i64 0, .int .i64 0, .int .u64 0, .int .u64 0, .int .u64 0, .int .u64 0, .string ⟨#[]⟩]) (.agg #[.int .i64 5, .int .i64 0, .int .i64 2, .int .i64 0, .int .i64 0, .int .u64 0, .int .u64 0, .int .u64 0, .int .u64 0, .string ⟨#[]⟩])).run Tryd.prog w = .ok (.bool true) w := by
  have := eql_nd awN3 awN3 w
  unfold awN3 at this
  rw [ndC_zero] at this
  exact this
theorem IsD.form {l : List Nd} {v : Value} {w : World} (h : IsD l v w) (hl : l.length ≤ 1073741824) (ht : Txt l) (hT : U8T w) : Calls Tryd.prog 31 #[v] w (Ans w (.bool (formB l))) := by
  obtain ⟨A, c, _, rfl, hr⟩ := h
  exact form_any l A c hl ht w hr hT
theorem IsD.same {a b : List Nd} {u v : Value} {w : World} (h : IsD a u w) (k : IsD b v w) (h1 : a.length ≤ 1073741824) (h2 : b.length ≤ 1073741824) : Calls Tryd.prog 32 #[u, v] w (Ans w (.bool (decide (a = b)))) := by
  obtain ⟨A, c, _, rfl, hr⟩ := h
  obtain ⟨B, d, _, rfl, hs⟩ := k
  exact nsame_any a b A B c d w hr hs h1 h2
set_option maxHeartbeats 16000000 in
set_option maxRecDepth 1000000 in
theorem awake4_any (w : World) (hT : U8T w) : Calls Tryd.prog 26 #[] w (Ans w (.bool true)) := by
  have HT := Lib.hid hT
  clear hT
  have L1 := Lib.hid (fun w => leaf_any { kind := 1 } (mvOk0 (by decide) (by decide) (by decide) (by decide)) w)
  have L2 := Lib.hid (fun w => leaf_any awX (mvOk0 (by decide) (by decide) (by decide) (by decide)) w)
  rw [ndC_zero] at L1
  unfold awX at L2
  rw [ndC_zero] at L2
  go_enter Tryd.func26, Tryd.ntmps26
  go_wp2_with fail
  refine (L1.out _).mono ?_; intro e w1 hp; obtain ⟨s1, rfl, ho1, hb1⟩ := hp
  obtain ⟨A1, c1, rfl, hr1⟩ := ho1.row
  have HB1 := Lib.hid hb1
  have HR1 := Lib.hid hr1
  clear hb1 ho1 hr1
  go_upto_region 2 with (fail)
  have hx1 := Blk.new w1 #[.slice A1 1 c1] 49
  have hbb1 := (Below.refl w1.heap.size w1).alloc (Nat.le_refl _) (.cells #[.slice A1 1 c1] 49)
  have HX1 := Lib.hid hx1
  have HB2 := Lib.hid (HB1.out.trans (hbb1.mono HB1.out.size))
  have HR12 := Lib.hid (HR1.out.later hbb1)
  clear hx1 hbb1
  generalize w1.alloc (.cells #[.slice A1 1 c1] 49) = w2 at *
  generalize w1.heap.size = b1 at *
  go_wp2_with fail
  refine (L2.out _).mono ?_; intro e w3 hp; obtain ⟨s2, rfl, ho2, hb3⟩ := hp
  obtain ⟨A2, c2, rfl, hr2⟩ := ho2.row
  have W2 : Hid (Calls Tryd.prog 30 #[.int .i64 7, .int .i64 1, .int .i64 2, .agg #[.slice A2 1 c2]] w3 (DPost w3 awB)) := by
    have := wrap_any 7 1 2 [awX] A2 c2 (by simp) (by simp) (fun n hn => by simp at hn; subst hn; exact mvOk0 (by decide) (by decide) (by decide) (by decide)) w3 hr2
    rw [awB_eq] at this; exact this
  have HX13 := Lib.hid (HX1.out.later hb3)
  have HB3 := Lib.hid (HB2.out.trans (hb3.mono HB2.out.size))
  have HR13 := Lib.hid (HR12.out.later hb3)
  clear hb3 ho2 hr2
  go_wp2_with fail
  refine W2.out.mono ?_; intro e w4 hp; obtain ⟨s4, rfl, ho4, hb4⟩ := hp
  obtain ⟨A4, c4, hc4a, hv4, hr4⟩ := ho4.isD
  obtain rfl : s4 = .slice A4 awB.length c4 := by simpa using hv4
  have HC4 : Hid (awB.length ≤ c4) := hc4a
  clear hc4a hv4
  have HX14 := Lib.hid (HX13.out.later hb4)
  have HB4 := Lib.hid (HB3.out.trans (hb4.mono HB3.out.size))
  have HR14 := Lib.hid (HR13.out.later hb4)
  have HR4 := Lib.hid hr4
  clear hb4 ho4 hr4 W2
  go_upto_region 3 with (fail)
  have hx2 := Blk.new w4 #[.slice A4 2 c4] 49
  have hbb2 := (Below.refl w4.heap.size w4).alloc (Nat.le_refl _) (.cells #[.slice A4 2 c4] 49)
  have HX2 := Lib.hid hx2
  have HX15 := Lib.hid (HX14.out.later hbb2)
  have HB5 := Lib.hid (HB4.out.trans (hbb2.mono HB4.out.size))
  have HR15 := Lib.hid (HR14.out.later hbb2)
  have HR25 := Lib.hid (HR4.out.later hbb2)
  clear hx2 hbb2
  have e2 : awB.length = 2 := rfl
  try rw [e2]
  generalize w4.alloc (.cells #[.slice A4 2 c4] 49) = w5 at *
  generalize w4.heap.size = b2 at *
  have k1 := HX15.out.cell 0
  have k2 := HX2.out.cell 0
  simp at k1 k2
  have P3 : Hid (Calls Tryd.prog 29 #[.int .i64 5, .agg #[.slice A1 1 c1], .agg #[.slice A4 2 c4]] w5 (DPost w5 awD)) := by
    have := pair_any 5 awA awB A1 A4 c1 c4 (by decide) (by decide) (by decide) (by decide) (fun n hn => by
      have : ∀ n ∈ awA, n.text.length ≤ 1000 ∧ (-1000 ≤ n.a ∧ n.a ≤ 1000) ∧ (-1000 ≤ n.b ∧ n.b ≤ 1000) := by decide
      obtain ⟨x, y, z⟩ := this n hn; exact mvOk0 x y z (by decide)) (fun n hn => by
      have : ∀ n ∈ awB, n.text.length ≤ 1000 ∧ (-1000 ≤ n.a ∧ n.a ≤ 1000) ∧ (-1000 ≤ n.b ∧ n.b ≤ 1000) := by decide
      obtain ⟨x, y, z⟩ := this n hn; exact mvOk0 x y z (by decide)) w5 HR15.out HR25.out
    rw [awD_eq] at this; exact this
  go_wp2_with fail
  refine P3.out.mono ?_; intro e w6 hp; obtain ⟨s6, rfl, ho6, hb6⟩ := hp
  obtain ⟨A6, c6, hc6, hv6, hr6⟩ := ho6.isD
  obtain rfl : s6 = .slice A6 awD.length c6 := by simpa using hv6
  obtain ⟨bd, od, rfl, -, -⟩ := hr6 0 (by decide)
  have e4 : awD.length = 4 := rfl
  have hc4 : (4 : Nat) ≤ c6 := hc6
  have hc3 : (3 : Int) ≤ (c6 : Int) := by omega
  rw [e4]
  have hbb3 := (Below.refl w6.heap.size w6).alloc (Nat.le_refl _) (.cells #[.slice (some ⟨bd, od, none⟩) 4 c6] 49)
  have HS : Hid (AwN w b1 b2 w6.heap.size A1 A4 bd od c1 c4 c6 (w6.alloc (.cells #[.slice (some ⟨bd, od, none⟩) 4 c6] 49))) :=
    ⟨(HB5.out.trans (hb6.mono HB5.out.size)).trans (hbb3.mono (HB5.out.trans (hb6.mono HB5.out.size)).size),
     (HT.out.later ((HB5.out.trans (hb6.mono HB5.out.size)).trans (hbb3.mono (HB5.out.trans (hb6.mono HB5.out.size)).size))),
     (HX15.out.later hb6).later hbb3, (HX2.out.later hb6).later hbb3, Blk.new _ _ _, (HR15.out.later hb6).later hbb3, (HR25.out.later hb6).later hbb3, hr6.later hbb3⟩
  clear hbb3 hv6 hc6 hb6 hr6 ho6 P3 k1 k2 e2 HX15 HB5 HR15 HR25 HX2 HX14 HB4 HR14 HR4 HX13 HB3 HR13 HR12 HX1 HB2 HB1 HR1 L1 L2
  go_upto_region 4 with (fail)
  generalize w6.alloc (.cells #[.slice (some ⟨bd, od, none⟩) 4 c6] 49) = w7 at *
  generalize w6.heap.size = b3 at *
  have k3 := HS.out.x3.cell 0
  simp at k3
  go_upto_region 6 with (fail)
  clear k3
  have F1 : Hid (∀ w', AwN w b1 b2 b3 A1 A4 bd od c1 c4 c6 w' → Calls Tryd.prog 31 #[.agg #[.slice (some ⟨bd, od, none⟩) 4 c6]] w' (Ans w' (.bool true))) := fun w' h => by
    have := form_any awD (some ⟨bd, od, none⟩) c6 (by decide) awTxt w' h.r3 h.u8
    rwa [formB_eq awD_form] at this
  have F2 : Hid (∀ w', U8T w' → Calls Tryd.prog 31 #[.agg #[.slice none 0 0]] w' (Ans w' (.bool false))) := fun w' h => by
    have := form_any [] none 0 (by decide) (fun n hn => by cases hn) w' (NRow.nil _ _) h
    rwa [awNil] at this
  have F3 : Hid (∀ w', AwN w b1 b2 b3 A1 A4 bd od c1 c4 c6 w' → Calls Tryd.prog 31 #[.agg #[.slice (some ⟨bd, od, none⟩) 3 c6]] w' (Ans w' (.bool false))) := fun w' h => by
    have hr := h.r3.part (f := 0) (k := 3) (by decide)
    rw [Nat.zero_mul, Nat.add_zero] at hr
    have := form_any (awD.take 3) (some ⟨bd, od, none⟩) c6 (by decide) (fun n hn => awTxt n (List.mem_of_mem_take hn)) w' hr h.u8
    rwa [awD_cut] at this
  have F4 : Hid (∀ w', AwN w b1 b2 b3 A1 A4 bd od c1 c4 c6 w' → Calls Tryd.prog 34 #[.agg #[.slice (some ⟨bd, od, none⟩) 4 c6], .int .i64 2] w' (Ans w' (.int .i64 1))) := fun w' h => by
    have := first_any awD (some ⟨bd, od, none⟩) c6 2 (by decide) w' h.r3
    rwa [awD_first2] at this
  have F5 : Hid (∀ w', AwN w b1 b2 b3 A1 A4 bd od c1 c4 c6 w' → Calls Tryd.prog 34 #[.agg #[.slice (some ⟨bd, od, none⟩) 4 c6], .int .i64 3] w' (Ans w' (.int .i64 0))) := fun w' h => by
    have := first_any awD (some ⟨bd, od, none⟩) c6 3 (by decide) w' h.r3
    rwa [awD_first3] at this
  have F6 : Hid (∀ w', AwN w b1 b2 b3 A1 A4 bd od c1 c4 c6 w' → Calls Tryd.prog 33 #[.agg #[.slice (some ⟨bd, od, none⟩) 4 c6], .int .i64 2] w' (DPost w' awB)) := fun w' h => by
    have := sub_any awD (some ⟨bd, od, none⟩) c6 2 hc4 (by decide) (by decide) (awD_form.okTo (by decide)) awTxt w' h.r3
    rwa [awD_sub2] at this
  have F7 : Hid (∀ w', AwN w b1 b2 b3 A1 A4 bd od c1 c4 c6 w' → Calls Tryd.prog 32 #[.agg #[.slice A1 1 c1], .agg #[.slice A4 2 c4]] w' (Ans w' (.bool false))) := fun w' h => nsame_any awA awB A1 A4 c1 c4 w' h.r1 h.r2 (by decide) (by decide)
  have F8 : Hid (∀ w', Calls Tryd.prog 53 #[.agg #[.int .i64 1, .int .i64 1, .int .i64 0, .int .i64 0, .int .i64 0, .int .u64 0, .int .u64 0, .int .u64 0, .int .u64 0, .string ⟨#[]⟩]] w' (DPost w' [awE])) := fun w' => by
    have := leaf_any awE (mvOk0 (by decide) (by decide) (by decide) (by decide)) w'
    unfold awE at this ⊢
    rw [ndC_zero] at this
    exact this
  have hq1 := awq1
  have hq2 := awq2
  have hg1 : ∀ (o1 o2 : Operand) (v1 v2 : Array Value) (w : World), (eqGuard .eql 59 o1 o2 (.agg v1) (.agg v2)).run Tryd.prog w = .ok () w := fun o1 o2 v1 v2 w => by simp [eqGuard, go_sem]
  refine wp_region_stable (S := (AwN w b1 b2 b3 A1 A4 bd od c1 c4 c6)) (hSt := fun _ _ h hb => h.later hb) (plan := [[(3, none)], [(16, some 0)], [(17, some 1)], [(18, some 2)], [], [(19, some 3), (20, some 4)], [(21, some 5)], [(3, none)], [(23, some 7)], [(24, some 8)], [(25, some 9)], [], [(26, some 10), (27, some 11)], [(22, some 6), (28, some 12)], [(29, some 13)], [(3, none)], [(31, some 15)], [(30, some 14), (32, some 16)], [(33, some 17)], [], [(35, some 19)], [(36, some 20)], [(34, some 18), (37, some 21)], [(38, some 22)], [(3, none)], [(40, some 24)], [(41, some 25)], [(42, some 26)], [(43, some 27)], [(44, some 28)], [(39, some 23), (45, some 29)], [(46, some 30)], [(3, none)], [(48, some 32)], [(49, some 33)], [(47, some 31), (50, some 34)], [(51, some 35)], [(3, none)], [(53, some 37)], [(54, some 38)], [(52, some 36), (55, some 39)], [(56, some 40)], [(3, none)], [(58, some 42)], [(2, none)], [(59, some 43), (60, some 44)], [(57, some 41), (61, some 45)], [(62, some 46)], [(1, none)], [(2, none)], [(64, some 48), (65, some 49)], [(66, some 50)], [(63, some 47), (67, some 51)], [(68, some 52)], [], [(70, some 54)], [(71, some 55)], [(72, some 56)], [(69, some 53), (73, some 57)], [(74, some 58)]]) (by kernel_rfl) (by kernel_rfl) (by kernel_rfl) ?hS ?_
  rotate_left
  iterate 43 first
    | (refine chain_skip (by rfl) (by rfl) ?_)
    | (apply chain_want (by rfl)
       · intro act wx hS hr
         simp at hr
         have k1 := hS.x1.cell 0
         have k2 := hS.x2.cell 0
         have k3 := hS.x3.cell 0
         have ⟨a0, a1, a2, a3, a4, a5, a6, a7, a8, a9, d0, d1, d2, d3, d4, d5, d6, d7, d8, d9⟩ := hS.cells
         simp at k1 k2 k3
         go_simp
         (try go_ints)
         first
           | ((with_reducible refine (F1.out _ hS).mono ?_); rintro e w' ⟨rfl, hb⟩; exact Done.mk hb)
           | ((with_reducible refine (F2.out _ hS.u8).mono ?_); rintro e w' ⟨rfl, hb⟩; exact Done.mk hb)
           | ((with_reducible refine (F3.out _ hS).mono ?_); rintro e w' ⟨rfl, hb⟩; exact Done.mk hb)
           | ((with_reducible refine (F4.out _ hS).mono ?_); rintro e w' ⟨rfl, hb⟩; exact Done.mk hb)
           | ((with_reducible refine (F5.out _ hS).mono ?_); rintro e w' ⟨rfl, hb⟩; exact Done.mk hb)
           | ((with_reducible refine (F7.out _ hS).mono ?_); rintro e w' ⟨rfl, hb⟩; exact Done.mk hb)
           | (obtain ⟨v, hr2, hv⟩ := hr.1; simp only [hr2, hr.2]; refine (hv.same (⟨A4, c4, HC4.out, rfl, hS.r2⟩ : IsD awB _ _) (by decide) (by decide)).mono ?_; rintro e w' ⟨rfl, hb⟩; exact Done.mk (v := .bool true) hb)
           | (obtain ⟨v, hr2, hv⟩ := hr; have hf := hv.form (by decide) awETxt hS.u8; rw [awE_form] at hf; simp only [hr2, Option.getD_some]; refine hf.mono ?_; rintro e w' ⟨rfl, hb⟩; exact Done.mk (v := .bool false) hb)
           | exact Done.same
      )
  (refine chain_rel (IsD awB) (IsD.later _) (by rfl) ?_ ?_
   · intro act wx hS hr
     simp at hr
     have k1 := hS.x1.cell 0
     have k2 := hS.x2.cell 0
     have k3 := hS.x3.cell 0
     have ⟨a0, a1, a2, a3, a4, a5, a6, a7, a8, a9, d0, d1, d2, d3, d4, d5, d6, d7, d8, d9⟩ := hS.cells
     simp at k1 k2 k3
     all_goals go_simp
     ((with_reducible refine (F6.out _ hS).mono ?_); intro e w' hp; obtain ⟨s, rfl, ho, hb⟩ := hp; exact Done.rel hb ho.isD)
  )
  iterate 11 first
    | (refine chain_skip (by rfl) (by rfl) ?_)
    | (apply chain_want (by rfl)
       · intro act wx hS hr
         simp at hr
         have k1 := hS.x1.cell 0
         have k2 := hS.x2.cell 0
         have k3 := hS.x3.cell 0
         have ⟨a0, a1, a2, a3, a4, a5, a6, a7, a8, a9, d0, d1, d2, d3, d4, d5, d6, d7, d8, d9⟩ := hS.cells
         simp at k1 k2 k3
         go_simp
         (try go_ints)
         first
           | ((with_reducible refine (F1.out _ hS).mono ?_); rintro e w' ⟨rfl, hb⟩; exact Done.mk hb)
           | ((with_reducible refine (F2.out _ hS.u8).mono ?_); rintro e w' ⟨rfl, hb⟩; exact Done.mk hb)
           | ((with_reducible refine (F3.out _ hS).mono ?_); rintro e w' ⟨rfl, hb⟩; exact Done.mk hb)
           | ((with_reducible refine (F4.out _ hS).mono ?_); rintro e w' ⟨rfl, hb⟩; exact Done.mk hb)
           | ((with_reducible refine (F5.out _ hS).mono ?_); rintro e w' ⟨rfl, hb⟩; exact Done.mk hb)
           | ((with_reducible refine (F7.out _ hS).mono ?_); rintro e w' ⟨rfl, hb⟩; exact Done.mk hb)
           | (obtain ⟨v, hr2, hv⟩ := hr.1; simp only [hr2, hr.2]; refine (hv.same (⟨A4, c4, HC4.out, rfl, hS.r2⟩ : IsD awB _ _) (by decide) (by decide)).mono ?_; rintro e w' ⟨rfl, hb⟩; exact Done.mk (v := .bool true) hb)
           | (obtain ⟨v, hr2, hv⟩ := hr; have hf := hv.form (by decide) awETxt hS.u8; rw [awE_form] at hf; simp only [hr2, Option.getD_some]; refine hf.mono ?_; rintro e w' ⟨rfl, hb⟩; exact Done.mk (v := .bool false) hb)
           | exact Done.same
      )
  (refine chain_rel (IsD [awE]) (IsD.later _) (by rfl) ?_ ?_
   · intro act wx hS hr
     simp at hr
     have k1 := hS.x1.cell 0
     have k2 := hS.x2.cell 0
     have k3 := hS.x3.cell 0
     have ⟨a0, a1, a2, a3, a4, a5, a6, a7, a8, a9, d0, d1, d2, d3, d4, d5, d6, d7, d8, d9⟩ := hS.cells
     simp at k1 k2 k3
     all_goals go_simp
     ((with_reducible refine (F8.out _).mono ?_); intro e w' hp; obtain ⟨s, rfl, ho, hb⟩ := hp; exact Done.rel hb ho.isD)
  )
  iterate 4 first
    | (refine chain_skip (by rfl) (by rfl) ?_)
    | (apply chain_want (by rfl)
       · intro act wx hS hr
         simp at hr
         have k1 := hS.x1.cell 0
         have k2 := hS.x2.cell 0
         have k3 := hS.x3.cell 0
         have ⟨a0, a1, a2, a3, a4, a5, a6, a7, a8, a9, d0, d1, d2, d3, d4, d5, d6, d7, d8, d9⟩ := hS.cells
         simp at k1 k2 k3
         go_simp
         (try go_ints)
         first
           | ((with_reducible refine (F1.out _ hS).mono ?_); rintro e w' ⟨rfl, hb⟩; exact Done.mk hb)
           | ((with_reducible refine (F2.out _ hS.u8).mono ?_); rintro e w' ⟨rfl, hb⟩; exact Done.mk hb)
           | ((with_reducible refine (F3.out _ hS).mono ?_); rintro e w' ⟨rfl, hb⟩; exact Done.mk hb)
           | ((with_reducible refine (F4.out _ hS).mono ?_); rintro e w' ⟨rfl, hb⟩; exact Done.mk hb)
           | ((with_reducible refine (F5.out _ hS).mono ?_); rintro e w' ⟨rfl, hb⟩; exact Done.mk hb)
           | ((with_reducible refine (F7.out _ hS).mono ?_); rintro e w' ⟨rfl, hb⟩; exact Done.mk hb)
           | (obtain ⟨v, hr2, hv⟩ := hr.1; simp only [hr2, hr.2]; refine (hv.same (⟨A4, c4, HC4.out, rfl, hS.r2⟩ : IsD awB _ _) (by decide) (by decide)).mono ?_; rintro e w' ⟨rfl, hb⟩; exact Done.mk (v := .bool true) hb)
           | (obtain ⟨v, hr2, hv⟩ := hr; have hf := hv.form (by decide) awETxt hS.u8; rw [awE_form] at hf; simp only [hr2, Option.getD_some]; refine hf.mono ?_; rintro e w' ⟨rfl, hb⟩; exact Done.mk (v := .bool false) hb)
           | exact Done.same
      )
  show ∀ w', _ → _
  intro wz hz
  simp [Act.put]
  case hS => exact HS.out
  have HZ := Lib.hid hz
  clear hz
  intros
  go_wp2
  go_ret
  exact ⟨rfl, HZ.out.bel⟩
end Go.Proofs.YtgehepiphdphjaaDoor
