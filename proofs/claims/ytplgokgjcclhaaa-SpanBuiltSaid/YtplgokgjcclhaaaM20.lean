/- Spans: what they are made of, walked. -/
import Derived.Test.YtplgokgjcclhaaaM19
import Derived.Test.YtplgokgjcclhaaaM08
import Derived.Laws.EntriesVeiled
namespace Go.Proofs.Ytplgokgjcclhaaa
open Go Go.RowKit
set_option linter.unusedVariables false
set_option linter.unusedSimpArgs false
set_option maxRecDepth 100000
set_option maxHeartbeats 16000000

theorem equal_sp (a b c d : Int) (w : World) : (Op.equal 48 (.agg #[.int .i64 a, .int .i64 b]) (.agg #[.int .i64 c, .int .i64 d])).run Try.prog w = .ok (a == c && b == d) w := by
  have hu : Try.prog.underlying 48 = some (.struct (Try.prog.fieldsOf 48)) := by kernel_rfl
  show (Op.equalIn (9999 + 1) 48 _ _).run Try.prog w = _
  rw [run_equalIn_struct w 9999 _ _ _ hu (by kernel_rfl)]
  simp only [Program.fieldsOf, Try.underlying48]
  have hi : ∀ (a b : Int) w, (Op.equalIn 9999 3 (.int .i64 a) (.int .i64 b)).run Try.prog w = .ok (a == b) w := fun a b w => equalIn_i64 9998 a b w
  simp [Op.eqFields, part, go_sem, hi]
  clear hi hu
  by_cases h1 : a = c <;> by_cases h2 : b = d <;> simp [h1, h2]
theorem eql_sp (a b c d : Int) (w : World) : (binOp .eql 48 (.agg #[.int .i64 a, .int .i64 b]) (.agg #[.int .i64 c, .int .i64 d])).run Try.prog w = .ok (.bool (a == c && b == d)) w := by
  have h := equal_sp a b c d w
  simp only [binOp]
  simp [h]
theorem eqGuard_eql_sp (o1 o2 : Operand) (a b c d : Int) (w : World) : (eqGuard .eql 48 o1 o2 (.agg #[.int .i64 a, .int .i64 b]) (.agg #[.int .i64 c, .int .i64 d])).run Try.prog w = .ok () w := by
  simp [eqGuard, go_sem]
theorem snothing_any (w : World) : Calls Try.prog 33 #[] w (Ans w (.agg #[.int .i64 (-1), .int .i64 (-1)])) := by
  go_enter Try.func33, Try.ntmps33
  go_wp2
  have s0 := (Blk.new w #[.int .i64 (-1), .int .i64 (-1)] 48).cell 0
  have s1 := (Blk.new w #[.int .i64 (-1), .int .i64 (-1)] 48).cell 1
  simp at s0 s1
  exact bodyPost_ret (v := .agg #[.int .i64 (-1), .int .i64 (-1)]) (by simp [results, Try.results33, go_sem, s0, s1]) rfl ⟨rfl, (Below.refl _ _).alloc (Nat.le_refl _) _⟩
theorem swithin_any (lo hi : Int) (w : World) : Calls Try.prog 27 #[.int .i64 lo, .int .i64 hi] w (Ans w (.agg #[.int .i64 (min lo 1099511627776), .int .i64 (bndS hi)])) := by
  by_cases h : 1099511627776 < hi
  · have e : bndS hi = -1 := by unfold bndS mxS; rw [if_pos h]
    have hz : hi > 1099511627776 := h
    rw [e]
    clear e
    go_enter Try.func27, Try.ntmps27
    go_wp2
    have s0 := (Blk.new w #[.int .i64 (min lo 1099511627776), .int .i64 (-1)] 48).cell 0
    have s1 := (Blk.new w #[.int .i64 (min lo 1099511627776), .int .i64 (-1)] 48).cell 1
    simp at s0 s1
    exact bodyPost_ret (v := .agg #[.int .i64 (min lo 1099511627776), .int .i64 (-1)]) (by simp [results, Try.results27, go_sem, s0, s1]) rfl ⟨rfl, (Below.refl _ _).alloc (Nat.le_refl _) _⟩
  · have e : bndS hi = hi := by unfold bndS mxS; rw [if_neg h]
    have hz : ¬ hi > 1099511627776 := h
    rw [e]
    clear e
    go_enter Try.func27, Try.ntmps27
    go_wp2
    have s0 := (Blk.new w #[.int .i64 (min lo 1099511627776), .int .i64 hi] 48).cell 0
    have s1 := (Blk.new w #[.int .i64 (min lo 1099511627776), .int .i64 hi] 48).cell 1
    simp at s0 s1
    exact bodyPost_ret (v := .agg #[.int .i64 (min lo 1099511627776), .int .i64 hi]) (by simp [results, Try.results27, go_sem, s0, s1]) rfl ⟨rfl, (Below.refl _ _).alloc (Nat.le_refl _) _⟩
theorem ssum_any (a b : Int) (h1 : -2251799813685248 ≤ a ∧ a ≤ 2251799813685248) (h2 : -2251799813685248 ≤ b ∧ b ≤ 2251799813685248) (w : World) : Calls Try.prog 36 #[.int .i64 a, .int .i64 b] w (Pure w (.int .i64 (a + b))) := by
  go_enter Try.func36, Try.ntmps36
  go_wp2
  go_ret
  exact ⟨rfl, rfl⟩
theorem slesser_any (a b : Int) (w : World) : Calls Try.prog 39 #[.int .i64 a, .int .i64 b] w (Pure w (.int .i64 (min a b))) := by
  go_enter Try.func39, Try.ntmps39
  go_wp2
  go_ret
  exact ⟨rfl, rfl⟩
theorem sgreater_any (a b : Int) (w : World) : Calls Try.prog 40 #[.int .i64 a, .int .i64 b] w (Pure w (.int .i64 (max a b))) := by
  go_enter Try.func40, Try.ntmps40
  go_wp2
  go_ret
  exact ⟨rfl, rfl⟩
theorem stimes_any (n k : Int) (h1 : 0 ≤ n) (h2 : n ≤ 255) (h3 : -1 ≤ k) (h4 : k ≤ 2251799813685248) (w : World) : Calls Try.prog 42 #[.int .i64 n, .int .i64 k] w (Pure w (.int .i64 (n * k))) := by
  have hm1 : min n 255 = n := by omega
  have hm2 : max 0 n = n := by omega
  have hb : n * k ≤ 255 * 2251799813685248 := by
    by_cases hk : k < 0
    · have : n * k ≤ 0 := Int.mul_nonpos_of_nonneg_of_nonpos h1 (by omega)
      omega
    · exact Int.mul_le_mul h2 h4 (by omega) (by omega)
  have ha : -255 ≤ n * k := by
    by_cases hk : k < 0
    · have e : k = -1 := by omega
      rw [e]; omega
    · have : 0 ≤ n * k := Int.mul_nonneg h1 (by omega)
      omega
  have hw : wrap64 (n * k) = n * k := by unfold wrap64; omega
  have HW := Lib.hid hw
  clear hw ha hb
  go_enter Try.func42, Try.ntmps42
  go_wp2
  (try rw [hm1])
  (try rw [hm2])
  (try rw [HW.out])
  go_ret
  exact ⟨rfl, rfl⟩
/-- Functions as values. -/
def fnV (f : FuncId) : Value := .func (.func f) #[] #[]
def fB (bx : Nat) : Value := .func (.func 45) #[] #[.pointer (some ⟨bx, 0, none⟩)]
def fJ (bl bh : Nat) : Value := .func (.func 44) #[] #[.pointer (some ⟨bl, 0, none⟩), .pointer (some ⟨bh, 0, none⟩)]
def fR (bj : Nat) : Value := .func (.func 38) #[] #[.pointer (some ⟨bj, 0, none⟩)]
def fO (bj : Nat) : Value := .func (.func 41) #[] #[.pointer (some ⟨bj, 0, none⟩)]
/-- What joins two spans' lengths. -/
structure CloS (bl bh bx : Nat) (fl fh : Value) (w : World) : Prop where
  los : Blk w bl #[fl] 66
  his : Blk w bh #[fB bx] 66
  inn : Blk w bx #[fh] 66
theorem CloS.later {bl bh bx : Nat} {fl fh : Value} {w w' : World} (h : CloS bl bh bx fl fh w) (hb : Below w.heap.size w w') : CloS bl bh bx fl fh w' := ⟨h.los.later hb, h.his.later hb, h.inn.later hb⟩
/-- Greatest lengths joined by j, to no bound if either has none. -/
def bndJ (j : Int → Int → Int) (a b : Int) : Int := if a < 0 ∨ b < 0 then -1 else j a b
theorem sbsum_any (a b : Int) (h1 : -1 ≤ a ∧ a ≤ 1099511627776) (h2 : -1 ≤ b ∧ b ≤ 1099511627776) {bx : Nat} {w : World} (h : Blk w bx #[fnV 36] 66) :
    Calls Try.prog 45 #[.int .i64 a, .int .i64 b, .pointer (some ⟨bx, 0, none⟩)] w (Pure w (.int .i64 (bndJ HAdd.hAdd a b))) := by
  have e0 := h.cell 0
  simp [fnV] at e0
  have hent := enters_of Try.func36 (by kernel_rfl) rfl
  have CF := Lib.hid (ssum_any a b (by omega) (by omega) w)
  clear h
  by_cases ha : a = -1
  · have hz : (a == -1) = true := by simp [ha]
    have e : bndJ HAdd.hAdd a b = -1 := by unfold bndJ; rw [if_pos (by omega)]
    rw [e]
    clear ha e CF
    go_enter Try.func45, Try.ntmps45
    go_wp2
    go_ret
    exact ⟨rfl, rfl⟩
  · have hz : (a == -1) = false := by rw [beq_eq_false_iff_ne]; exact ha
    by_cases hb : b = -1
    · have hy : (b == -1) = true := by simp [hb]
      have e : bndJ HAdd.hAdd a b = -1 := by unfold bndJ; rw [if_pos (by omega)]
      rw [e]
      clear ha hb e CF
      go_enter Try.func45, Try.ntmps45
      go_wp2
      go_ret
      exact ⟨rfl, rfl⟩
    · have hy : (b == -1) = false := by rw [beq_eq_false_iff_ne]; exact hb
      have e : bndJ HAdd.hAdd a b = HAdd.hAdd a b := by unfold bndJ; rw [if_neg (by omega)]
      rw [e]
      clear ha hb e
      go_enter Try.func45, Try.ntmps45
      go_wp2_with fail
      refine CF.out.mono ?_; rintro e w2 ⟨rfl, rfl⟩
      go_wp2
      go_ret
      exact ⟨rfl, rfl⟩
theorem sbmax_any (a b : Int) (h1 : -1 ≤ a ∧ a ≤ 1099511627776) (h2 : -1 ≤ b ∧ b ≤ 1099511627776) {bx : Nat} {w : World} (h : Blk w bx #[fnV 40] 66) :
    Calls Try.prog 45 #[.int .i64 a, .int .i64 b, .pointer (some ⟨bx, 0, none⟩)] w (Pure w (.int .i64 (bndJ max a b))) := by
  have e0 := h.cell 0
  simp [fnV] at e0
  have hent := enters_of Try.func40 (by kernel_rfl) rfl
  have CF := Lib.hid (sgreater_any a b w)
  clear h
  by_cases ha : a = -1
  · have hz : (a == -1) = true := by simp [ha]
    have e : bndJ max a b = -1 := by unfold bndJ; rw [if_pos (by omega)]
    rw [e]
    clear ha e CF
    go_enter Try.func45, Try.ntmps45
    go_wp2
    go_ret
    exact ⟨rfl, rfl⟩
  · have hz : (a == -1) = false := by rw [beq_eq_false_iff_ne]; exact ha
    by_cases hb : b = -1
    · have hy : (b == -1) = true := by simp [hb]
      have e : bndJ max a b = -1 := by unfold bndJ; rw [if_pos (by omega)]
      rw [e]
      clear ha hb e CF
      go_enter Try.func45, Try.ntmps45
      go_wp2
      go_ret
      exact ⟨rfl, rfl⟩
    · have hy : (b == -1) = false := by rw [beq_eq_false_iff_ne]; exact hb
      have e : bndJ max a b = max a b := by unfold bndJ; rw [if_neg (by omega)]
      rw [e]
      clear ha hb e
      go_enter Try.func45, Try.ntmps45
      go_wp2_with fail
      refine CF.out.mono ?_; rintro e w2 ⟨rfl, rfl⟩
      go_wp2
      go_ret
      exact ⟨rfl, rfl⟩
/-- Two spans in their boxes, and what joins them. -/
structure JnS (w0 : World) (a b c d : Int) (bl bh bx : Nat) (fl fh : Value) (w : World) : Prop where
  bel : Below w0.heap.size w0 w
  pa : Blk w w0.heap.size #[.int .i64 a, .int .i64 b] 48
  pb : Blk w (w0.heap.size + 1) #[.int .i64 c, .int .i64 d] 48
  pr : Blk w (w0.heap.size + 2) #[.int .i64 0, .int .i64 0] 48
  cl : CloS bl bh bx fl fh w
theorem JnS.later {w0 w w' : World} {a b c d : Int} {bl bh bx : Nat} {fl fh : Value} (h : JnS w0 a b c d bl bh bx fl fh w) (hb : Below w.heap.size w w') : JnS w0 a b c d bl bh bx fl fh w' := ⟨h.bel.trans (hb.mono h.bel.size), h.pa.later hb, h.pb.later hb, h.pr.later hb, h.cl.later hb⟩
theorem JnS.new {w : World} {a b c d : Int} {bl bh bx : Nat} {fl fh : Value} (h : CloS bl bh bx fl fh w) : JnS w a b c d bl bh bx fl fh (((w.alloc (.cells #[.int .i64 a, .int .i64 b] 48)).alloc (.cells #[.int .i64 c, .int .i64 d] 48)).alloc (.cells #[.int .i64 0, .int .i64 0] 48)) := by
  have HB := (((Below.refl w.heap.size w).alloc (Nat.le_refl _) (.cells #[.int .i64 a, .int .i64 b] 48)).alloc (by simp) (.cells #[.int .i64 c, .int .i64 d] 48)).alloc (by simp; omega) (.cells #[.int .i64 0, .int .i64 0] 48)
  exact ⟨HB, ((Blk.new w _ _).alloc _).alloc _, (Blk.new' (by simp) _ _).alloc _, Blk.new' (by simp) _ _, h.later HB⟩
/-- Both cells of a block turned. -/
theorem Blk.both {w : World} {b : Nat} {x y : Value} {t : TypeId} (h : Blk w b #[x, y] t) (u v : Value) : Blk ((w.setCell ⟨b, 0, none⟩ u).setCell ⟨b, 1, none⟩ v) b #[u, v] t := by
  have := (h.setCell 0 u).setCell 1 v
  simpa using this
theorem bel_both {B b : Nat} {a w : World} (h : Below B a w) (hb : B ≤ b) (u v : Value) : Below B a ((w.setCell ⟨b, 0, none⟩ u).setCell ⟨b, 1, none⟩ v) := (h.setCell (p := ⟨b, 0, none⟩) hb _).setCell (p := ⟨b, 1, none⟩) hb _
theorem sjsum_any (a b c d : Int) (h1 : 0 ≤ a ∧ a ≤ 1099511627776) (h2 : -1 ≤ b ∧ b ≤ 1099511627776) (h3 : 0 ≤ c ∧ c ≤ 1099511627776) (h4 : -1 ≤ d ∧ d ≤ 1099511627776) {bl bh bx : Nat} {w : World} (h : CloS bl bh bx (fnV 36) (fnV 36) w) :
    Calls Try.prog 44 #[.agg #[.int .i64 a, .int .i64 b], .agg #[.int .i64 c, .int .i64 d], .pointer (some ⟨bl, 0, none⟩), .pointer (some ⟨bh, 0, none⟩)] w (Ans w (.agg #[.int .i64 (min (HAdd.hAdd a c) 1099511627776), .int .i64 (bndS (bndJ HAdd.hAdd b d))])) := by
  have HS0 := Lib.hid (JnS.new (a := a) (b := b) (c := c) (d := d) h)
  have hent := enters_of Try.func36 (by kernel_rfl) rfl
  have hent2 := enters_of Try.func45 (by kernel_rfl) rfl
  have CL : Hid (∀ w', Calls Try.prog 36 #[.int .i64 a, .int .i64 c] w' (Pure w' (.int .i64 (HAdd.hAdd a c)))) := fun w' => ssum_any a c (by omega) (by omega) w'
  have CH : Hid (∀ w', JnS w a b c d bl bh bx (fnV 36) (fnV 36) w' → Calls Try.prog 45 #[.int .i64 b, .int .i64 d, .pointer (some ⟨bx, 0, none⟩)] w' (Pure w' (.int .i64 (bndJ HAdd.hAdd b d)))) := fun w' h => sbsum_any b d h2 h4 h.cl.inn
  clear h h1 h2 h3 h4
  generalize HAdd.hAdd a c = x at *
  generalize bndJ HAdd.hAdd b d = y at *
  have CW : Hid (∀ w', Calls Try.prog 27 #[.int .i64 x, .int .i64 y] w' (Ans w' (.agg #[.int .i64 (min x 1099511627776), .int .i64 (bndS y)]))) := fun w' => swithin_any x y w'
  generalize min x 1099511627776 = p at *
  generalize bndS y = q at *
  go_enter Try.func44, Try.ntmps44
  go_upto_region 1 with (fail)
  generalize ((w.alloc (.cells #[.int .i64 a, .int .i64 b] 48)).alloc (.cells #[.int .i64 c, .int .i64 d] 48)).alloc (.cells #[.int .i64 0, .int .i64 0] 48) = w1 at *
  refine wp_region_stable_tail 12 (S := (JnS w a b c d bl bh bx (fnV 36) (fnV 36))) (hSt := fun _ _ h hb => h.later hb) (plan := [[(2, none)], [(4, none)], [(8, some 1)], [(5, none)], [(10, some 3)], [(7, some 0), (9, some 2), (11, some 4)], [(3, none)], [(4, none)], [(14, some 7)], [(5, none)], [(16, some 9)], [(13, some 6), (15, some 8), (17, some 10)]]) rfl rfl (by kernel_rfl) (by kernel_rfl) (by kernel_rfl) (by kernel_rfl) ?hS ?_
  rotate_left
  iterate 12 first
    | (refine chain_skip (by rfl) (by rfl) ?_)
    | (apply chain_want (by rfl)
       · intro act wx hS hr
         simp at hr
         have a0 := hS.pa.cell 0
         have a1 := hS.pa.cell 1
         have b0 := hS.pb.cell 0
         have b1 := hS.pb.cell 1
         have c0 := hS.cl.los.cell 0
         have c1 := hS.cl.his.cell 0
         simp [fnV, fB] at a0 a1 b0 b1 c0 c1
         go_simp
         (try go_ints)
         first
           | ((with_reducible refine (CL.out _).mono ?_); rintro e w' ⟨rfl, rfl⟩; exact Done.same)
           | ((with_reducible refine (CH.out _ hS).mono ?_); rintro e w' ⟨rfl, rfl⟩; exact Done.same)
           | exact Done.same
      )
  show ∀ w', _ → _
  intro wz hz
  simp [Act.put]
  case hS => exact HS0.out
  have HS2 := Lib.hid hz
  clear hz HS0
  go_wp2_with fail
  refine (CW.out _).mono ?_; rintro e w2 ⟨rfl, hb⟩
  have HS3 := Lib.hid (HS2.out.later hb)
  clear hb HS2
  have f0 := HS3.out.pr.frozen 0
  have f1 := HS3.out.pr.frozen 1
  have r0 := HS3.out.pr.cell 0
  have r1 := HS3.out.pr.cell 1
  simp at r0 r1
  have HR := Lib.hid (HS3.out.pr.both (.int .i64 p) (.int .i64 q))
  have HB := Lib.hid (bel_both HS3.out.bel (b := w.heap.size + 2) (by omega) (.int .i64 p) (.int .i64 q))
  clear HS3
  go_wp2
  have s0 := HR.out.cell 0
  have s1 := HR.out.cell 1
  simp at s0 s1
  exact bodyPost_ret (v := .agg #[.int .i64 p, .int .i64 q]) (by simp [results, Try.results44, go_sem, s0, s1]) rfl ⟨rfl, HB.out⟩
theorem sjmax_any (a b c d : Int) (h1 : 0 ≤ a ∧ a ≤ 1099511627776) (h2 : -1 ≤ b ∧ b ≤ 1099511627776) (h3 : 0 ≤ c ∧ c ≤ 1099511627776) (h4 : -1 ≤ d ∧ d ≤ 1099511627776) {bl bh bx : Nat} {w : World} (h : CloS bl bh bx (fnV 39) (fnV 40) w) :
    Calls Try.prog 44 #[.agg #[.int .i64 a, .int .i64 b], .agg #[.int .i64 c, .int .i64 d], .pointer (some ⟨bl, 0, none⟩), .pointer (some ⟨bh, 0, none⟩)] w (Ans w (.agg #[.int .i64 (min (min a c) 1099511627776), .int .i64 (bndS (bndJ max b d))])) := by
  have HS0 := Lib.hid (JnS.new (a := a) (b := b) (c := c) (d := d) h)
  have hent := enters_of Try.func39 (by kernel_rfl) rfl
  have hent2 := enters_of Try.func45 (by kernel_rfl) rfl
  have CL : Hid (∀ w', Calls Try.prog 39 #[.int .i64 a, .int .i64 c] w' (Pure w' (.int .i64 (min a c)))) := fun w' => slesser_any a c w'
  have CH : Hid (∀ w', JnS w a b c d bl bh bx (fnV 39) (fnV 40) w' → Calls Try.prog 45 #[.int .i64 b, .int .i64 d, .pointer (some ⟨bx, 0, none⟩)] w' (Pure w' (.int .i64 (bndJ max b d)))) := fun w' h => sbmax_any b d h2 h4 h.cl.inn
  clear h h1 h2 h3 h4
  generalize min a c = x at *
  generalize bndJ max b d = y at *
  have CW : Hid (∀ w', Calls Try.prog 27 #[.int .i64 x, .int .i64 y] w' (Ans w' (.agg #[.int .i64 (min x 1099511627776), .int .i64 (bndS y)]))) := fun w' => swithin_any x y w'
  generalize min x 1099511627776 = p at *
  generalize bndS y = q at *
  go_enter Try.func44, Try.ntmps44
  go_upto_region 1 with (fail)
  generalize ((w.alloc (.cells #[.int .i64 a, .int .i64 b] 48)).alloc (.cells #[.int .i64 c, .int .i64 d] 48)).alloc (.cells #[.int .i64 0, .int .i64 0] 48) = w1 at *
  refine wp_region_stable_tail 12 (S := (JnS w a b c d bl bh bx (fnV 39) (fnV 40))) (hSt := fun _ _ h hb => h.later hb) (plan := [[(2, none)], [(4, none)], [(8, some 1)], [(5, none)], [(10, some 3)], [(7, some 0), (9, some 2), (11, some 4)], [(3, none)], [(4, none)], [(14, some 7)], [(5, none)], [(16, some 9)], [(13, some 6), (15, some 8), (17, some 10)]]) rfl rfl (by kernel_rfl) (by kernel_rfl) (by kernel_rfl) (by kernel_rfl) ?hS ?_
  rotate_left
  iterate 12 first
    | (refine chain_skip (by rfl) (by rfl) ?_)
    | (apply chain_want (by rfl)
       · intro act wx hS hr
         simp at hr
         have a0 := hS.pa.cell 0
         have a1 := hS.pa.cell 1
         have b0 := hS.pb.cell 0
         have b1 := hS.pb.cell 1
         have c0 := hS.cl.los.cell 0
         have c1 := hS.cl.his.cell 0
         simp [fnV, fB] at a0 a1 b0 b1 c0 c1
         go_simp
         (try go_ints)
         first
           | ((with_reducible refine (CL.out _).mono ?_); rintro e w' ⟨rfl, rfl⟩; exact Done.same)
           | ((with_reducible refine (CH.out _ hS).mono ?_); rintro e w' ⟨rfl, rfl⟩; exact Done.same)
           | exact Done.same
      )
  show ∀ w', _ → _
  intro wz hz
  simp [Act.put]
  case hS => exact HS0.out
  have HS2 := Lib.hid hz
  clear hz HS0
  go_wp2_with fail
  refine (CW.out _).mono ?_; rintro e w2 ⟨rfl, hb⟩
  have HS3 := Lib.hid (HS2.out.later hb)
  clear hb HS2
  have f0 := HS3.out.pr.frozen 0
  have f1 := HS3.out.pr.frozen 1
  have r0 := HS3.out.pr.cell 0
  have r1 := HS3.out.pr.cell 1
  simp at r0 r1
  have HR := Lib.hid (HS3.out.pr.both (.int .i64 p) (.int .i64 q))
  have HB := Lib.hid (bel_both HS3.out.bel (b := w.heap.size + 2) (by omega) (.int .i64 p) (.int .i64 q))
  clear HS3
  go_wp2
  have s0 := HR.out.cell 0
  have s1 := HR.out.cell 1
  simp at s0 s1
  exact bodyPost_ret (v := .agg #[.int .i64 p, .int .i64 q]) (by simp [results, Try.results44, go_sem, s0, s1]) rfl ⟨rfl, HB.out⟩
end Go.Proofs.Ytplgokgjcclhaaa
/- Spans: what joins two: walked. -/
namespace Go.Proofs.Ytplgokgjcclhaaa
open Go Go.RowKit
set_option linter.unusedVariables false
set_option linter.unusedSimpArgs false
set_option maxRecDepth 100000
set_option maxHeartbeats 16000000

/-- Of two spans, as a row's or an or's: in memory. -/
structure RcS (bj : Nat) (fl fh : FuncId) (w : World) : Prop where
  ex : ∃ bl bh bx, Blk w bj #[fJ bl bh] 59 ∧ CloS bl bh bx (fnV fl) (fnV fh) w
theorem RcS.later {bj : Nat} {fl fh : FuncId} {w w' : World} (h : RcS bj fl fh w) (hb : Below w.heap.size w w') : RcS bj fl fh w' := by
  obtain ⟨bl, bh, bx, h1, h2⟩ := h.ex
  exact ⟨bl, bh, bx, h1.later hb, h2.later hb⟩
theorem sbounded_mk (f : FuncId) (w : World) : Calls Try.prog 37 #[fnV f] w (fun e w' => e = .returned (fB w.heap.size) ∧ w' = w.alloc (.cells #[fnV f] 66)) := by
  unfold fnV
  go_enter Try.func37, Try.ntmps37
  go_wp2
  go_ret
  exact ⟨rfl, rfl⟩
theorem sjoined_mk (f : FuncId) (b : Nat) (w : World) : Calls Try.prog 35 #[fnV f, fB b] w (fun e w' => e = .returned (fJ w.heap.size (w.heap.size + 1)) ∧ w' = (w.alloc (.cells #[fnV f] 66)).alloc (.cells #[fB b] 66)) := by
  unfold fnV fB
  go_enter Try.func35, Try.ntmps35
  go_wp2
  go_ret
  exact ⟨rfl, rfl⟩
theorem sinrow_mk (w : World) : Calls Try.prog 28 #[] w (fun e w' => ∃ bj, e = .returned (fR bj) ∧ RcS bj 36 36 w' ∧ Below w.heap.size w w') := by
  have H1 := Lib.hid (sbounded_mk 36 w)
  have HB1 := (Below.refl w.heap.size w).alloc (Nat.le_refl _) (.cells #[fnV 36] 66)
  have K1 := Blk.new w #[fnV 36] 66
  generalize hw1 : w.alloc (.cells #[fnV 36] 66) = w1 at *
  have H2 := Lib.hid (sjoined_mk 36 w.heap.size w1)
  have HB2 := ((Below.refl w1.heap.size w1).alloc (Nat.le_refl _) (.cells #[fnV 36] 66)).alloc (by simp) (.cells #[fB w.heap.size] 66)
  have K2 := (Blk.new w1 #[fnV 36] 66).alloc (.cells #[fB w.heap.size] 66)
  have K3 := Blk.new' (w := w1.alloc (.cells #[fnV 36] 66)) (b := w1.heap.size + 1) (by simp) #[fB w.heap.size] 66
  generalize hw2 : (w1.alloc (.cells #[fnV 36] 66)).alloc (.cells #[fB w.heap.size] 66) = w2 at *
  have HC : Hid (CloS w1.heap.size (w1.heap.size + 1) w.heap.size (fnV 36) (fnV 36) w2) := ⟨K2, K3, K1.later HB2⟩
  have HB := Lib.hid (HB1.trans (HB2.mono HB1.size))
  clear HB1 HB2 K1 K2 K3 hw1 hw2
  generalize w1.heap.size = bl at *
  generalize bl + 1 = bh at *
  have hb4 := (Below.refl w2.heap.size w2).alloc (Nat.le_refl _) (.cells #[fJ bl bh] 59)
  have HR : Hid (RcS w2.heap.size 36 36 (w2.alloc (.cells #[fJ bl bh] 59))) := ⟨bl, bh, _, Blk.new w2 _ _, HC.out.later hb4⟩
  have HB4 := Lib.hid (HB.out.trans (hb4.mono HB.out.size))
  clear hb4 HB HC
  unfold fnV fB at H1 H2
  unfold fJ at H2 HR HB4
  go_enter Try.func28, Try.ntmps28
  go_wp2_with fail
  refine H1.out.mono ?_; rintro e w3 ⟨rfl, rfl⟩
  go_wp2_with fail
  refine H2.out.mono ?_; rintro e w3 ⟨rfl, rfl⟩
  go_wp2
  go_ret
  exact ⟨_, rfl, HR.out, HB4.out⟩
theorem soneof_mk (w : World) : Calls Try.prog 29 #[] w (fun e w' => ∃ bj, e = .returned (fO bj) ∧ RcS bj 39 40 w' ∧ Below w.heap.size w w') := by
  have H1 := Lib.hid (sbounded_mk 40 w)
  have HB1 := (Below.refl w.heap.size w).alloc (Nat.le_refl _) (.cells #[fnV 40] 66)
  have K1 := Blk.new w #[fnV 40] 66
  generalize hw1 : w.alloc (.cells #[fnV 40] 66) = w1 at *
  have H2 := Lib.hid (sjoined_mk 39 w.heap.size w1)
  have HB2 := ((Below.refl w1.heap.size w1).alloc (Nat.le_refl _) (.cells #[fnV 39] 66)).alloc (by simp) (.cells #[fB w.heap.size] 66)
  have K2 := (Blk.new w1 #[fnV 39] 66).alloc (.cells #[fB w.heap.size] 66)
  have K3 := Blk.new' (w := w1.alloc (.cells #[fnV 39] 66)) (b := w1.heap.size + 1) (by simp) #[fB w.heap.size] 66
  generalize hw2 : (w1.alloc (.cells #[fnV 39] 66)).alloc (.cells #[fB w.heap.size] 66) = w2 at *
  have HC : Hid (CloS w1.heap.size (w1.heap.size + 1) w.heap.size (fnV 39) (fnV 40) w2) := ⟨K2, K3, K1.later HB2⟩
  have HB := Lib.hid (HB1.trans (HB2.mono HB1.size))
  clear HB1 HB2 K1 K2 K3 hw1 hw2
  generalize w1.heap.size = bl at *
  generalize bl + 1 = bh at *
  have hb4 := (Below.refl w2.heap.size w2).alloc (Nat.le_refl _) (.cells #[fJ bl bh] 59)
  have HR : Hid (RcS w2.heap.size 39 40 (w2.alloc (.cells #[fJ bl bh] 59))) := ⟨bl, bh, _, Blk.new w2 _ _, HC.out.later hb4⟩
  have HB4 := Lib.hid (HB.out.trans (hb4.mono HB.out.size))
  clear hb4 HB HC
  unfold fnV fB at H1 H2
  unfold fJ at H2 HR HB4
  go_enter Try.func29, Try.ntmps29
  go_wp2_with fail
  refine H1.out.mono ?_; rintro e w3 ⟨rfl, rfl⟩
  go_wp2_with fail
  refine H2.out.mono ?_; rintro e w3 ⟨rfl, rfl⟩
  go_wp2
  go_ret
  exact ⟨_, rfl, HR.out, HB4.out⟩
/-- Two spans in their boxes, and what is made of them. -/
structure SpRo (w0 : World) (a b c d : Int) (bj bl bh : Nat) (w : World) : Prop where
  bel : Below w0.heap.size w0 w
  pa : Blk w w0.heap.size #[.int .i64 a, .int .i64 b] 48
  pb : Blk w (w0.heap.size + 1) #[.int .i64 c, .int .i64 d] 48
  pr : Blk w (w0.heap.size + 2) #[.int .i64 0, .int .i64 0] 48
  fj : Blk w bj #[fJ bl bh] 59
theorem SpRo.later {w0 w w' : World} {a b c d : Int} {bj bl bh : Nat} (h : SpRo w0 a b c d bj bl bh w) (hb : Below w.heap.size w w') : SpRo w0 a b c d bj bl bh w' := ⟨h.bel.trans (hb.mono h.bel.size), h.pa.later hb, h.pb.later hb, h.pr.later hb, h.fj.later hb⟩
theorem SpRo.new {w : World} {a b c d : Int} {bj bl bh : Nat} (h : Blk w bj #[fJ bl bh] 59) : SpRo w a b c d bj bl bh (((w.alloc (.cells #[.int .i64 a, .int .i64 b] 48)).alloc (.cells #[.int .i64 c, .int .i64 d] 48)).alloc (.cells #[.int .i64 0, .int .i64 0] 48)) := by
  have HB := (((Below.refl w.heap.size w).alloc (Nat.le_refl _) (.cells #[.int .i64 a, .int .i64 b] 48)).alloc (by simp) (.cells #[.int .i64 c, .int .i64 d] 48)).alloc (by simp; omega) (.cells #[.int .i64 0, .int .i64 0] 48)
  exact ⟨HB, ((Blk.new w _ _).alloc _).alloc _, (Blk.new' (by simp) _ _).alloc _, Blk.new' (by simp) _ _, h.later HB⟩
def SpG (p : Spn) : Prop := SpOk p ∧ p.1 ≤ 1099511627776 ∧ p.2 ≤ 1099511627776
theorem isno {p : Spn} (h : SpG p) : (p.1 == -1 && p.2 == -1) = decide (p.1 < 0) := by
  obtain ⟨h1, -, -⟩ := h
  unfold SpOk at h1
  by_cases h0 : p.1 < 0
  · have e1 : p.1 = -1 := by omega
    have e2 : p.2 = -1 := by omega
    rw [e1, e2]; rfl
  · have e1 : ¬ p.1 = -1 := by omega
    simp [e1, h0]
theorem sinrow_any (p q : Spn) (hp : SpG p) (hq : SpG q) {bj : Nat} {w : World} (h : RcS bj 36 36 w) :
    Calls Try.prog 38 #[.agg #[.int .i64 p.1, .int .i64 p.2], .agg #[.int .i64 q.1, .int .i64 q.2], .pointer (some ⟨bj, 0, none⟩)] w (Ans w (.agg #[.int .i64 (seqS p q).1, .int .i64 (seqS p q).2])) := by
  obtain ⟨bl, bh, bx, hj, hc⟩ := h.ex
  have n1 := isno hp
  have n2 := isno hq
  obtain ⟨a, b⟩ := p
  obtain ⟨c, d⟩ := q
  simp only at n1 n2 ⊢
  have HS0 := Lib.hid (SpRo.new (a := a) (b := b) (c := c) (d := d) hj)
  have E1 := fun w => eql_sp a b (-1) (-1) w
  have E2 := fun w => eql_sp c d (-1) (-1) w
  have G1 := fun o1 o2 w => eqGuard_eql_sp o1 o2 a b (-1) (-1) w
  have G2 := fun o1 o2 w => eqGuard_eql_sp o1 o2 c d (-1) (-1) w
  rw [n1] at E1
  rw [n2] at E2
  have CN : Hid (∀ w', Calls Try.prog 33 #[] w' (Ans w' (.agg #[.int .i64 (-1), .int .i64 (-1)]))) := fun w' => snothing_any w'
  have hent := enters_of Try.func44 (by kernel_rfl) rfl
  obtain ⟨hp1, hp2, hp3⟩ := hp
  obtain ⟨hq1, hq2, hq3⟩ := hq
  unfold SpOk at hp1 hq1
  simp only at hp1 hp2 hp3 hq1 hq2 hq3
  have HC := Lib.hid hc
  clear h hj hc n1 n2
  by_cases ha : a < 0
  · have e : seqS (a, b) (c, d) = (-1, -1) := by unfold seqS; rw [if_pos (.inl ha)]
    rw [e]
    have h0 : decide (a < 0) = true := decide_eq_true ha
    rw [h0] at E1
    clear hp1 hp2 hp3 hq1 hq2 hq3 ha e h0
    go_enter Try.func38, Try.ntmps38
    go_upto_region 1 with (fail)
    generalize ((w.alloc (.cells #[.int .i64 a, .int .i64 b] 48)).alloc (.cells #[.int .i64 c, .int .i64 d] 48)).alloc (.cells #[.int .i64 0, .int .i64 0] 48) = w1 at *
    refine wp_region_stable (S := (SpRo w a b c d bj bl bh)) (hSt := fun _ _ h hb => h.later hb) (plan := [[(3, none)], [], [(6, some 0), (7, some 1)], [(8, some 2)], [(4, none)], [], [(10, some 4), (11, some 5)], [(9, some 3), (12, some 6)]]) (by kernel_rfl) (by kernel_rfl) (by kernel_rfl) ?hS ?_
    rotate_left
    iterate 8 first
      | (refine chain_skip (by rfl) (by rfl) ?_)
      | (apply chain_want (by rfl)
         · intro act wx hS hr
           simp at hr
           have a0 := hS.pa.cell 0
           have a1 := hS.pa.cell 1
           have b0 := hS.pb.cell 0
           have b1 := hS.pb.cell 1
           simp at a0 a1 b0 b1
           go_simp
           (try go_ints)
           first
             | ((with_reducible refine (CN.out _).mono ?_); rintro e w' ⟨rfl, hb⟩; exact Done.mk hb)
             | exact Done.same
        )
    show ∀ w', _ → _
    intro wz hz
    simp [Act.put]
    case hS => exact HS0.out
    have HS2 := Lib.hid hz
    clear hz HS0
    go_wp2_with fail
    refine (CN.out _).mono ?_; rintro e w2 ⟨rfl, hb⟩
    have HS3 := Lib.hid (HS2.out.later hb)
    clear hb HS2
    have f0 := HS3.out.pr.frozen 0
    have f1 := HS3.out.pr.frozen 1
    have r0 := HS3.out.pr.cell 0
    have r1 := HS3.out.pr.cell 1
    simp at r0 r1
    have HR := Lib.hid (HS3.out.pr.both (.int .i64 (-1)) (.int .i64 (-1)))
    have HB := Lib.hid (bel_both HS3.out.bel (b := w.heap.size + 2) (by omega) (.int .i64 (-1)) (.int .i64 (-1)))
    go_wp2
    have s0 := HR.out.cell 0
    have s1 := HR.out.cell 1
    simp at s0 s1
    exact bodyPost_ret (v := .agg #[.int .i64 (-1), .int .i64 (-1)]) (by simp [results, Try.results38, go_sem, s0, s1]) rfl ⟨by rfl, HB.out⟩
  · have h0 : decide (a < 0) = false := decide_eq_false ha
    rw [h0] at E1
    by_cases hc : c < 0
    · have e : seqS (a, b) (c, d) = (-1, -1) := by unfold seqS; rw [if_pos (.inr hc)]
      rw [e]
      have h0 : decide (c < 0) = true := decide_eq_true hc
      rw [h0] at E2
      clear hp1 hp2 hp3 hq1 hq2 hq3 ha hc e h0
      go_enter Try.func38, Try.ntmps38
      go_upto_region 1 with (fail)
      generalize ((w.alloc (.cells #[.int .i64 a, .int .i64 b] 48)).alloc (.cells #[.int .i64 c, .int .i64 d] 48)).alloc (.cells #[.int .i64 0, .int .i64 0] 48) = w1 at *
      refine wp_region_stable (S := (SpRo w a b c d bj bl bh)) (hSt := fun _ _ h hb => h.later hb) (plan := [[(3, none)], [], [(6, some 0), (7, some 1)], [(8, some 2)], [(4, none)], [], [(10, some 4), (11, some 5)], [(9, some 3), (12, some 6)]]) (by kernel_rfl) (by kernel_rfl) (by kernel_rfl) ?hS ?_
      rotate_left
      iterate 8 first
        | (refine chain_skip (by rfl) (by rfl) ?_)
        | (apply chain_want (by rfl)
           · intro act wx hS hr
             simp at hr
             have a0 := hS.pa.cell 0
             have a1 := hS.pa.cell 1
             have b0 := hS.pb.cell 0
             have b1 := hS.pb.cell 1
             simp at a0 a1 b0 b1
             go_simp
             (try go_ints)
             first
               | ((with_reducible refine (CN.out _).mono ?_); rintro e w' ⟨rfl, hb⟩; exact Done.mk hb)
               | exact Done.same
          )
      show ∀ w', _ → _
      intro wz hz
      simp [Act.put]
      case hS => exact HS0.out
      have HS2 := Lib.hid hz
      clear hz HS0
      go_wp2_with fail
      refine (CN.out _).mono ?_; rintro e w2 ⟨rfl, hb⟩
      have HS3 := Lib.hid (HS2.out.later hb)
      clear hb HS2
      have f0 := HS3.out.pr.frozen 0
      have f1 := HS3.out.pr.frozen 1
      have r0 := HS3.out.pr.cell 0
      have r1 := HS3.out.pr.cell 1
      simp at r0 r1
      have HR := Lib.hid (HS3.out.pr.both (.int .i64 (-1)) (.int .i64 (-1)))
      have HB := Lib.hid (bel_both HS3.out.bel (b := w.heap.size + 2) (by omega) (.int .i64 (-1)) (.int .i64 (-1)))
      go_wp2
      have s0 := HR.out.cell 0
      have s1 := HR.out.cell 1
      simp at s0 s1
      exact bodyPost_ret (v := .agg #[.int .i64 (-1), .int .i64 (-1)]) (by simp [results, Try.results38, go_sem, s0, s1]) rfl ⟨by rfl, HB.out⟩
    · have h9 : decide (c < 0) = false := decide_eq_false hc
      rw [h9] at E2
      have e : seqS (a, b) (c, d) = (min (HAdd.hAdd a c) 1099511627776, bndS (bndJ HAdd.hAdd b d)) := by
        unfold seqS bndJ
        rw [if_neg (by simp only; omega)]
        simp only
        unfold mxS
        refine Prod.ext (by simp only; omega) ?_
        simp only
        split
        · unfold bndS mxS; rw [if_neg (by decide)]
        · rfl
      rw [e]
      have CJ : Hid (∀ w', CloS bl bh bx (fnV 36) (fnV 36) w' → Calls Try.prog 44 #[.agg #[.int .i64 a, .int .i64 b], .agg #[.int .i64 c, .int .i64 d], .pointer (some ⟨bl, 0, none⟩), .pointer (some ⟨bh, 0, none⟩)] w' (Ans w' (.agg #[.int .i64 (min (HAdd.hAdd a c) 1099511627776), .int .i64 (bndS (bndJ HAdd.hAdd b d))]))) := fun w' h => sjsum_any a b c d (by omega) (by omega) (by omega) (by omega) h
      generalize min (HAdd.hAdd a c) 1099511627776 = x at *
      generalize bndS (bndJ HAdd.hAdd b d) = y at *
      clear hp1 hp2 hp3 hq1 hq2 hq3 ha hc e h0 h9
      have HB1 := Lib.hid HS0.out.bel
      go_enter Try.func38, Try.ntmps38
      go_upto_region 1 with (fail)
      generalize ((w.alloc (.cells #[.int .i64 a, .int .i64 b] 48)).alloc (.cells #[.int .i64 c, .int .i64 d] 48)).alloc (.cells #[.int .i64 0, .int .i64 0] 48) = w1 at *
      refine wp_region_stable (S := (SpRo w a b c d bj bl bh)) (hSt := fun _ _ h hb => h.later hb) (plan := [[(3, none)], [], [(6, some 0), (7, some 1)], [(8, some 2)], [(4, none)], [], [(10, some 4), (11, some 5)], [(9, some 3), (12, some 6)]]) (by kernel_rfl) (by kernel_rfl) (by kernel_rfl) ?hS ?_
      rotate_left
      iterate 8 first
        | (refine chain_skip (by rfl) (by rfl) ?_)
        | (apply chain_want (by rfl)
           · intro act wx hS hr
             simp at hr
             have a0 := hS.pa.cell 0
             have a1 := hS.pa.cell 1
             have b0 := hS.pb.cell 0
             have b1 := hS.pb.cell 1
             simp at a0 a1 b0 b1
             go_simp
             (try go_ints)
             first
               | ((with_reducible refine (CN.out _).mono ?_); rintro e w' ⟨rfl, hb⟩; exact Done.mk hb)
               | exact Done.same
          )
      show ∀ w', _ → _
      intro wz hz
      simp [Act.put]
      case hS => exact HS0.out
      have HS2 := Lib.hid hz
      clear hz HS0
      have a0 := HS2.out.pa.cell 0
      have a1 := HS2.out.pa.cell 1
      have b0 := HS2.out.pb.cell 0
      have b1 := HS2.out.pb.cell 1
      have j0 := HS2.out.fj.cell 0
      simp [fJ] at a0 a1 b0 b1 j0
      go_wp2_with fail
      refine (CJ.out _ (HC.out.later HS2.out.bel)).mono ?_; rintro e w2 ⟨rfl, hb⟩
      have HS3 := Lib.hid (HS2.out.later hb)
      clear hb HS2 a0 a1 b0 b1 j0
      have f0 := HS3.out.pr.frozen 0
      have f1 := HS3.out.pr.frozen 1
      have r0 := HS3.out.pr.cell 0
      have r1 := HS3.out.pr.cell 1
      simp at r0 r1
      have HR := Lib.hid (HS3.out.pr.both (.int .i64 x) (.int .i64 y))
      have HB := Lib.hid (bel_both HS3.out.bel (b := w.heap.size + 2) (by omega) (.int .i64 x) (.int .i64 y))
      go_wp2
      have s0 := HR.out.cell 0
      have s1 := HR.out.cell 1
      simp at s0 s1
      exact bodyPost_ret (v := .agg #[.int .i64 x, .int .i64 y]) (by simp [results, Try.results38, go_sem, s0, s1]) rfl ⟨by rfl, HB.out⟩
theorem soneof_any (p q : Spn) (hp : SpG p) (hq : SpG q) {bj : Nat} {w : World} (h : RcS bj 39 40 w) :
    Calls Try.prog 41 #[.agg #[.int .i64 p.1, .int .i64 p.2], .agg #[.int .i64 q.1, .int .i64 q.2], .pointer (some ⟨bj, 0, none⟩)] w (Ans w (.agg #[.int .i64 (orS p q).1, .int .i64 (orS p q).2])) := by
  obtain ⟨bl, bh, bx, hj, hc⟩ := h.ex
  have n1 := isno hp
  have n2 := isno hq
  obtain ⟨a, b⟩ := p
  obtain ⟨c, d⟩ := q
  simp only at n1 n2 ⊢
  have HS0 := Lib.hid (SpRo.new (a := a) (b := b) (c := c) (d := d) hj)
  have E1 := fun w => eql_sp a b (-1) (-1) w
  have E2 := fun w => eql_sp c d (-1) (-1) w
  have G1 := fun o1 o2 w => eqGuard_eql_sp o1 o2 a b (-1) (-1) w
  have G2 := fun o1 o2 w => eqGuard_eql_sp o1 o2 c d (-1) (-1) w
  rw [n1] at E1
  rw [n2] at E2
  have CN : Hid (∀ w', Calls Try.prog 33 #[] w' (Ans w' (.agg #[.int .i64 (-1), .int .i64 (-1)]))) := fun w' => snothing_any w'
  have hent := enters_of Try.func44 (by kernel_rfl) rfl
  obtain ⟨hp1, hp2, hp3⟩ := hp
  obtain ⟨hq1, hq2, hq3⟩ := hq
  unfold SpOk at hp1 hq1
  simp only at hp1 hp2 hp3 hq1 hq2 hq3
  have HC := Lib.hid hc
  clear h hj hc n1 n2
  by_cases ha : a < 0
  · have e : orS (a, b) (c, d) = (c, d) := by unfold orS; rw [if_pos ha]
    rw [e]
    have h0 : decide (a < 0) = true := decide_eq_true ha
    rw [h0] at E1
    clear hp1 hp2 hp3 hq1 hq2 hq3 ha e h0
    go_enter Try.func41, Try.ntmps41
    go_upto_region 1 with (fail)
    generalize ((w.alloc (.cells #[.int .i64 a, .int .i64 b] 48)).alloc (.cells #[.int .i64 c, .int .i64 d] 48)).alloc (.cells #[.int .i64 0, .int .i64 0] 48) = w1 at *
    refine wp_region_stable (S := (SpRo w a b c d bj bl bh)) (hSt := fun _ _ h hb => h.later hb) (plan := [[(3, none)], [], [(6, some 0), (7, some 1)]]) (by kernel_rfl) (by kernel_rfl) (by kernel_rfl) ?hS ?_
    rotate_left
    iterate 3 first
      | (refine chain_skip (by rfl) (by rfl) ?_)
      | (apply chain_want (by rfl)
         · intro act wx hS hr
           simp at hr
           have a0 := hS.pa.cell 0
           have a1 := hS.pa.cell 1
           have b0 := hS.pb.cell 0
           have b1 := hS.pb.cell 1
           simp at a0 a1 b0 b1
           go_simp
           (try go_ints)
           first
             | ((with_reducible refine (CN.out _).mono ?_); rintro e w' ⟨rfl, hb⟩; exact Done.mk hb)
             | exact Done.same
        )
    show ∀ w', _ → _
    intro wz hz
    simp [Act.put]
    case hS => exact HS0.out
    have HS3 := Lib.hid hz
    clear hz HS0
    have b0 := HS3.out.pb.cell 0
    have b1 := HS3.out.pb.cell 1
    simp at b0 b1
    have f0 := HS3.out.pr.frozen 0
    have f1 := HS3.out.pr.frozen 1
    have r0 := HS3.out.pr.cell 0
    have r1 := HS3.out.pr.cell 1
    simp at r0 r1
    have HR := Lib.hid (HS3.out.pr.both (.int .i64 c) (.int .i64 d))
    have HB := Lib.hid (bel_both HS3.out.bel (b := w.heap.size + 2) (by omega) (.int .i64 c) (.int .i64 d))
    go_wp2
    have s0 := HR.out.cell 0
    have s1 := HR.out.cell 1
    simp at s0 s1
    exact bodyPost_ret (v := .agg #[.int .i64 c, .int .i64 d]) (by simp [results, Try.results41, go_sem, s0, s1]) rfl ⟨by rfl, HB.out⟩
  · have h0 : decide (a < 0) = false := decide_eq_false ha
    rw [h0] at E1
    by_cases hc : c < 0
    · have e : orS (a, b) (c, d) = (a, b) := by unfold orS; rw [if_neg ha, if_pos hc]
      rw [e]
      have h0 : decide (c < 0) = true := decide_eq_true hc
      rw [h0] at E2
      clear hp1 hp2 hp3 hq1 hq2 hq3 ha hc e h0
      go_enter Try.func41, Try.ntmps41
      go_upto_region 1 with (fail)
      generalize ((w.alloc (.cells #[.int .i64 a, .int .i64 b] 48)).alloc (.cells #[.int .i64 c, .int .i64 d] 48)).alloc (.cells #[.int .i64 0, .int .i64 0] 48) = w1 at *
      refine wp_region_stable (S := (SpRo w a b c d bj bl bh)) (hSt := fun _ _ h hb => h.later hb) (plan := [[(3, none)], [], [(6, some 0), (7, some 1)]]) (by kernel_rfl) (by kernel_rfl) (by kernel_rfl) ?hS ?_
      rotate_left
      iterate 3 first
        | (refine chain_skip (by rfl) (by rfl) ?_)
        | (apply chain_want (by rfl)
           · intro act wx hS hr
             simp at hr
             have a0 := hS.pa.cell 0
             have a1 := hS.pa.cell 1
             have b0 := hS.pb.cell 0
             have b1 := hS.pb.cell 1
             simp at a0 a1 b0 b1
             go_simp
             (try go_ints)
             first
               | ((with_reducible refine (CN.out _).mono ?_); rintro e w' ⟨rfl, hb⟩; exact Done.mk hb)
               | exact Done.same
          )
      show ∀ w', _ → _
      intro wz hz
      simp [Act.put]
      case hS => exact HS0.out
      have HS2 := Lib.hid hz
      clear hz HS0
      go_upto_region 3 with (fail)
      refine wp_region_stable (S := (SpRo w a b c d bj bl bh)) (hSt := fun _ _ h hb => h.later hb) (plan := [[(4, none)], [], [(10, some 0), (11, some 1)]]) (by kernel_rfl) (by kernel_rfl) (by kernel_rfl) ?hS ?_
      rotate_left
      iterate 3 first
        | (refine chain_skip (by rfl) (by rfl) ?_)
        | (apply chain_want (by rfl)
           · intro act wx hS hr
             simp at hr
             have a0 := hS.pa.cell 0
             have a1 := hS.pa.cell 1
             have b0 := hS.pb.cell 0
             have b1 := hS.pb.cell 1
             simp at a0 a1 b0 b1
             go_simp
             (try go_ints)
             first
               | ((with_reducible refine (CN.out _).mono ?_); rintro e w' ⟨rfl, hb⟩; exact Done.mk hb)
               | exact Done.same
          )
      show ∀ w', _ → _
      intro wz hz
      simp [Act.put]
      case hS => exact HS2.out
      have HS3 := Lib.hid hz
      clear hz HS2
      have b0 := HS3.out.pa.cell 0
      have b1 := HS3.out.pa.cell 1
      simp at b0 b1
      have f0 := HS3.out.pr.frozen 0
      have f1 := HS3.out.pr.frozen 1
      have r0 := HS3.out.pr.cell 0
      have r1 := HS3.out.pr.cell 1
      simp at r0 r1
      have HR := Lib.hid (HS3.out.pr.both (.int .i64 a) (.int .i64 b))
      have HB := Lib.hid (bel_both HS3.out.bel (b := w.heap.size + 2) (by omega) (.int .i64 a) (.int .i64 b))
      go_wp2
      have s0 := HR.out.cell 0
      have s1 := HR.out.cell 1
      simp at s0 s1
      exact bodyPost_ret (v := .agg #[.int .i64 a, .int .i64 b]) (by simp [results, Try.results41, go_sem, s0, s1]) rfl ⟨by rfl, HB.out⟩
    · have h9 : decide (c < 0) = false := decide_eq_false hc
      rw [h9] at E2
      have e : orS (a, b) (c, d) = (min (min a c) 1099511627776, bndS (bndJ max b d)) := by
        unfold orS bndJ
        rw [if_neg ha, if_neg hc]
        refine Prod.ext (by simp only; omega) ?_
        simp only
        split
        · unfold bndS mxS; rw [if_neg (by decide)]
        · unfold bndS mxS; rw [if_neg (by omega)]
      rw [e]
      have CJ : Hid (∀ w', CloS bl bh bx (fnV 39) (fnV 40) w' → Calls Try.prog 44 #[.agg #[.int .i64 a, .int .i64 b], .agg #[.int .i64 c, .int .i64 d], .pointer (some ⟨bl, 0, none⟩), .pointer (some ⟨bh, 0, none⟩)] w' (Ans w' (.agg #[.int .i64 (min (min a c) 1099511627776), .int .i64 (bndS (bndJ max b d))]))) := fun w' h => sjmax_any a b c d (by omega) (by omega) (by omega) (by omega) h
      generalize min (min a c) 1099511627776 = x at *
      generalize bndS (bndJ max b d) = y at *
      clear hp1 hp2 hp3 hq1 hq2 hq3 ha hc e h0 h9
      go_enter Try.func41, Try.ntmps41
      go_upto_region 1 with (fail)
      generalize ((w.alloc (.cells #[.int .i64 a, .int .i64 b] 48)).alloc (.cells #[.int .i64 c, .int .i64 d] 48)).alloc (.cells #[.int .i64 0, .int .i64 0] 48) = w1 at *
      refine wp_region_stable (S := (SpRo w a b c d bj bl bh)) (hSt := fun _ _ h hb => h.later hb) (plan := [[(3, none)], [], [(6, some 0), (7, some 1)]]) (by kernel_rfl) (by kernel_rfl) (by kernel_rfl) ?hS ?_
      rotate_left
      iterate 3 first
        | (refine chain_skip (by rfl) (by rfl) ?_)
        | (apply chain_want (by rfl)
           · intro act wx hS hr
             simp at hr
             have a0 := hS.pa.cell 0
             have a1 := hS.pa.cell 1
             have b0 := hS.pb.cell 0
             have b1 := hS.pb.cell 1
             simp at a0 a1 b0 b1
             go_simp
             (try go_ints)
             first
               | ((with_reducible refine (CN.out _).mono ?_); rintro e w' ⟨rfl, hb⟩; exact Done.mk hb)
               | exact Done.same
          )
      show ∀ w', _ → _
      intro wz hz
      simp [Act.put]
      case hS => exact HS0.out
      have HS2 := Lib.hid hz
      clear hz HS0
      go_upto_region 3 with (fail)
      refine wp_region_stable (S := (SpRo w a b c d bj bl bh)) (hSt := fun _ _ h hb => h.later hb) (plan := [[(4, none)], [], [(10, some 0), (11, some 1)]]) (by kernel_rfl) (by kernel_rfl) (by kernel_rfl) ?hS ?_
      rotate_left
      iterate 3 first
        | (refine chain_skip (by rfl) (by rfl) ?_)
        | (apply chain_want (by rfl)
           · intro act wx hS hr
             simp at hr
             have a0 := hS.pa.cell 0
             have a1 := hS.pa.cell 1
             have b0 := hS.pb.cell 0
             have b1 := hS.pb.cell 1
             simp at a0 a1 b0 b1
             go_simp
             (try go_ints)
             first
               | ((with_reducible refine (CN.out _).mono ?_); rintro e w' ⟨rfl, hb⟩; exact Done.mk hb)
               | exact Done.same
          )
      show ∀ w', _ → _
      intro wz hz
      simp [Act.put]
      case hS => exact HS2.out
      have HS3 := Lib.hid hz
      clear hz HS2
      have a0 := HS3.out.pa.cell 0
      have a1 := HS3.out.pa.cell 1
      have b0 := HS3.out.pb.cell 0
      have b1 := HS3.out.pb.cell 1
      have j0 := HS3.out.fj.cell 0
      simp [fJ] at a0 a1 b0 b1 j0
      go_wp2_with fail
      refine (CJ.out _ (HC.out.later HS3.out.bel)).mono ?_; rintro e w2 ⟨rfl, hb⟩
      have HS4 := Lib.hid (HS3.out.later hb)
      clear hb HS3 a0 a1 b0 b1 j0
      have f0 := HS4.out.pr.frozen 0
      have f1 := HS4.out.pr.frozen 1
      have r0 := HS4.out.pr.cell 0
      have r1 := HS4.out.pr.cell 1
      simp at r0 r1
      have HR := Lib.hid (HS4.out.pr.both (.int .i64 x) (.int .i64 y))
      have HB := Lib.hid (bel_both HS4.out.bel (b := w.heap.size + 2) (by omega) (.int .i64 x) (.int .i64 y))
      go_wp2
      have s0 := HR.out.cell 0
      have s1 := HR.out.cell 1
      simp at s0 s1
      exact bodyPost_ret (v := .agg #[.int .i64 x, .int .i64 y]) (by simp [results, Try.results41, go_sem, s0, s1]) rfl ⟨by rfl, HB.out⟩
end Go.Proofs.Ytplgokgjcclhaaa
