/- The anchor of layer 13: walked. -/
import Derived.Test.YtnhcbldcfcibiaaM28
import Derived.Test.YtnhcbldcfcibiaaM22
namespace Go.Proofs.Ytnhcbldcfcibiaa
open Go Go.RowKit
set_option linter.unusedVariables false
set_option linter.unusedSimpArgs false
set_option maxRecDepth 100000
set_option maxHeartbeats 16000000

def awN : Nd := ⟨3, 0, 0, 0, 0, 0#256, [97, 98]⟩
def awL : List Nd := [awN]
def awS1 : List Itm := [⟨1, 0, 0, 0⟩]
def awS2 : List Itm := [⟨3, 0, 1, 0⟩, ⟨5, 0, 2, 0⟩]
def awS3 : List Itm := [⟨3, 0, 2, 0⟩]
theorem aw_f1 : stF awL awS1 = true := by decide +kernel
theorem aw_f2 : stF awL awS2 = true := by decide +kernel
theorem aw_f3 : stF awL awS3 = false := by decide +kernel
theorem aw_c1 : stC awS1 awS2 = -1 := by decide +kernel
theorem aw_c2 : stC awS2 awS1 = 1 := by decide +kernel
theorem aw_c3 : stC awS2 awS2 = 0 := stC_self _
theorem aw_low : lowS [⟨3, 0, 1, 0⟩, ⟨5, 0, 3, 0⟩] = some awS2 := by decide +kernel
theorem aw_low2 : lowS [⟨5, 0, 0, 0⟩] = none := by decide +kernel
theorem aw_k : stK awS1 ≠ stK awS2 := fun h => absurd (stK_inj.1 h) (by decide)
theorem ItRow.blk {w : World} {b : Nat} {l : List Itm} {cs : Array Value} (h : Blk w b cs 36) (hc : cs.toList = flatIt l) : ItRow w (some ⟨b, 0, none⟩) l := fun i hi => by
  refine ⟨b, 0, rfl, h.lt, fun j hj => ?_⟩
  rw [h.cell, ← flatIt_get l i j hi hj, ← hc, Array.getElem?_toList]
  congr 1; omega
theorem LowP.some {w0 w : World} {l m : List Itm} {e : Ending} (h : LowP w0 l e w) (hm : lowS l = some m) : ∃ a cap, e = .returned (.tuple #[.slice a m.length cap, .bool true]) ∧ m.length ≤ cap ∧ ItRow w a m ∧ OwnIt w w0.heap.size (.slice a m.length cap) m ∧ Below w0.heap.size w0 w := by
  obtain ⟨hb, ⟨h1, -⟩ | ⟨v, m', h1, h2, h3⟩⟩ := h
  · rw [hm] at h1; cases h1
  · rw [hm] at h1; cases h1
    obtain ⟨a, cap, rfl, hc, hr⟩ := h3.row
    exact ⟨a, cap, h2, hc, hr, h3, hb⟩
theorem LowP.none {w0 w : World} {l : List Itm} {e : Ending} (h : LowP w0 l e w) (hm : lowS l = Option.none) : e = .returned (.tuple #[.slice Option.none 0 0, .bool false]) ∧ Below w0.heap.size w0 w := by
  obtain ⟨hb, ⟨-, h1⟩ | ⟨v, m', h1, h2, h3⟩⟩ := h
  · exact ⟨h1, hb⟩
  · rw [hm] at h1; cases h1
/-- The anchor's description, in its box. -/
structure AwD (w0 w : World) : Prop where
  bel : Below w0.heap.size w0 w
  row : NRow w (some ⟨w0.heap.size, 0, none⟩) awL
  box : Blk w (w0.heap.size + 1) #[.slice (some ⟨w0.heap.size, 0, none⟩) 1 1] 24
theorem AwD.later {w0 w w' : World} (h : AwD w0 w) (hb : Below w.heap.size w w') : AwD w0 w' := ⟨h.bel.trans (hb.mono h.bel.size), h.row.later hb, h.box.later hb⟩
structure AwT (w0 : World) (b1 : Nat) (Aa : Option Addr) (w : World) : Prop where
  d : AwD w0 w
  s : ItRow w (some ⟨b1, 0, none⟩) awS1
  a : ItRow w Aa awS2
theorem AwT.later {w0 w w' : World} {b1 : Nat} {Aa : Option Addr} (h : AwT w0 b1 Aa w) (hb : Below w.heap.size w w') : AwT w0 b1 Aa w' := ⟨h.d.later hb, h.s.later hb, h.a.later hb⟩
theorem aw_txt : Txt awL := fun n hn => by rw [List.mem_singleton.1 hn]; decide
theorem aw_ok1 : ItOk awS1 := fun x hx => by rw [List.mem_singleton.1 hx]; decide
theorem aw_ok2 : ItOk awS2 := fun x hx => by
  rcases List.mem_cons.1 hx with rfl | hx
  · decide
  · rw [List.mem_singleton.1 hx]; decide
theorem aw_ok3 : ItOk [⟨3, 0, 1, 0⟩, ⟨5, 0, 3, 0⟩] := fun x hx => by
  rcases List.mem_cons.1 hx with rfl | hx
  · decide
  · rw [List.mem_singleton.1 hx]; decide
theorem aw_ok4 : ItOk [⟨5, 0, 0, 0⟩] := fun x hx => by rw [List.mem_singleton.1 hx]; decide
theorem awake13_any (w : World) : Calls Try.prog 8 #[] w (Ans w (.bool true)) := by
  go_enter Try.func8, Try.ntmps8
  go_upto_region 2 with (fail)
  have hw0 : (wd (0#256) 0 : Nat) = 0 := by kernel_rfl
  have hn : ndC awN = #[.int .i64 3, .int .i64 0, .int .i64 0, .int .i64 0, .int .i64 0, .int .u64 0, .int .u64 0, .int .u64 0, .int .u64 0, .string ⟨#[97, 98]⟩] := by kernel_rfl
  have hk1 := NRow.ofBlk (n := awN) (Blk.new w (ndC awN) 46)
  have hb1 := (Below.refl w.heap.size w).alloc (Nat.le_refl _) (.cells (ndC awN) 46)
  have hk2 := Blk.new (w.alloc (.cells (ndC awN) 46)) #[.slice (some ⟨w.heap.size, 0, none⟩) 1 1] 24
  have hb2 := (Below.refl (w.alloc (.cells (ndC awN) 46)).heap.size _).alloc (Nat.le_refl _) (.cells #[.slice (some ⟨w.heap.size, 0, none⟩) 1 1] 24)
  rw [show (w.alloc (.cells (ndC awN) 46)).heap.size = w.heap.size + 1 from World.size_alloc _ _] at hk2
  have HD : Hid (AwD w ((w.alloc (.cells (ndC awN) 46)).alloc (.cells #[.slice (some ⟨w.heap.size, 0, none⟩) 1 1] 24))) := ⟨hb1.trans (hb2.mono hb1.size), hk1.later hb2, hk2⟩
  clear hk1 hk2 hb1 hb2 hw0
  rw [hn] at HD
  clear hn
  generalize (w.alloc (.cells #[.int .i64 3, .int .i64 0, .int .i64 0, .int .i64 0, .int .i64 0, .int .u64 0, .int .u64 0, .int .u64 0, .int .u64 0, .string ⟨#[97, 98]⟩] 46)).alloc (.cells #[.slice (some ⟨w.heap.size, 0, none⟩) 1 1] 24) = w1 at HD ⊢
  have e0 := HD.out.box.cell 0
  simp at e0
  go_wp2_with fail
  refine (istart_any awL (some ⟨w.heap.size, 0, none⟩) 1 (by decide) w1).mono ?_; rintro e w2 ⟨b1, rfl, hk, -, hb⟩
  have HS : Hid (ItRow w2 (some ⟨b1, 0, none⟩) awS1) := ItRow.one hk
  have HD2 := Lib.hid (HD.out.later hb)
  clear hk hb e0 HD
  have hkk := Blk.new w2 #[.int .i64 3, .int .i64 0, .int .i64 1, .int .i64 0, .int .i64 5, .int .i64 0, .int .i64 3, .int .i64 0] 36
  have hbb := (Below.refl w2.heap.size w2).alloc (Nat.le_refl _) (.cells #[.int .i64 3, .int .i64 0, .int .i64 1, .int .i64 0, .int .i64 5, .int .i64 0, .int .i64 3, .int .i64 0] 36)
  have HL := Lib.hid (ilower_any [⟨3, 0, 1, 0⟩, ⟨5, 0, 3, 0⟩] (some ⟨w2.heap.size, 0, none⟩) 2 (by decide) aw_ok3 _ (ItRow.blk hkk rfl))
  have HS3 := Lib.hid (HS.out.later hbb)
  have HD3 := Lib.hid (HD2.out.later hbb)
  clear hkk hbb HS HD2
  go_wp2_with fail
  refine HL.out.mono ?_; rintro e w4 hp
  obtain ⟨Aa, ca, he, -, ha, -, hb4⟩ := hp.some aw_low
  rw [show awS2.length = 2 from rfl] at he
  subst he
  have HT : Hid (AwT w b1 Aa w4) := ⟨HD3.out.later hb4, HS3.out.later hb4, ha⟩
  clear hp ha hb4 HS3 HD3 HL
  have hkk := Blk.new w4 #[.int .i64 5, .int .i64 0, .int .i64 0, .int .i64 0] 36
  have hbb := (Below.refl w4.heap.size w4).alloc (Nat.le_refl _) (.cells #[.int .i64 5, .int .i64 0, .int .i64 0, .int .i64 0] 36)
  have HL := Lib.hid (ilower_any [⟨5, 0, 0, 0⟩] (some ⟨w4.heap.size, 0, none⟩) 1 (by decide) aw_ok4 _ (ItRow.blk hkk rfl))
  have HT2 := Lib.hid (HT.out.later hbb)
  clear hkk hbb HT
  go_wp2_with fail
  refine HL.out.mono ?_; rintro e w5 hp
  obtain ⟨rfl, hb5⟩ := hp.none aw_low2
  have HT := Lib.hid (HT2.out.later hb5)
  clear hp hb5 HT2 HL
  obtain ⟨ba, oa, rfl, -, -⟩ := HT.out.a 0 (by decide)
  have HF1 := Lib.hid (fun (w' : World) (h : AwT w b1 (some ⟨ba, oa, none⟩) w') => iform_any awL (some ⟨w.heap.size, 0, none⟩) 1 awS1 (some ⟨b1, 0, none⟩) 1 (by decide) (by decide) aw_txt w' h.d.row h.s)
  have HF2 := Lib.hid (fun (w' : World) (h : AwT w b1 (some ⟨ba, oa, none⟩) w') => iform_any awL (some ⟨w.heap.size, 0, none⟩) 1 awS2 (some ⟨ba, oa, none⟩) ca (by decide) (by decide) aw_txt w' h.d.row h.a)
  rw [aw_f1] at HF1
  rw [aw_f2] at HF2
  have HC1 := Lib.hid (fun (w' : World) (h : AwT w b1 (some ⟨ba, oa, none⟩) w') => icompare_any awS1 awS2 (some ⟨b1, 0, none⟩) (some ⟨ba, oa, none⟩) 1 ca w' h.s h.a (by decide) (by decide))
  have HC2 := Lib.hid (fun (w' : World) (h : AwT w b1 (some ⟨ba, oa, none⟩) w') => icompare_any awS2 awS1 (some ⟨ba, oa, none⟩) (some ⟨b1, 0, none⟩) ca 1 w' h.a h.s (by decide) (by decide))
  have HC3 := Lib.hid (fun (w' : World) (h : AwT w b1 (some ⟨ba, oa, none⟩) w') => icompare_any awS2 awS2 (some ⟨ba, oa, none⟩) (some ⟨ba, oa, none⟩) ca ca w' h.a h.a (by decide) (by decide))
  rw [aw_c1] at HC1
  rw [aw_c2] at HC2
  rw [aw_c3] at HC3
  have HK1 := Lib.hid (fun (w' : World) (h : AwT w b1 (some ⟨ba, oa, none⟩) w') => ikey_any awS1 (some ⟨b1, 0, none⟩) 1 (by decide) aw_ok1 w' h.s)
  have HK2 := Lib.hid (fun (w' : World) (h : AwT w b1 (some ⟨ba, oa, none⟩) w') => ikey_any awS2 (some ⟨ba, oa, none⟩) ca (by decide) aw_ok2 w' h.a)
  have hKN := aw_k
  unfold KyP at HK1 HK2
  generalize stK awS1 = k1 at *
  generalize stK awS2 = k2 at *
  have hkb : (bs k1 == bs k2) = false := by rw [bs_beq, decide_eq_false hKN]
  have hkb2 : (bs k1 != bs k2) = true := by rw [bne, hkb]; rfl
  have hkl : ¬ (bs k1).toList = (bs k2).toList := fun e => hKN (by rw [Lib.toList_data, Lib.toList_data, bs_data, bs_data] at e; exact e)
  have hklb : ((bs k1).toList == (bs k2).toList) = false := beq_eq_false_iff_ne.2 hkl
  have hkk : (bs k2 == bs k2) = true := by rw [bs_beq, decide_eq_true rfl]
  clear hKN
  have HQ : Hid (∀ w, (binOp .eql 36 (.agg #[.int .i64 1, .int .i64 0, .int .i64 0, .int .i64 0]) (.agg #[.int .i64 1, .int .i64 0, .int .i64 0, .int .i64 0])).run Try.prog w = .ok (.bool true) w) := fun w => eql_it ⟨1, 0, 0, 0⟩ ⟨1, 0, 0, 0⟩ w
  have HG : Hid (∀ o1 o2 w, (eqGuard .eql 36 o1 o2 (.agg #[.int .i64 1, .int .i64 0, .int .i64 0, .int .i64 0]) (.agg #[.int .i64 1, .int .i64 0, .int .i64 0, .int .i64 0])).run Try.prog w = .ok () w) := fun o1 o2 w => eqGuard_eql_it o1 o2 ⟨1, 0, 0, 0⟩ ⟨1, 0, 0, 0⟩ w
  go_upto_region 7 with (fail)
  have e0 := HT.out.d.box.cell 0
  have s0 := HT.out.s.at (i := 0) (by decide) rfl
  unfold At4 awS1 at s0
  simp at s0 e0
  obtain ⟨s0, s1, s2, s3⟩ := s0
  have hq := HQ.out
  have hg := HG.out
  go_wp2_with fail
  refine ((HF1.out _ HT.out)).mono ?_; rintro e w2 ⟨rfl, hb⟩
  have HT2 := Lib.hid (HT.out.later hb)
  clear hb HT e0
  have HT := HT2
  clear HT2
  have e0 := HT.out.d.box.cell 0
  simp at e0
  clear s0 s1 s2 s3 hq hg HQ HG
  go_wp2_with fail
  refine ((HF2.out _ HT.out)).mono ?_; rintro e w2 ⟨rfl, hb⟩
  have HT2 := Lib.hid (HT.out.later hb)
  clear hb HT e0
  have HT := HT2
  clear HT2
  have e0 := HT.out.d.box.cell 0
  simp at e0
  have hkk4 := fun (w' : World) => Blk.new w' (itV ⟨3, 0, 2, 0⟩) 36
  have HF3 := Lib.hid (fun (w' : World) (h : AwT w b1 (some ⟨ba, oa, none⟩) w') => iform_any awL (some ⟨w.heap.size, 0, none⟩) 1 awS3 (some ⟨w'.heap.size, 0, none⟩) 1 (by decide) (by decide) aw_txt _ (h.d.later ((Below.refl _ _).alloc (Nat.le_refl _) (.cells (itV ⟨3, 0, 2, 0⟩) 36))).row (ItRow.one (hkk4 w')))
  rw [aw_f3] at HF3
  have HTA := Lib.hid (HT.out.later ((Below.refl _ _).alloc (Nat.le_refl _) (.cells (itV ⟨3, 0, 2, 0⟩) 36)))
  go_wp2_with fail
  refine (HF3.out _ HT.out).mono ?_; rintro e w9 ⟨rfl, hb⟩
  have HT2 := Lib.hid (HTA.out.later hb)
  clear hb e0 HT HTA HF3 hkk4
  have HT := HT2
  clear HT2
  have e0 := HT.out.d.box.cell 0
  simp at e0
  have t1 := HT.out.a.at (i := 1) (by decide) rfl
  have t0 := HT.out.a.at (i := 0) (by decide) rfl
  unfold At4 awS2 at t0 t1
  simp at t0 t1
  obtain ⟨p0, p1, p2, p3⟩ := t0
  obtain ⟨q0, q1, q2, q3⟩ := t1
  go_wp2_with fail
  refine ((HC1.out _ HT.out)).mono ?_; rintro e w2 ⟨rfl, hb⟩
  have HT2 := Lib.hid (HT.out.later hb)
  clear hb HT e0
  have HT := HT2
  clear HT2
  have e0 := HT.out.d.box.cell 0
  simp at e0
  clear p0 p1 p2 p3 q0 q1 q2 q3
  go_wp2_with fail
  refine ((HC2.out _ HT.out)).mono ?_; rintro e w2 ⟨rfl, hb⟩
  have HT2 := Lib.hid (HT.out.later hb)
  clear hb HT e0
  have HT := HT2
  clear HT2
  have e0 := HT.out.d.box.cell 0
  simp at e0
  go_wp2_with fail
  refine ((HC3.out _ HT.out)).mono ?_; rintro e w2 ⟨rfl, hb⟩
  have HT2 := Lib.hid (HT.out.later hb)
  clear hb HT e0
  have HT := HT2
  clear HT2
  have e0 := HT.out.d.box.cell 0
  simp at e0
  go_wp2_with fail
  refine ((HK1.out _ HT.out)).mono ?_; rintro e w2 ⟨rfl, hb⟩
  have HT2 := Lib.hid (HT.out.later hb)
  clear hb HT e0
  have HT := HT2
  clear HT2
  have e0 := HT.out.d.box.cell 0
  simp at e0
  go_wp2_with fail
  refine ((HK2.out _ HT.out)).mono ?_; rintro e w2 ⟨rfl, hb⟩
  have HT2 := Lib.hid (HT.out.later hb)
  clear hb HT e0
  have HT := HT2
  clear HT2
  have e0 := HT.out.d.box.cell 0
  simp at e0
  go_wp2_with fail
  refine ((HK2.out _ HT.out)).mono ?_; rintro e w2 ⟨rfl, hb⟩
  have HT2 := Lib.hid (HT.out.later hb)
  clear hb HT e0
  have HT := HT2
  clear HT2
  have e0 := HT.out.d.box.cell 0
  simp at e0
  go_wp2_with fail
  refine ((HK2.out _ HT.out)).mono ?_; rintro e w2 ⟨rfl, hb⟩
  have HT2 := Lib.hid (HT.out.later hb)
  clear hb HT e0
  have HT := HT2
  clear HT2
  have e0 := HT.out.d.box.cell 0
  simp at e0
  go_wp2
  go_ret
  exact ⟨rfl, HT.out.d.bel⟩
end Go.Proofs.Ytnhcbldcfcibiaa
/- An append of a whole state to an empty one that has no room: a new row, and nothing that was there turns. -/
namespace Go.Proofs.Ytnhcbldcfcibiaa
open Go Go.RowKit
set_option linter.unusedVariables false
set_option linter.unusedSimpArgs false

theorem it_append_zero (w : World) (b0 : Nat) (A : Option Addr) (cap : Nat) (t : TypeId) : (Builtin.append_ #[26, 26] t #[.slice (some ⟨b0, 0, none⟩) 0 0, .slice A 0 cap]).run Try.prog w = .ok (.slice (some ⟨b0, 0, none⟩) 0 0) w := by
  obtain ⟨ib, hib, hz0, hz1, hz2⟩ := info_parts infoIt
  cases A with
  | none => simp [Builtin.append_, run_underlying Try.underlying26, sizeOf, typeInfo, hib, Builtin.lenOf, Builtin.firstCells, storeCells]
  | some x =>
    have hf := run_firstCells_some (P := Try.prog) w ib.size 0 x 0 cap [] (by simp) (by simp)
    simp [Builtin.append_, run_underlying Try.underlying26, sizeOf, typeInfo, hib, Builtin.lenOf, hf, storeCells]
/-- .. answers new memory: its block is new, or the empty one. -/
theorem wp_append_freshI {w : World} {o : Oper} {a : Act} {K : Act → World → Prop} {Q : Exit → Act → World → Prop} (s x : Operand)
    (ho : o.op = .call { callee := .builtin .append, args := #[s, x], argTypes := #[26, 26] })
    (B b0 : Nat) (hB : B ≤ b0) (hBw : B ≤ w.heap.size) (hs : a.eval s = .slice (some ⟨b0, 0, none⟩) 0 0) (hnew : Blk w b0 #[] 36)
    (l : List Itm) (A : Option Addr) (cap : Nat) (hx : a.eval x = .slice A l.length cap) (hr : ItRow w A l) (hlen : l.length < 1073741000)
    (h : ∀ v' w', OwnIt w' B v' l → Below w.heap.size w w' → K (a.put o.dst v') w') : o.wp Try.prog a w K Q := by
  by_cases hne : 0 < l.length
  · obtain ⟨ib, hib, hz0, hz1, hz2⟩ := info_parts infoIt
    obtain ⟨b, off, hA, _, _⟩ := hr 0 hne
    subst hA
    have hnews := hr.news
    have hown : w.ownsRow 0 36 4 (.slice (some ⟨b0, 0, none⟩) 0 0) 0 [] := ⟨rfl, .inr ⟨b0, 0, #[], rfl, Nat.zero_le _, hnew, Nat.le_refl _, by unfold maxLen; omega, rfl, rfl⟩⟩
    obtain ⟨v', w', hrun, h2, _, _⟩ := run_append_own (P := Try.prog) w 0 26 o.type 36 ib _ 4 32 Try.underlying26 hib hz0 hz1 hz2 rfl (by decide) (.slice (some ⟨b0, 0, none⟩) 0 0) 0 [] hown ⟨b, off, none⟩ l.length cap (flatIt l) (flatIt_length l) hnews (flatIt_ones l) (by unfold maxLen; omega) (by omega) (Nat.zero_le _)
    have hr2 := run_append_grow (P := Try.prog) w 26 o.type 36 ib _ Try.underlying26 hib hz0 ⟨b0, 0, none⟩ 0 0 [] (by simp) (by simp) ⟨b, off, none⟩ l.length cap (flatIt l) (by rw [hz1]; exact flatIt_length l) hnews (by omega) (by omega) (by rw [hz2]; exact growslice_fits (by omega) (by omega))
    rw [hrun] at hr2
    simp only [Result.ok.injEq] at hr2
    obtain ⟨hv', hw'⟩ := hr2
    have hb : Below w.heap.size w w' := by rw [hw']; exact ((Below.refl _ w).drew).alloc (Nat.le_refl _) _
    have hown' : OwnIt w' w.heap.size v' l := by
      obtain ⟨q1, ⟨q2, _⟩ | ⟨g, cap2, cur, q2, _, q4⟩⟩ := h2
      · rw [hv'] at q2; cases q2
      · have hg : g = w.heap.size := by rw [hv'] at q2; cases q2; rfl
        have e : 0 + l.length = l.length := Nat.zero_add _
        rw [e] at q1 q2 q4
        exact ⟨by simpa using q1, .inr ⟨g, cap2, cur, q2, by omega, by simpa using q4⟩⟩
    unfold Oper.wp execOp
    simp only [ho, resolve, invoke, builtin, Sem.run_bind, Sem.run_pure, Result.andThen_ok, List.map_toArray, List.map_cons, List.map_nil, hs, hx, hrun]
    exact h v' w' (hown'.lower hBw) hb
  · have hl : l = [] := List.length_eq_zero_iff.1 (by omega)
    subst hl
    have hrun := it_append_zero w b0 A cap o.type
    unfold Oper.wp execOp
    simp only [ho, resolve, invoke, builtin, Sem.run_bind, Sem.run_pure, Result.andThen_ok, List.map_toArray, List.map_cons, List.map_nil, hs, hx, List.length_nil, hrun]
    exact h _ _ ⟨rfl, .inr ⟨b0, 0, #[], rfl, hB, hnew, Nat.le_refl _, Nat.zero_le _, rfl, rfl⟩⟩ (Below.refl _ _)
theorem wpList_append_freshI {w : World} {ops : Array Oper} {rest : List Oper} {o : Oper} {a : Act} {Q : Exit → Act → World → Prop} (hgd : o.guard = none) (s x : Operand)
    (ho : o.op = .call { callee := .builtin .append, args := #[s, x], argTypes := #[26, 26] })
    (B b0 : Nat) (hB : B ≤ b0) (hBw : B ≤ w.heap.size) (hs : a.eval s = .slice (some ⟨b0, 0, none⟩) 0 0) (hnew : Blk w b0 #[] 36)
    (l : List Itm) (A : Option Addr) (cap : Nat) (hx : a.eval x = .slice A l.length cap) (hr : ItRow w A l) (hlen : l.length < 1073741000)
    (h : ∀ v' w', OwnIt w' B v' l → Below w.heap.size w w' → wpList Try.prog ops Q rest (a.put o.dst v') w') : wpList Try.prog ops Q (o :: rest) a w :=
  wpList_plain hgd fun K hK => wp_append_freshI s x ho B b0 hB hBw hs hnew l A cap hx hr hlen fun v' w' h1 h2 => hK _ _ (h v' w' h1 h2)
/-- A new row without an item, above a bound. -/
def NewEI (B : Nat) (v : Value) (w : World) : Prop := ∃ b, v = .slice (some ⟨b, 0, none⟩) 0 0 ∧ Blk w b #[] 36 ∧ B ≤ b
theorem NewEI.later (B : Nat) (v : Value) (w w' : World) (h : NewEI B v w) (hb : Below w.heap.size w w') : NewEI B v w' := by
  obtain ⟨b, hv, hk, hB⟩ := h
  exact ⟨b, hv, hk.later hb, hB⟩
def OwnVI (B : Nat) (l : List Itm) (v : Value) (w : World) : Prop := OwnIt w B v l ∧ B ≤ w.heap.size
theorem OwnVI.later (B : Nat) (l : List Itm) (v : Value) (w w' : World) (h : OwnVI B l v w) (hb : Below w.heap.size w w') : OwnVI B l v w' := ⟨h.1.later hb, Nat.le_trans h.2 hb.size⟩
def NewI1 (x : Itm) (v : Value) (w : World) : Prop := ∃ b, v = .slice (some ⟨b, 0, none⟩) 1 1 ∧ Blk w b (itV x) 36
theorem NewI1.later (x : Itm) (v : Value) (w w' : World) (h : NewI1 x v w) (hb : Below w.heap.size w w') : NewI1 x v w' := by obtain ⟨b, h1, h2⟩ := h; exact ⟨b, h1, h2.later hb⟩
end Go.Proofs.Ytnhcbldcfcibiaa
/- The statement ItemTells of layer 13, walked. -/
namespace Go.Proofs.Ytnhcbldcfcibiaa
open Go Go.RowKit
set_option linter.unusedVariables false
set_option linter.unusedSimpArgs false
set_option maxRecDepth 1000000
set_option maxHeartbeats 64000000

structure ItlS (w0 : World) (A : Option Addr) (l : List Nd) (c : Nat) (B C : Option Addr) (s t : List Itm) (w : World) : Prop where
  f : FstS w0 A l c w
  rs : ItRow w B s
  rt : ItRow w C t
theorem ItlS.later {w0 w w' : World} {A B C : Option Addr} {l : List Nd} {c : Nat} {s t : List Itm} (h : ItlS w0 A l c B C s t w) (hb : Below w.heap.size w w') : ItlS w0 A l c B C s t w' := ⟨h.f.later hb, h.rs.later hb, h.rt.later hb⟩
structure ItlT (w0 : World) (A : Option Addr) (l : List Nd) (c : Nat) (B C : Option Addr) (s t : List Itm) (D E : Option Addr) (m : List Itm) (bx : Nat) (w : World) : Prop where
  i : ItlS w0 A l c B C s t w
  ra : ItRow w D m
  rb : ItRow w E m
  rx : ItRow w (some ⟨bx, 0, none⟩) (stS l)
theorem ItlT.later {w0 w w' : World} {A B C D E : Option Addr} {l : List Nd} {c : Nat} {s t m : List Itm} {bx : Nat} (h : ItlT w0 A l c B C s t D E m bx w) (hb : Below w.heap.size w w') : ItlT w0 A l c B C s t D E m bx w' := ⟨h.i.later hb, h.ra.later hb, h.rb.later hb, h.rx.later hb⟩
/-- What is lowered. -/
theorem lowp_is {w0 w : World} {l : List Itm} {e : Ending} (h : LowP w0 l e w) : ∃ a cap, e = .returned (.tuple #[.slice a ((lowS l).getD []).length cap, .bool (lowS l).isSome]) ∧ ItRow w a ((lowS l).getD []) ∧ Below w0.heap.size w0 w := by
  obtain ⟨hb, ⟨h0, h1⟩ | ⟨v, m, h1, h2, h3⟩⟩ := h
  · rw [h0]; exact ⟨none, 0, h1, ItRow.nil _ _, hb⟩
  · rw [h1]
    obtain ⟨a, cap, rfl, -, hr⟩ := h3.row
    exact ⟨a, cap, h2, hr, hb⟩
theorem lowS_le {l : List Itm} : ((lowS l).getD []).length ≤ l.length := by
  unfold lowS; split <;> simp
theorem itemtells_walk (l : List Nd) (A : Option Addr) (c : Nat) (s t : List Itm) (B C : Option Addr) (c2 c3 : Nat) (hc1 : l.length ≤ c) (hl : l.length ≤ 9223372036854775807) (htx : Txt l) (h1 : s.length ≤ 9223372036854775807) (h2 : t.length ≤ 9223372036854775807) (os : ItOk s) (ot : ItOk t) (w : World) (hrow : NRow w A l) (hs : ItRow w B s) (ht : ItRow w C t) :
    Calls Try.prog 3 #[.agg #[.slice A l.length c], .slice B s.length c2, .slice C t.length c3] w (Ans w (.bool true)) := by
  have hbb := (Below.refl w.heap.size w).alloc (Nat.le_refl _) (.cells #[.slice A l.length c] 24)
  have HS : Hid (ItlS w A l c B C s t (w.alloc (.cells #[.slice A l.length c] 24))) := ⟨⟨hbb, hrow.later hbb, Blk.new _ _ _⟩, hs.later hbb, ht.later hbb⟩
  have HAW := Lib.hid (fun w => awake13_any w)
  have HTX := Lib.hid htx
  have HOS := Lib.hid os
  have HOT := Lib.hid ot
  clear hbb hrow hs ht htx os ot
  go_enter Try.func3, Try.ntmps3
  go_upto_region 1 with (fail)
  generalize w.alloc (.cells #[.slice A l.length c] 24) = w1 at HS ⊢
  have e0 := HS.out.f.box.cell 0
  simp at e0
  go_wp2_with fail
  refine ((HAW.out _)).mono ?_; rintro e w2 ⟨rfl, hb⟩
  have HS2 := Lib.hid (HS.out.later hb)
  clear hb e0 HS
  have HS := HS2
  clear HS2
  have e0 := HS.out.f.box.cell 0
  simp at e0
  have HF := Lib.hid (few_any l A c hl HTX.out _ HS.out.f.row)
  cases hf : fewB l with
  | false =>
    rw [hf] at HF
    clear hf
    go_wp2_with fail
    refine ((HF.out)).mono ?_; rintro e w2 ⟨rfl, hb⟩
    have HS2 := Lib.hid (HS.out.later hb)
    clear hb e0 HS
    have HS := HS2
    clear HS2
    have e0 := HS.out.f.box.cell 0
    simp at e0
    go_wp2_with fail
    refine ((HAW.out _)).mono ?_; rintro e w2 ⟨rfl, hb⟩
    have HS2 := Lib.hid (HS.out.later hb)
    clear hb e0 HS
    have HS := HS2
    clear HS2
    have e0 := HS.out.f.box.cell 0
    simp at e0
    go_wp2
    go_ret
    exact ⟨rfl, HS.out.f.bel⟩
  | true =>
    rw [hf] at HF
    have L1 := Lib.hid (few_txt hf).1
    clear hf
    go_wp2_with fail
    refine ((HF.out)).mono ?_; rintro e w2 ⟨rfl, hb⟩
    have HS2 := Lib.hid (HS.out.later hb)
    clear hb e0 HS
    have HS := HS2
    clear HS2
    have e0 := HS.out.f.box.cell 0
    simp at e0
    clear HF
    have HF := Lib.hid (rright_any l A c hc1 (by have := L1.out; omega) HTX.out _ HS.out.f.row)
    cases hf : rgB l with
    | false =>
      rw [hf] at HF
      clear hf
      go_wp2_with fail
      refine ((HF.out)).mono ?_; rintro e w2 ⟨rfl, hb⟩
      have HS2 := Lib.hid (HS.out.later hb)
      clear hb e0 HS
      have HS := HS2
      clear HS2
      have e0 := HS.out.f.box.cell 0
      simp at e0
      go_wp2_with fail
      refine ((HAW.out _)).mono ?_; rintro e w2 ⟨rfl, hb⟩
      have HS2 := Lib.hid (HS.out.later hb)
      clear hb e0 HS
      have HS := HS2
      clear HS2
      have e0 := HS.out.f.box.cell 0
      simp at e0
      go_wp2
      go_ret
      exact ⟨rfl, HS.out.f.bel⟩
    | true =>
      rw [hf] at HF
      have hlen := L1.out
      have hpos : 0 < l.length := ((rgB_iff l).1 hf).1.1
      clear hf
      by_cases ga : s.length ≤ 60
      · have za : ¬ (s.length : Int) > 60 := by omega
        by_cases gb : t.length ≤ 60
        · have zb : ¬ (t.length : Int) > 60 := by omega
          have hlenz : (l.length : Int) ≤ 100 := by omega
          have hsz : s.length ≤ 60 := ga
          have htz : t.length ≤ 60 := gb
          have HSZ := Lib.hid hsz
          have HTZ := Lib.hid htz
          clear ga gb hsz htz
          go_wp2_with fail
          refine ((HF.out)).mono ?_; rintro e w2 ⟨rfl, hb⟩
          have HS2 := Lib.hid (HS.out.later hb)
          clear hb e0 HS
          have HS := HS2
          clear HS2
          have e0 := HS.out.f.box.cell 0
          simp at e0
          clear HF
          have HL := Lib.hid (ilower_any s B c2 (by have := HSZ.out; omega) HOS.out _ HS.out.rs)
          go_wp2_with fail
          refine HL.out.mono ?_; rintro e w3 hp
          obtain ⟨D, cd, rfl, hrd, hb⟩ := lowp_is hp
          have HS2 := Lib.hid (HS.out.later hb)
          have HRD := Lib.hid hrd
          clear hb hp hrd HL HS e0
          have e0 := HS2.out.f.box.cell 0
          simp at e0
          have HL := Lib.hid (rlower_any s B c2 (by have := HSZ.out; omega) HOS.out _ HS2.out.rs)
          go_wp2_with fail
          refine HL.out.mono ?_; rintro e w4 hp
          obtain ⟨E, ce, rfl, hre, hb⟩ := lowp_is hp
          have HS3 := Lib.hid (HS2.out.later hb)
          have HRD2 := Lib.hid (HRD.out.later hb)
          have HRE := Lib.hid hre
          clear hb hp hre HL HS2 HRD e0
          have e0 := HS3.out.f.box.cell 0
          simp at e0
          go_wp2_with fail
          refine (istart_any l A c (by omega) _).mono ?_; rintro e w5 ⟨bx, rfl, hk, -, hb⟩
          have HML : Hid (((lowS s).getD []).length ≤ 60) := Nat.le_trans lowS_le HSZ.out
          have HS : Hid (ItlT w A l c B C s t D E ((lowS s).getD []) bx w5) := ⟨HS3.out.later hb, HRD2.out.later hb, HRE.out.later hb, ItRow.one hk⟩
          clear hk hb HS3 HRD2 HRE e0
          generalize (lowS s).getD [] = m at *
          generalize (lowS s).isSome = ok at *
          have HC1 := Lib.hid (fun (w' : World) (h : ItlT w A l c B C s t D E m bx w') => iform_any l A c s B c2 (by omega) (by have := HSZ.out; omega) HTX.out w' h.i.f.row h.i.rs)
          have HC2 := Lib.hid (fun (w' : World) (h : ItlT w A l c B C s t D E m bx w') => riform_any l A c s B c2 (by omega) (by have := HSZ.out; omega) HTX.out w' h.i.f.row h.i.rs)
          have HC3 := Lib.hid (fun (w' : World) (h : ItlT w A l c B C s t D E m bx w') => icompare_any s t B C c2 c3 w' h.i.rs h.i.rt (by have := HSZ.out; omega) (by have := HTZ.out; omega))
          have HC4 := Lib.hid (fun (w' : World) (h : ItlT w A l c B C s t D E m bx w') => rstcmp_any s t B C c2 c3 w' h.i.rs h.i.rt (by have := HSZ.out; omega) (by have := HTZ.out; omega))
          have HC5 := Lib.hid (fun (w' : World) (h : ItlT w A l c B C s t D E m bx w') => rstsame_any m m D E cd ce w' h.ra h.rb (by have := HML.out; omega) (by have := HML.out; omega))
          have HC6 : Hid (∀ (w' : World) (h : ItlT w A l c B C s t D E m bx w') (b : Nat), Blk w' b (itV ⟨1, (l.length : Int) - 1, 0, 0⟩) 36 → Calls Try.prog 18 #[.slice (some ⟨bx, 0, none⟩) 1 1, .slice (some ⟨b, 0, none⟩) 1 1] w' (Ans w' (.bool true))) := fun w' h b hb => by
            have := rstsame_any (stS l) (stS l) (some ⟨bx, 0, none⟩) (some ⟨b, 0, none⟩) 1 1 w' h.rx (ItRow.one hb) (by unfold stS; simp) (by unfold stS; simp)
            rw [decide_eq_true rfl] at this; exact this
          have HC7 := Lib.hid (fun (w' : World) (h : ItlT w A l c B C s t D E m bx w') => rstsame_any s t B C c2 c3 w' h.i.rs h.i.rt (by have := HSZ.out; omega) (by have := HTZ.out; omega))
          have HK1 : Hid (∀ (w' : World) (h : ItlT w A l c B C s t D E m bx w'), Calls Try.prog 19 #[.slice B s.length c2] w' (Ans w' (.string (bs (stK s))))) := fun w' h => (ikey_any s B c2 (by have := HSZ.out; omega) HOS.out w' h.i.rs).mono fun e w h => h
          have HK2 : Hid (∀ (w' : World) (h : ItlT w A l c B C s t D E m bx w'), Calls Try.prog 19 #[.slice C t.length c3] w' (Ans w' (.string (bs (stK t))))) := fun w' h => (ikey_any t C c3 (by have := HTZ.out; omega) HOT.out w' h.i.rt).mono fun e w h => h
          have HP : Hid (s = t ↔ stK s = stK t) := by unfold Hid; rw [stK_inj]
          rw [decide_eq_true rfl] at HC5
          generalize stC s t = p at *
          generalize stF l s = f at *
          generalize stK s = ks at *
          generalize stK t = kt at *
          have hpp : (p == p) = true := by simp
          have hff : (f == f) = true := by simp
          have hoo : (ok == ok) = true := by simp
          go_upto_region 6 with (fail)
          by_cases hst : s = t
          · have hk := HP.out.1 hst
            have hd : decide (s = t) = true := decide_eq_true hst
            rw [hd] at HC7
            subst hk
            have hkk : (bs ks == bs ks) = true := by rw [bs_beq, decide_eq_true rfl]
            clear hst hd HP
            refine wp_region_stable (S := (ItlT w A l c B C s t D E m bx)) (hSt := fun _ _ h hb => h.later hb) (plan := [[(3, none)], [(1, none)], [(47, some 0), (48, some 1)], [(3, none)], [(1, none)], [(50, some 3), (51, some 4)], [(49, some 2), (52, some 5)], [(53, some 6)], [(1, none)], [(2, none)], [(55, some 8), (56, some 9)], [(1, none)], [(2, none)], [(58, some 11), (59, some 12)], [(57, some 10), (60, some 13)], [(54, some 7), (61, some 14)], [(62, some 15)], [(7, none)], [(9, none)], [(64, some 17), (65, some 18)], [(63, some 16), (66, some 19)], [(67, some 20)], [(8, none)], [(10, none)], [(69, some 22), (70, some 23)], [(68, some 21), (71, some 24)], [(72, some 25)], [(11, none)], [(3, none)], [(75, some 28)], [(76, some 29)], [(77, some 30)], [(78, some 31)], [(79, some 32)], [(74, some 27), (80, some 33)], [(73, some 26), (81, some 34)], [(82, some 35)], [(1, none)], [(84, some 37)], [(2, none)], [(86, some 39)], [(85, some 38), (87, some 40)], [(1, none)], [(2, none)], [(89, some 42), (90, some 43)], [(88, some 41), (91, some 44)], [(83, some 36), (92, some 45)], [(93, some 46)]]) (by kernel_rfl) (by kernel_rfl) (by kernel_rfl) ?hS ?_
            rotate_left
            iterate 33 first
              | (refine chain_skip (by rfl) (by rfl) ?_)
              | (apply chain_want (by rfl)
                 · intro act wx hS hr
                   simp at hr
                   have e0 := hS.i.f.box.cell 0
                   simp at e0
                   go_simp
                   (try go_ints)
                   first
                     | ((with_reducible refine (HC1.out _ hS).mono ?_); rintro e w' ⟨rfl, hb⟩; exact Done.mk hb)
                     | ((with_reducible refine (HC2.out _ hS).mono ?_); rintro e w' ⟨rfl, hb⟩; exact Done.mk hb)
                     | ((with_reducible refine (HC3.out _ hS).mono ?_); rintro e w' ⟨rfl, hb⟩; exact Done.mk hb)
                     | ((with_reducible refine (HC4.out _ hS).mono ?_); rintro e w' ⟨rfl, hb⟩; exact Done.mk hb)
                     | ((with_reducible refine (HC5.out _ hS).mono ?_); rintro e w' ⟨rfl, hb⟩; exact Done.mk hb)
                     | ((with_reducible refine (HC7.out _ hS).mono ?_); rintro e w' ⟨rfl, hb⟩; exact Done.mk hb)
                     | ((with_reducible refine (HK1.out _ hS).mono ?_); rintro e w' ⟨rfl, hb⟩; exact Done.mk hb)
                     | ((with_reducible refine (HK2.out _ hS).mono ?_); rintro e w' ⟨rfl, hb⟩; exact Done.mk hb)
                     | (obtain ⟨hr1, v, hr2, b, rfl, hk⟩ := hr; simp only [hr1, hr2, Option.getD_some]; (refine (HC6.out _ hS b hk).mono ?_); rintro e w' ⟨rfl, hb⟩; exact Done.mk hb)
                     | exact Done.same
                )
            (refine chain_rel (NewI1 ⟨1, (l.length : Int) - 1, 0, 0⟩) (NewI1.later ⟨1, (l.length : Int) - 1, 0, 0⟩) (by rfl) ?_ ?_
             · intro act wx hS hr
               simp at hr
               have e0 := hS.i.f.box.cell 0
               simp at e0
               all_goals go_simp
               exact Done.rel ((Below.refl _ _).alloc (Nat.le_refl _) _) ⟨_, rfl, Blk.new _ _ _⟩
            )
            iterate 14 first
              | (refine chain_skip (by rfl) (by rfl) ?_)
              | (apply chain_want (by rfl)
                 · intro act wx hS hr
                   simp at hr
                   have e0 := hS.i.f.box.cell 0
                   simp at e0
                   go_simp
                   (try go_ints)
                   first
                     | ((with_reducible refine (HC1.out _ hS).mono ?_); rintro e w' ⟨rfl, hb⟩; exact Done.mk hb)
                     | ((with_reducible refine (HC2.out _ hS).mono ?_); rintro e w' ⟨rfl, hb⟩; exact Done.mk hb)
                     | ((with_reducible refine (HC3.out _ hS).mono ?_); rintro e w' ⟨rfl, hb⟩; exact Done.mk hb)
                     | ((with_reducible refine (HC4.out _ hS).mono ?_); rintro e w' ⟨rfl, hb⟩; exact Done.mk hb)
                     | ((with_reducible refine (HC5.out _ hS).mono ?_); rintro e w' ⟨rfl, hb⟩; exact Done.mk hb)
                     | ((with_reducible refine (HC7.out _ hS).mono ?_); rintro e w' ⟨rfl, hb⟩; exact Done.mk hb)
                     | ((with_reducible refine (HK1.out _ hS).mono ?_); rintro e w' ⟨rfl, hb⟩; exact Done.mk hb)
                     | ((with_reducible refine (HK2.out _ hS).mono ?_); rintro e w' ⟨rfl, hb⟩; exact Done.mk hb)
                     | (obtain ⟨hr1, v, hr2, b, rfl, hk⟩ := hr; simp only [hr1, hr2, Option.getD_some]; (refine (HC6.out _ hS b hk).mono ?_); rintro e w' ⟨rfl, hb⟩; exact Done.mk hb)
                     | exact Done.same
                )
            show ∀ w', _ → _
            intro wz hz
            simp [Act.put]
            case hS => exact HS.out
            intro v33 _
            have HZ := Lib.hid hz
            clear hz HS
            go_wp2
            go_ret
            exact ⟨rfl, HZ.out.i.f.bel⟩
          · have hk : ks ≠ kt := fun e => hst (HP.out.2 e)
            have hd : decide (s = t) = false := decide_eq_false hst
            rw [hd] at HC7
            have hkb : (bs ks == bs kt) = false := by rw [bs_beq, decide_eq_false hk]
            have hkl : ¬ (bs ks).toList = (bs kt).toList := fun e => hk (by rw [Lib.toList_data, Lib.toList_data, bs_data, bs_data] at e; exact e)
            have hklb : ((bs ks).toList == (bs kt).toList) = false := beq_eq_false_iff_ne.2 hkl
            clear hst hd HP hk
            refine wp_region_stable (S := (ItlT w A l c B C s t D E m bx)) (hSt := fun _ _ h hb => h.later hb) (plan := [[(3, none)], [(1, none)], [(47, some 0), (48, some 1)], [(3, none)], [(1, none)], [(50, some 3), (51, some 4)], [(49, some 2), (52, some 5)], [(53, some 6)], [(1, none)], [(2, none)], [(55, some 8), (56, some 9)], [(1, none)], [(2, none)], [(58, some 11), (59, some 12)], [(57, some 10), (60, some 13)], [(54, some 7), (61, some 14)], [(62, some 15)], [(7, none)], [(9, none)], [(64, some 17), (65, some 18)], [(63, some 16), (66, some 19)], [(67, some 20)], [(8, none)], [(10, none)], [(69, some 22), (70, some 23)], [(68, some 21), (71, some 24)], [(72, some 25)], [(11, none)], [(3, none)], [(75, some 28)], [(76, some 29)], [(77, some 30)], [(78, some 31)], [(79, some 32)], [(74, some 27), (80, some 33)], [(73, some 26), (81, some 34)], [(82, some 35)], [(1, none)], [(84, some 37)], [(2, none)], [(86, some 39)], [(85, some 38), (87, some 40)], [(1, none)], [(2, none)], [(89, some 42), (90, some 43)], [(88, some 41), (91, some 44)], [(83, some 36), (92, some 45)], [(93, some 46)]]) (by kernel_rfl) (by kernel_rfl) (by kernel_rfl) ?hS ?_
            rotate_left
            iterate 33 first
              | (refine chain_skip (by rfl) (by rfl) ?_)
              | (apply chain_want (by rfl)
                 · intro act wx hS hr
                   simp at hr
                   have e0 := hS.i.f.box.cell 0
                   simp at e0
                   go_simp
                   (try go_ints)
                   first
                     | ((with_reducible refine (HC1.out _ hS).mono ?_); rintro e w' ⟨rfl, hb⟩; exact Done.mk hb)
                     | ((with_reducible refine (HC2.out _ hS).mono ?_); rintro e w' ⟨rfl, hb⟩; exact Done.mk hb)
                     | ((with_reducible refine (HC3.out _ hS).mono ?_); rintro e w' ⟨rfl, hb⟩; exact Done.mk hb)
                     | ((with_reducible refine (HC4.out _ hS).mono ?_); rintro e w' ⟨rfl, hb⟩; exact Done.mk hb)
                     | ((with_reducible refine (HC5.out _ hS).mono ?_); rintro e w' ⟨rfl, hb⟩; exact Done.mk hb)
                     | ((with_reducible refine (HC7.out _ hS).mono ?_); rintro e w' ⟨rfl, hb⟩; exact Done.mk hb)
                     | ((with_reducible refine (HK1.out _ hS).mono ?_); rintro e w' ⟨rfl, hb⟩; exact Done.mk hb)
                     | ((with_reducible refine (HK2.out _ hS).mono ?_); rintro e w' ⟨rfl, hb⟩; exact Done.mk hb)
                     | (obtain ⟨hr1, v, hr2, b, rfl, hk⟩ := hr; simp only [hr1, hr2, Option.getD_some]; (refine (HC6.out _ hS b hk).mono ?_); rintro e w' ⟨rfl, hb⟩; exact Done.mk hb)
                     | exact Done.same
                )
            (refine chain_rel (NewI1 ⟨1, (l.length : Int) - 1, 0, 0⟩) (NewI1.later ⟨1, (l.length : Int) - 1, 0, 0⟩) (by rfl) ?_ ?_
             · intro act wx hS hr
               simp at hr
               have e0 := hS.i.f.box.cell 0
               simp at e0
               all_goals go_simp
               exact Done.rel ((Below.refl _ _).alloc (Nat.le_refl _) _) ⟨_, rfl, Blk.new _ _ _⟩
            )
            iterate 14 first
              | (refine chain_skip (by rfl) (by rfl) ?_)
              | (apply chain_want (by rfl)
                 · intro act wx hS hr
                   simp at hr
                   have e0 := hS.i.f.box.cell 0
                   simp at e0
                   go_simp
                   (try go_ints)
                   first
                     | ((with_reducible refine (HC1.out _ hS).mono ?_); rintro e w' ⟨rfl, hb⟩; exact Done.mk hb)
                     | ((with_reducible refine (HC2.out _ hS).mono ?_); rintro e w' ⟨rfl, hb⟩; exact Done.mk hb)
                     | ((with_reducible refine (HC3.out _ hS).mono ?_); rintro e w' ⟨rfl, hb⟩; exact Done.mk hb)
                     | ((with_reducible refine (HC4.out _ hS).mono ?_); rintro e w' ⟨rfl, hb⟩; exact Done.mk hb)
                     | ((with_reducible refine (HC5.out _ hS).mono ?_); rintro e w' ⟨rfl, hb⟩; exact Done.mk hb)
                     | ((with_reducible refine (HC7.out _ hS).mono ?_); rintro e w' ⟨rfl, hb⟩; exact Done.mk hb)
                     | ((with_reducible refine (HK1.out _ hS).mono ?_); rintro e w' ⟨rfl, hb⟩; exact Done.mk hb)
                     | ((with_reducible refine (HK2.out _ hS).mono ?_); rintro e w' ⟨rfl, hb⟩; exact Done.mk hb)
                     | (obtain ⟨hr1, v, hr2, b, rfl, hk⟩ := hr; simp only [hr1, hr2, Option.getD_some]; (refine (HC6.out _ hS b hk).mono ?_); rintro e w' ⟨rfl, hb⟩; exact Done.mk hb)
                     | exact Done.same
                )
            show ∀ w', _ → _
            intro wz hz
            simp [Act.put]
            case hS => exact HS.out
            intro v33 _
            have HZ := Lib.hid hz
            clear hz HS
            go_wp2
            go_ret
            exact ⟨rfl, HZ.out.i.f.bel⟩
        · have zb : (t.length : Int) > 60 := by omega
          clear ga gb
          go_wp2_with fail
          refine ((HF.out)).mono ?_; rintro e w2 ⟨rfl, hb⟩
          have HS2 := Lib.hid (HS.out.later hb)
          clear hb e0 HS
          have HS := HS2
          clear HS2
          have e0 := HS.out.f.box.cell 0
          simp at e0
          go_wp2_with fail
          refine ((HAW.out _)).mono ?_; rintro e w2 ⟨rfl, hb⟩
          have HS2 := Lib.hid (HS.out.later hb)
          clear hb e0 HS
          have HS := HS2
          clear HS2
          have e0 := HS.out.f.box.cell 0
          simp at e0
          go_wp2
          go_ret
          exact ⟨rfl, HS.out.f.bel⟩
      · have za : (s.length : Int) > 60 := by omega
        clear ga
        go_wp2_with fail
        refine ((HF.out)).mono ?_; rintro e w2 ⟨rfl, hb⟩
        have HS2 := Lib.hid (HS.out.later hb)
        clear hb e0 HS
        have HS := HS2
        clear HS2
        have e0 := HS.out.f.box.cell 0
        simp at e0
        go_wp2_with fail
        refine ((HAW.out _)).mono ?_; rintro e w2 ⟨rfl, hb⟩
        have HS2 := Lib.hid (HS.out.later hb)
        clear hb e0 HS
        have HS := HS2
        clear HS2
        have e0 := HS.out.f.box.cell 0
        simp at e0
        go_wp2
        go_ret
        exact ⟨rfl, HS.out.f.bel⟩
end Go.Proofs.Ytnhcbldcfcibiaa
