/- The document's examples of the parser: walked. -/
import Derived.Test.YtencdlcpnbdlbaaM14
import Derived.Test.YtencdlcpnbdlbaaM24
import Derived.Test.YtencdlcpnbdlbaaM25
import Derived.Test.YtencdlcpnbdlbaaM37
import Derived.Test.YtencdlcpnbdlbaaM09
namespace Go.Proofs.Ytencdlcpnbdlbaa
open Go Go.RowKit
set_option linter.unusedVariables false
set_option linter.unusedSimpArgs false

def TksPost (w : World) (l : List Tk) (e : Ending) (w' : World) : Prop := ∃ A c, e = .returned (.slice A l.length c) ∧ TkRow w' A l ∧ Below w.heap.size w w'
set_option maxHeartbeats 4000000 in
set_option maxRecDepth 100000 in
theorem tokens_any (t : List UInt8) (ht : t.length ≤ 1000) (w : World) : Calls Try.prog 17 #[.string (bs t)] w (TksPost w (tksOf t)) := by
  have HC := Lib.hid (rread_any t (by omega) w)
  clear ht
  go_enter Try.func17, Try.ntmps17
  go_wp2_with fail
  refine HC.out.mono ?_; intro e1 w1 hp
  unfold RdPost at hp
  clear HC
  cases hr : readL t 0 0 with
  | ok r =>
    rw [hr] at hp
    obtain ⟨A, c, rfl, hrow, hb, -⟩ := hp
    have HR := Lib.hid hrow.tk
    have HB := Lib.hid hb
    have HL : Hid ((r.map Tok.tk).length = r.length) := by unfold Hid; simp
    have HTK : Hid (tksOf t = r.map Tok.tk) := by unfold Hid tksOf; rw [hr]
    clear hrow hb hr
    go_wp2
    exact bodyPost_ret (v := .slice A r.length c) (by simp [results, Try.results17, go_sem]) rfl ⟨A, c, by rw [HTK.out, HL.out], by rw [HTK.out]; exact HR.out, HB.out⟩
  | error x =>
    obtain ⟨f, q⟩ := x
    rw [hr] at hp
    obtain ⟨rfl, hb⟩ := hp
    have HB := Lib.hid hb
    have HTK : Hid (tksOf t = []) := by unfold Hid tksOf; rw [hr]
    clear hb hr
    go_wp2
    exact bodyPost_ret (v := .slice none 0 0) (by simp [results, Try.results17, go_sem]) rfl ⟨none, 0, by rw [HTK.out]; rfl, by rw [HTK.out]; exact TkRow.nil _ _, HB.out⟩
theorem AwT.txt' {l : List Tk} (h : AwT l) : TkTxt' l := fun p => by
  by_cases hp : p < l.length
  · have := h.txt _ (tk_mem hp); omega
  · have : tkAt l p = tkEnd := by unfold tkAt; rw [List.getD_eq_getElem?_getD, List.getElem?_eq_none (by omega)]; rfl
    rw [this]; simp [tkEnd]
theorem AwT.parse {l : List Tk} (h : AwT l) {r : PR} (hr : parseP l = r) (A : Option Addr) (c : Nat) (w : World) (hrow : TkRow w A l) : Calls Try.prog 9 #[.slice A l.length c] w (PParse w r) := by
  have q := parse_any h.txt' h.ends (by have := h.few; omega) A c w hrow
  rw [hr] at q; exact q
def pw1 : PS := { read := 7, opn := [], nodes := [{ kind := 2, cls := BitVec.allOnes 256 }, { kind := 6, a := 0 }, { kind := 1 }, { kind := 8, a := 2 }, { kind := 5, a := 1, b := 3 }], ats := [-1, 1, -1, -1, -1], count := 5 }
def nw4 : Nd := { kind := 5, a := 1, b := 3 }
theorem awq5 (w : World) : (binOp .eql 39 (.agg #[.int .i64 5, .int .i64 1, .int .i64 3, .int .i64 0, .int .i64 0, .int .u64 0, .int .u64 0, .int .u64 0, .int .u64 0, .string ⟨#[]⟩]) (.agg #[.int .i64 5, .int .i64 1, .int .i64 3, .int .i64 0, .int .i64 0, .int .u64 0, .int .u64 0, .int .u64 0, .int .u64 0, .string ⟨#[]⟩])).run Try.prog w = .ok (.bool true) w := by
  have := eql_nd nw4 nw4 w
  unfold nw4 at this
  rw [ndC_zero] at this
  exact this
/-- What is left of the first one. -/
structure Aw5 (w0 : World) (b1 : Nat) (bn on : Nat) (kn : Nat) (ba oa : Nat) (w : World) : Prop where
  bel : Below w0.heap.size w0 w
  x1 : Blk w b1 #[.slice (some ⟨bn, on, none⟩) 5 kn] 27
  nd : NRow w (some ⟨bn, on, none⟩) pw1.nodes
  at_ : IRow w (some ⟨ba, oa, none⟩) pw1.ats
theorem Aw5.later {w0 w w' : World} {b1 bn on kn ba oa : Nat} (h : Aw5 w0 b1 bn on kn ba oa w) (hb : Below w.heap.size w w') : Aw5 w0 b1 bn on kn ba oa w' := ⟨h.bel.trans (hb.mono h.bel.size), h.x1.later hb, h.nd.later hb, h.at_.later hb⟩
set_option maxHeartbeats 16000000 in
set_option maxRecDepth 1000000 in
theorem awake5_any (w : World) : Calls Try.prog 7 #[] w (Ans w (.bool true)) := by
  have T1 : Hid (∀ w, Calls Try.prog 17 #[.string ⟨#[46, 42, 124, 98, 40, 41]⟩] w (TksPost w (tksOf aw1))) := fun w => tokens_any aw1 (by decide) w
  have T2 : Hid (∀ w, Calls Try.prog 17 #[.string ⟨#[40, 40, 46]⟩] w (TksPost w (tksOf aw2))) := fun w => tokens_any aw2 (by decide) w
  have T3 : Hid (∀ w, Calls Try.prog 17 #[.string ⟨#[46, 124, 42]⟩] w (TksPost w (tksOf aw3))) := fun w => tokens_any aw3 (by decide) w
  have T4 : Hid (∀ w, Calls Try.prog 17 #[.string ⟨#[46, 41]⟩] w (TksPost w (tksOf aw4))) := fun w => tokens_any aw4 (by decide) w
  have T5 : Hid (∀ w, Calls Try.prog 17 #[.string ⟨#[40, 46, 41]⟩] w (TksPost w (tksOf aw5))) := fun w => tokens_any aw5 (by decide) w
  have P1 : Hid (∀ A c w, TkRow w A (tksOf aw1) → Calls Try.prog 9 #[.slice A (tksOf aw1).length c] w (PParse w (.ok 4 pw1))) := fun A c w h => aw1_t.parse aw1_ok A c w h
  have P2 : Hid (∀ A c w, TkRow w A (tksOf aw2) → Calls Try.prog 9 #[.slice A (tksOf aw2).length c] w (PParse w (.bad 6 1))) := fun A c w h => aw2_t.parse aw2_bad A c w h
  have P3 : Hid (∀ A c w, TkRow w A (tksOf aw3) → Calls Try.prog 9 #[.slice A (tksOf aw3).length c] w (PParse w (.bad 7 2))) := fun A c w h => aw3_t.parse aw3_bad A c w h
  have P4 : Hid (∀ A c w, TkRow w A (tksOf aw4) → Calls Try.prog 9 #[.slice A (tksOf aw4).length c] w (PParse w (.bad 7 1))) := fun A c w h => aw4_t.parse aw4_bad A c w h
  have P5 : Hid (∀ A c w, TkRow w A (tksOf aw5) → Calls Try.prog 16 #[.slice A (tksOf aw5).length c] w (DpPost (tksOf aw5) w)) := fun A c w h => deep_any _ A c (by have := aw5_t.few; omega) w h
  have HD : Hid (∀ i, i < (tksOf aw5).length → cntO (tksOf aw5) 0 (i + 1) ≤ 64) := by have q := of_decide_eq_true aw5_deep; exact q
  generalize tksOf aw1 = l1 at *
  generalize tksOf aw2 = l2 at *
  generalize tksOf aw3 = l3 at *
  generalize tksOf aw4 = l4 at *
  generalize tksOf aw5 = l5 at *
  go_enter Try.func7, Try.ntmps7
  go_wp2_with fail
  refine (T1.out w).mono ?_; intro e1 w1 hp
  obtain ⟨A1, c1, rfl, hr1, hb1⟩ := hp
  have HB1 := Lib.hid hb1
  have HR1 := Lib.hid hr1
  clear hb1 hr1 T1
  go_wp2_with fail
  refine (P1.out A1 c1 w1 HR1.out).mono ?_; intro e2 w2 hq
  obtain ⟨nv, av, rfl, hn, ha, hb2⟩ := hq
  obtain ⟨an, kn, rfl, hrn⟩ := hn.row
  obtain ⟨aa, ka, rfl, hra⟩ := ha.row
  obtain ⟨bn, on, rfl, -, -⟩ := hrn 0 (by decide)
  obtain ⟨ba, oa, rfl, -, -⟩ := hra 0 (by decide)
  have e5 : pw1.nodes.length = 5 := rfl
  have e6 : pw1.ats.length = 5 := rfl
  rw [e5, e6]
  have HB2 := Lib.hid (HB1.out.trans (hb2.mono HB1.out.size))
  have HRN := Lib.hid hrn
  have HRA := Lib.hid hra
  clear hb2 hrn hra hn ha HB1 HR1 P1 e5 e6
  have hbb := (Below.refl w2.heap.size w2).alloc (Nat.le_refl _) (.cells #[.slice (some ⟨bn, on, none⟩) 5 kn] 27)
  have HS : Hid (Aw5 w w2.heap.size bn on kn ba oa (w2.alloc (.cells #[.slice (some ⟨bn, on, none⟩) 5 kn] 27))) := ⟨HB2.out.trans (hbb.mono HB2.out.size), Blk.new _ _ _, HRN.out.later hbb, HRA.out.later hbb⟩
  clear hbb HB2 HRN HRA
  go_upto_region 2 with (fail)
  generalize w2.alloc (.cells #[.slice (some ⟨bn, on, none⟩) 5 kn] 27) = w5 at *
  generalize w2.heap.size = b1 at *
  go_wp2_with fail
  refine (T2.out _).mono ?_; intro e3 w3 hp
  obtain ⟨A3, c3, rfl, hr3, hb3⟩ := hp
  have HS3 := Lib.hid (HS.out.later hb3)
  have HR3 := Lib.hid hr3
  clear hb3 hr3 HS T2
  go_wp2_with fail
  refine (P2.out _ _ _ HR3.out).mono ?_; intro e4 w4 hq
  obtain ⟨rfl, hb4⟩ := hq
  have HS4 := Lib.hid (HS3.out.later hb4)
  clear hb4 HS3 HR3 P2
  have hb5 := (Below.refl w4.heap.size w4).alloc (Nat.le_refl _) (.cells #[.slice none 0 0] 27)
  have HS := Lib.hid (HS4.out.later hb5)
  clear hb5 HS4
  go_upto_region 3 with (fail)
  generalize w4.alloc (.cells #[.slice none 0 0] 27) = w5 at *
  generalize w4.heap.size = db at *
  go_wp2_with fail
  refine (T3.out _).mono ?_; intro e3 w3 hp
  obtain ⟨A3, c3, rfl, hr3, hb3⟩ := hp
  have HS3 := Lib.hid (HS.out.later hb3)
  have HR3 := Lib.hid hr3
  clear hb3 hr3 HS T3
  go_wp2_with fail
  refine (P3.out _ _ _ HR3.out).mono ?_; intro e4 w4 hq
  obtain ⟨rfl, hb4⟩ := hq
  have HS4 := Lib.hid (HS3.out.later hb4)
  clear hb4 HS3 HR3 P3
  have hb5 := (Below.refl w4.heap.size w4).alloc (Nat.le_refl _) (.cells #[.slice none 0 0] 27)
  have HS := Lib.hid (HS4.out.later hb5)
  clear hb5 HS4
  go_upto_region 4 with (fail)
  generalize w4.alloc (.cells #[.slice none 0 0] 27) = w5 at *
  generalize w4.heap.size = db at *
  go_wp2_with fail
  refine (T4.out _).mono ?_; intro e3 w3 hp
  obtain ⟨A3, c3, rfl, hr3, hb3⟩ := hp
  have HS3 := Lib.hid (HS.out.later hb3)
  have HR3 := Lib.hid hr3
  clear hb3 hr3 HS T4
  go_wp2_with fail
  refine (P4.out _ _ _ HR3.out).mono ?_; intro e4 w4 hq
  obtain ⟨rfl, hb4⟩ := hq
  have HS4 := Lib.hid (HS3.out.later hb4)
  clear hb4 HS3 HR3 P4
  have hb5 := (Below.refl w4.heap.size w4).alloc (Nat.le_refl _) (.cells #[.slice none 0 0] 27)
  have HS := Lib.hid (HS4.out.later hb5)
  clear hb5 HS4
  go_upto_region 5 with (fail)
  generalize w4.alloc (.cells #[.slice none 0 0] 27) = w5 at *
  generalize w4.heap.size = db at *
  go_wp2_with fail
  refine (T5.out _).mono ?_; intro e3 w3 hp
  obtain ⟨A3, c3, rfl, hr3, hb3⟩ := hp
  have HS3 := Lib.hid (HS.out.later hb3)
  have HR3 := Lib.hid hr3
  clear hb3 hr3 HS T5
  go_wp2_with fail
  refine (P5.out _ _ _ HR3.out).mono ?_; intro e4 w4 hq
  obtain ⟨dp, db, rfl, hb4, hd0, hd1⟩ := hq
  have HS4 := Lib.hid (HS3.out.later hb4)
  obtain rfl : db = false := by
    cases db with
    | false => rfl
    | true => exact absurd (hd1 rfl) (fun ⟨i, h1, h2, _⟩ => by have := HD.out i h1; omega)
  clear hb4 HS3 HR3 P5 hd0 hd1 HD
  have k1 := HS4.out.x1.cell 0
  simp at k1
  have hq5 := awq5
  have hg5 : ∀ (o1 o2 : Operand) (v1 v2 : Array Value) (w : World), (eqGuard .eql 39 o1 o2 (.agg v1) (.agg v2)).run Try.prog w = .ok () w := fun o1 o2 v1 v2 w => by simp [eqGuard, go_sem]
  go_upto_region 6 with (fail)
  go_upto_region 8 with (fail)
  have n1 : At10 w4 bn (on + 1 * 10) { kind := 6, a := 0 } := HS4.out.nd.at (i := 1) (by decide) rfl
  have n2 : At10 w4 bn (on + 2 * 10) { kind := 1 } := HS4.out.nd.at (i := 2) (by decide) rfl
  have n3 : At10 w4 bn (on + 3 * 10) { kind := 8, a := 2 } := HS4.out.nd.at (i := 3) (by decide) rfl
  have n4 : At10 w4 bn (on + 4 * 10) { kind := 5, a := 1, b := 3 } := HS4.out.nd.at (i := 4) (by decide) rfl
  have m0 : w4.cell? ⟨ba, oa + 0, none⟩ = some (.int .i64 (-1)) := by obtain ⟨b, o, h1, _, h2⟩ := HS4.out.at_ 0 (by decide); cases h1; exact h2
  have m1 : w4.cell? ⟨ba, oa + 1, none⟩ = some (.int .i64 1) := by obtain ⟨b, o, h1, _, h2⟩ := HS4.out.at_ 1 (by decide); cases h1; exact h2
  obtain ⟨p10, -, -, -, -, -, -, -, -, -⟩ := n1
  obtain ⟨p20, -, -, -, -, -, -, -, -, -⟩ := n2
  obtain ⟨p30, -, -, -, -, -, -, -, -, -⟩ := n3
  obtain ⟨q0, q1, q2, q3, q4, q5, q6, q7, q8, q9⟩ := n4
  simp only [zwd] at q5 q6 q7 q8
  simp at p10 p20 p30 m0 m1 q0 q1 q2 q3 q4 q5 q6 q7 q8 q9
  rw [bs_nil] at q9
  go_wp2
  go_ret
  exact ⟨rfl, HS4.out.bel⟩
end Go.Proofs.Ytencdlcpnbdlbaa
