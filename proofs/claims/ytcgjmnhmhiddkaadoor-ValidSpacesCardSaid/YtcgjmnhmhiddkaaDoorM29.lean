/- The closure that catches a fault: its two contracts. -/
import Derived.Test.YtcgjmnhmhiddkaaDoorM28
import Derived.Test.YtcgjmnhmhiddkaaDoorM06
import Derived.Test.YtcgjmnhmhiddkaaDoorM12
import Derived.Test.YtcgjmnhmhiddkaaDoorM24
import Derived.Test.YtcgjmnhmhiddkaaDoorM10
import Derived.Tactics
import Derived.Tactics2
import Derived.Defers
import Derived.Recover
namespace Go.Proofs.YtcgjmnhmhiddkaaDoor
open Go Go.RowKit
set_option linter.unusedVariables false
set_option linter.unusedSimpArgs false

theorem as_fault (v : Value) (w : World) : (Instr.typeAssert (.iface 67 v) 20 67 true).run Tryd.prog w = .ok (.tuple #[v, .bool true]) w := by kernel_rfl
theorem as_nil (w : World) : (Instr.typeAssert .nilIface 20 67 true).run Tryd.prog w = .ok (.tuple #[.agg #[.int .i64 0, .int .i64 0], .bool false]) w := by kernel_rfl
theorem ne_fault (v : Value) (w : World) : (binOp .neq 20 (.iface 67 v) .nilIface).run Tryd.prog w = .ok (.bool true) w := by kernel_rfl
theorem neg_fault (v : Value) (w : World) : (eqGuard .neq 20 (.tmp 10) (.const .nilIface) (.iface 67 v) .nilIface).run Tryd.prog w = .ok () w := by kernel_rfl
theorem neg_nil (w : World) : (eqGuard .neq 20 (.tmp 10) (.const .nilIface) .nilIface .nilIface).run Tryd.prog w = .ok () w := by kernel_rfl
theorem ne_nil (w : World) : (binOp .neq 20 .nilIface .nilIface).run Tryd.prog w = .ok (.bool false) w := by kernel_rfl
set_option maxHeartbeats 2000000 in
set_option maxRecDepth 100000 in
theorem rec_panic (fb : Nat) (z0 z1 : Value) (e q : Int) (older : List PanicEntry) (w : World) (hb : Blk w fb #[z0, z1] 67) :
    CallsD Tryd.prog 26 #[.pointer (some ⟨fb, 0, none⟩)] (.panicking ({ v := .iface 67 (ftV e q), recovered := false } :: older)) w fun en u' w' =>
      en = .returned (.tuple #[]) ∧ u' = .panicking ({ v := .iface 67 (ftV e q), recovered := true } :: older) ∧ w' = ((w.alloc (.cells #[.int .i64 e, .int .i64 q] 67)).setCell ⟨fb, 0, none⟩ (.int .i64 e)).setCell ⟨fb, 1, none⟩ (.int .i64 q) := by
  refine callsD_of_wpS Tryd.func26 rfl fun c₀ cs hu => ?_
  apply wpS_seq
  apply wpS_region
  simp [wpOpsS, go_sem, recoverD, hu, Tryd.ntmps26, Exit.thenS]
  refine wpS_of_wp ?_
  unfold ftV at hu ⊢
  generalize hX : Value.iface 67 (.agg #[.int .i64 e, .int .i64 q]) = X
  generalize hT : (#[Value.pointer (some ⟨fb, 0, none⟩)] ++ _ : Array Value) = T
  obtain rfl : T = #[Value.pointer (some ⟨fb, 0, none⟩), X, undef, undef, X, undef, undef, undef, undef, undef, undef, undef, undef, undef, undef, undef, undef, undef] := by rw [← hT]; rfl
  subst hX
  clear hT
  have hb2 := Lib.hid (hb.alloc (.cells #[.int .i64 e, .int .i64 q] 67))
  have c0 := hb2.out.cell 0
  have c1 := hb2.out.cell 1
  simp at c0 c1
  have fz := hb2.out.frozen
  have hne : w.heap.size ≠ fb := Nat.ne_of_gt hb.lt
  clear hb
  have ha := as_fault (.agg #[.int .i64 e, .int .i64 q]) w
  go_upto_region 2 with (fail)
  have hn1 : Hid (Blk (w.alloc (.cells #[.int .i64 e, .int .i64 q] 67)) w.heap.size #[.int .i64 e, .int .i64 q] 67) := Blk.new w _ _
  generalize hW1 : w.alloc (.cells #[.int .i64 e, .int .i64 q] 67) = w1 at *
  have HW1 := Lib.hid hW1
  clear hW1
  generalize w.heap.size = n at *
  have hbn := ne_fault (.agg #[.int .i64 e, .int .i64 q]) w1
  have hbg := neg_fault (.agg #[.int .i64 e, .int .i64 q]) w1
  clear ha
  go_upto_region 4 with (fail)
  have d0 := hn1.out.cell 0
  have d1 := hn1.out.cell 1
  simp at d0 d1
  clear hbn
  go_wp2
  rw [HW1.out]
  simp [bodyPostS, results, Tryd.results26]
set_option maxHeartbeats 2000000 in
set_option maxRecDepth 100000 in
theorem rec_quiet (fb : Nat) (z0 z1 : Value) (w : World) (hb : Blk w fb #[z0, z1] 67) :
    CallsD Tryd.prog 26 #[.pointer (some ⟨fb, 0, none⟩)] .returning w fun en u' w' =>
      en = .returned (.tuple #[]) ∧ u' = .returning ∧ w' = ((w.alloc (.cells #[.int .i64 0, .int .i64 0] 67)).setCell ⟨fb, 0, none⟩ (.int .i64 0)).setCell ⟨fb, 1, none⟩ (.int .i64 0) := by
  refine callsD_of_wpS Tryd.func26 rfl fun c₀ cs hu => ?_
  apply wpS_seq
  apply wpS_region
  simp [wpOpsS, go_sem, recoverD, hu, Tryd.ntmps26, Exit.thenS]
  refine wpS_of_wp ?_
  generalize hT : (#[Value.pointer (some ⟨fb, 0, none⟩)] ++ _ : Array Value) = T
  obtain rfl : T = #[Value.pointer (some ⟨fb, 0, none⟩), .nilIface, undef, undef, .nilIface, undef, undef, undef, undef, undef, undef, undef, undef, undef, undef, undef, undef, undef] := by rw [← hT]; rfl
  clear hT
  have hb2 := Lib.hid (hb.alloc (.cells #[.int .i64 0, .int .i64 0] 67))
  have c0 := hb2.out.cell 0
  have c1 := hb2.out.cell 1
  simp at c0 c1
  have fz := hb2.out.frozen
  have hne : w.heap.size ≠ fb := Nat.ne_of_gt hb.lt
  clear hb
  have ha := as_nil w
  go_upto_region 2 with (fail)
  have hn1 : Hid (Blk (w.alloc (.cells #[.int .i64 0, .int .i64 0] 67)) w.heap.size #[.int .i64 0, .int .i64 0] 67) := Blk.new w _ _
  generalize hW1 : w.alloc (.cells #[.int .i64 0, .int .i64 0] 67) = w1 at *
  have HW1 := Lib.hid hW1
  clear hW1
  generalize w.heap.size = n at *
  have hbn := ne_nil w1
  have hbg := neg_nil w1
  clear ha
  go_upto_region 4 with (fail)
  have d0 := hn1.out.cell 0
  have d1 := hn1.out.cell 1
  simp at d0 d1
  clear hbn
  go_wp2
  rw [HW1.out]
  cases c₀
  simp at hu
  subst hu
  simp [bodyPostS, results, Tryd.results26]
end Go.Proofs.YtcgjmnhmhiddkaaDoor
/- The parser's run: walked. -/
namespace Go.Proofs.YtcgjmnhmhiddkaaDoor
open Go Go.RowKit
set_option linter.unusedVariables false
set_option linter.unusedSimpArgs false

/-- How run ends. -/
def PrunPost (B pb : Nat) (A : Option Addr) (cp : Nat) (l : List Tk) (w : World) (r : PR) (e : Ending) (w' : World) : Prop := match r with
  | .ok k t => e = .returned (ftV 0 0) ∧ Pst w' B pb A cp l t ∧ Below B w w'
  | .bad er p => e = .returned (ftV er p) ∧ Below B w w'
  | .out => False
theorem Pst.cell5 {w : World} {B pb : Nat} {A : Option Addr} {cp : Nat} {l : List Tk} {s : PS} (h : Pst w B pb A cp l s) : w.cell? ⟨pb, 5, none⟩ = some (.int .i64 (s.count : Int)) := by
  obtain ⟨ov, nv, av, h⟩ := h
  have := h.blk.cell 5
  simpa using this
theorem Pst.boxF {w : World} {B pb : Nat} {A : Option Addr} {cp : Nat} {l : List Tk} {s : PS} (h : Pst w B pb A cp l s) {g : Nat} {vs : Array Value} (hg : Blk w g vs 67) (hB : B ≤ g) (o : Nat) (u : Value) : Pst (w.setCell ⟨g, o, none⟩ u) B pb A cp l s := by
  obtain ⟨ov, nv, av, h⟩ := h
  exact ⟨ov, nv, av, h.box hg (by decide) (by decide) (by decide) hB o u⟩
theorem want_call {w : World} {B pb : Nat} {A : Option Addr} {cp : Nat} {l : List Tk} {s : PS} (hP : Pst w B pb A cp l s) (k : Int) (hr : s.read < 16777216) :
    Calls Tryd.prog 28 #[.pointer (some ⟨pb, 0, none⟩), .int .i64 k] w (fun e' w' => if (tkAt l s.read).kind = k then e' = .returned (.agg (tkC (tkAt l s.read))) ∧ Pst w' B pb A cp l s.next ∧ Fr B w w' else ∃ er p, faultP l s = .bad er p ∧ e' = ftE er p ∧ Fr B w w') := by
  have hb := hP.heap
  obtain ⟨o1, o2, o3, h0⟩ := hP
  by_cases hk : (tkAt l s.read).kind = k
  · simp only [if_pos hk]
    exact (want_ok h0 hk hr).mono fun e' w' ⟨h1, h2, h3⟩ => ⟨h1, ⟨_, _, _, h2⟩, h3⟩
  · simp only [if_neg hk]
    obtain ⟨er, p, hf⟩ := fault_some l s
    exact (want_bad h0 hk hf).mono fun e' w' ⟨h1, h2⟩ => ⟨er, p, hf, h1, Fr.of h2 hb⟩
set_option maxHeartbeats 4000000 in
set_option maxRecDepth 100000 in
theorem prun_any {l : List Tk} (hl : TkTxt' l) (he : TEnds l) {w : World} {B pb : Nat} {A : Option Addr} {cp : Nat} (hP : Pst w B pb A cp l {}) :
    Calls Tryd.prog 17 #[.pointer (some ⟨pb, 0, none⟩)] w (PrunPost B pb A cp l w (parseP l)) := by
  have hmf : ∀ (fn : Fn) (first cap : Array Value) (w : World), (Instr.makeFunc fn first cap).run Tryd.prog w = .ok (.func fn first cap) w := fun _ _ _ _ => rfl
  have hbs := hP.heap
  obtain ⟨r1, h1⟩ : ∃ r1, run l (10 * l.length + 10) .or {} = r1 := ⟨_, rfl⟩
  have h1o : r1 ≠ .out := by rw [← h1]; exact run_fuel _ _ _ (by simp only [fuelP, rankM]; omega)
  have hiv : Inv {} := ⟨by simp, ⟨rfl, by simp⟩, by simp⟩
  have HC : Hid (∀ w, Pst w B pb A cp l {} → Calls Tryd.prog 27 #[.pointer (some ⟨pb, 0, none⟩)] w (RunPost B pb A cp l w r1)) := fun w h => by
    have q := run_call hl _ _ (Nat.le_refl (10 * l.length + 10)) .or _ {} rfl hiv (by rw [h1]; exact h1o) w B pb A cp h
    rw [h1] at q; exact q
  have HP : Hid (Pst (w.alloc (.cells #[.int .i64 0, .int .i64 0] 67)) B pb A cp l {}) := hP.later ((Below.refl _ _).alloc (Nat.le_refl _) _)
  have HB : Hid (Below B w (w.alloc (.cells #[.int .i64 0, .int .i64 0] 67))) := (Below.refl _ _).alloc hbs _
  have HF : Hid (Blk (w.alloc (.cells #[.int .i64 0, .int .i64 0] 67)) w.heap.size #[.int .i64 0, .int .i64 0] 67) := Blk.new w _ _
  obtain ⟨r, hr⟩ : ∃ r, parseP l = r := ⟨_, rfl⟩
  rw [hr]
  have HR := Lib.hid hr
  have H1 := Lib.hid h1
  clear hr h1 hP hiv
  go_enter_defers Tryd.func17, Tryd.ntmps17
  go_upto_region 2 with (fail)
  generalize w.alloc (.cells #[.int .i64 0, .int .i64 0] 67) = w1 at *
  generalize w.heap.size = fb at *
  go_wp2_with fail
  refine (HC.out w1 HP.out).mono ?_; intro e2 w2 hq
  cases r1 with
  | out => exact absurd hq id
  | bad e p =>
    obtain ⟨rfl, hf2⟩ := hq
    have hrr : r = .bad e p := by
      have q := HR.out
      unfold parseP at q
      rw [H1.out] at q; exact q.symm
    subst hrr
    have HFX := Lib.hid (hf2.typ _ _ HF.out)
    have HBB := Lib.hid (HB.out.trans hf2.bel)
    have HSZ : Hid (B ≤ w2.heap.size) := Nat.le_trans hbs (Nat.le_of_lt HFX.out.lt)
    clear hf2 HC HP HB HF h1o HR H1
    unfold ftE
    simp only []
    refine leaves_cons (f := 26) (args := #[.pointer (some ⟨fb, 0, none⟩)]) (by simp) (by simp [go_sem]) ?_
    have hwx := ((HFX.out.alloc (.cells #[.int .i64 e, .int .i64 p] 67)).setCell 0 (.int .i64 e)).setCell 1 (.int .i64 p)
    simp at hwx
    have HBX := Lib.hid (((HBB.out.alloc HSZ.out (.cells #[.int .i64 e, .int .i64 p] 67)).setCell (p := ⟨fb, 0, none⟩) hbs (.int .i64 e)).setCell (p := ⟨fb, 1, none⟩) hbs (.int .i64 p))
    refine (rec_panic fb _ _ e p [] w2 HFX.out).mono ?_
    rintro e' u' w'' ⟨rfl, rfl, hww⟩
    rw [← hww] at hwx HBX
    have x0 := hwx.cell 0
    have x1 := hwx.cell 1
    simp at x0 x1
    simp [Leaves, settle, results, Tryd.results17, go_sem, x0, x1]
    exact ⟨rfl, HBX.out⟩
  | ok k t =>
    obtain ⟨rfl, hP2, hf2⟩ := hq
    have hread : t.read < 16777216 := Nat.lt_of_lt_of_le (run_range he _ _ _ _ _ H1.out (by have := he.1; omega)) hP2.long
    have HW := Lib.hid (want_call hP2 10 hread)
    have HFX := Lib.hid (hf2.typ _ _ HF.out)
    have HBB := Lib.hid (HB.out.trans hf2.bel)
    have hrr : (if (tkAt l t.read).kind = 10 then (if 4096 < t.count then .bad 9 (tkAt l t.read).at_ else .ok k t.next) else faultP l t) = r := by
      have q := HR.out
      unfold parseP at q
      rw [H1.out] at q; exact q
    have HRR := Lib.hid hrr
    obtain ⟨x, hx⟩ : ∃ x, tkAt l t.read = x := ⟨_, rfl⟩
    rw [hx] at HW HRR
    clear hP2 hf2 hrr HC HP HB HF h1o HR H1 hx
    go_wp2_with fail
    refine HW.out.mono ?_; intro e3 w3 hq
    clear HW
    by_cases h10 : x.kind = 10
    · have hrr := HRR.out
      rw [if_pos h10] at hq hrr
      obtain ⟨rfl, hP3, hf3⟩ := hq
      have HR2 := Lib.hid hrr
      have HFY0 := hf3.typ _ _ HFX.out
      have HBY0 := HBB.out.trans hf3.bel
      have hbw := hP3.heap
      have HFY : Hid (Blk (w3.alloc (.cells (tkC x) 61)) fb #[.int .i64 0, .int .i64 0] 67) := HFY0.alloc _
      have HBY : Hid (Below B w (w3.alloc (.cells (tkC x) 61))) := HBY0.alloc hbw _
      have HP4 : Hid (Pst (w3.alloc (.cells (tkC x) 61)) B pb A cp l t.next) := hP3.later ((Below.refl _ _).alloc (Nat.le_refl _) _)
      have HX4 := Lib.hid (Blk.new w3 (tkC x) 61)
      clear hP3 hf3 HFX HBB HRR h10 HFY0 HBY0 hrr
      unfold tkC at *
      go_upto_region 4 with (fail)
      generalize w3.alloc (.cells #[.int .i64 x.kind, .int .i64 x.at_, .int .u64 (wd x.cls 0), .int .u64 (wd x.cls 1), .int .u64 (wd x.cls 2), .int .u64 (wd x.cls 3), .string (bs x.text), .int .i64 x.lo, .int .i64 x.hi] 61) = w4 at *
      generalize w3.heap.size = tb at *
      have HSZ : Hid (B ≤ w4.heap.size) := HP4.out.heap
      have c5 := HP4.out.cell5
      have hcr : (t.next.count : Int) = (t.count : Int) := rfl
      rw [hcr] at c5
      clear hcr
      by_cases hc : 4096 < t.count
      · have hcz : (4096 : Int) < (t.count : Int) := by omega
        have hrr := HR2.out
        rw [if_pos hc] at hrr
        subst hrr
        obtain ⟨t0, t1, t2, t3, t4, t5, t6, t7, t8⟩ := nine_cells HX4.out
        clear hc HR2 HP4
        go_wp2
        refine leaves_cons (f := 26) (args := #[.pointer (some ⟨fb, 0, none⟩)]) (by simp) (by simp [go_sem]) ?_
        have hwx := ((HFY.out.alloc (.cells #[.int .i64 9, .int .i64 x.at_] 67)).setCell 0 (.int .i64 9)).setCell 1 (.int .i64 x.at_)
        simp at hwx
        have HBX := Lib.hid (((HBY.out.alloc HSZ.out (.cells #[.int .i64 9, .int .i64 x.at_] 67)).setCell (p := ⟨fb, 0, none⟩) hbs (.int .i64 9)).setCell (p := ⟨fb, 1, none⟩) hbs (.int .i64 x.at_))
        refine (rec_panic fb _ _ 9 x.at_ [] w4 HFY.out).mono ?_
        rintro e' u' w'' ⟨rfl, rfl, hww⟩
        rw [← hww] at hwx HBX
        have x0 := hwx.cell 0
        have x1 := hwx.cell 1
        simp at x0 x1
        simp [Leaves, settle, results, Tryd.results17, go_sem, x0, x1]
        exact ⟨rfl, HBX.out⟩
      · have hcz : ¬ (4096 : Int) < (t.count : Int) := by omega
        have hrr := HR2.out
        rw [if_neg hc] at hrr
        subst hrr
        clear hc HR2 HX4
        have f0 := HFY.out.cell 0
        have f1 := HFY.out.cell 1
        have ff := HFY.out.frozen
        simp at f0 f1
        have h5 := (HFY.out.setCell 0 (.int .i64 0)).setCell 1 (.int .i64 0)
        simp at h5
        have HFZ := Lib.hid h5
        have HBZ := Lib.hid ((HBY.out.setCell (p := ⟨fb, 0, none⟩) hbs (.int .i64 0)).setCell (p := ⟨fb, 1, none⟩) hbs (.int .i64 0))
        have HPZ := Lib.hid ((HP4.out.boxF HFY.out hbs 0 (.int .i64 0)).boxF (HFY.out.setCell 0 (.int .i64 0)) hbs 1 (.int .i64 0))
        clear h5 HFY HBY HP4
        go_wp2
        generalize (w4.setCell ⟨fb, 0, none⟩ (.int .i64 0)).setCell ⟨fb, 1, none⟩ (.int .i64 0) = w5 at *
        have HSZ : Hid (B ≤ w5.heap.size) := HPZ.out.heap
        have HPX := Lib.hid (HPZ.out.later ((Below.refl _ _).alloc (Nat.le_refl _) (.cells #[.int .i64 0, .int .i64 0] 67)))
        refine leaves_cons (f := 26) (args := #[.pointer (some ⟨fb, 0, none⟩)]) (by simp) (by simp [go_sem]) ?_
        have hwx := ((HFZ.out.alloc (.cells #[.int .i64 0, .int .i64 0] 67)).setCell 0 (.int .i64 0)).setCell 1 (.int .i64 0)
        simp at hwx
        have HBX := Lib.hid (((HBZ.out.alloc HSZ.out (.cells #[.int .i64 0, .int .i64 0] 67)).setCell (p := ⟨fb, 0, none⟩) hbs (.int .i64 0)).setCell (p := ⟨fb, 1, none⟩) hbs (.int .i64 0))
        refine (rec_quiet fb _ _ w5 HFZ.out).mono ?_
        rintro e' u' w'' ⟨rfl, rfl, hww⟩
        rw [← hww] at hwx HBX
        have x0 := hwx.cell 0
        have x1 := hwx.cell 1
        simp at x0 x1
        have hf9 := HFZ.out.alloc (.cells #[.int .i64 0, .int .i64 0] 67)
        have HPY := Lib.hid ((HPX.out.boxF hf9 hbs 0 (.int .i64 0)).boxF (hf9.setCell 0 (.int .i64 0)) hbs 1 (.int .i64 0))
        rw [← hww] at HPY
        simp [Leaves, settle, results, Tryd.results17, go_sem, x0, x1]
        exact ⟨rfl, HPY.out, HBX.out⟩
    · have hrr := HRR.out
      rw [if_neg h10] at hq hrr
      obtain ⟨e, p, hfp, rfl, hf3⟩ := hq
      rw [hfp] at hrr
      subst hrr
      have HFY := Lib.hid (hf3.typ _ _ HFX.out)
      have HBY := Lib.hid (HBB.out.trans hf3.bel)
      have HSZ : Hid (B ≤ w3.heap.size) := Nat.le_trans hbs (Nat.le_of_lt HFY.out.lt)
      clear hf3 HFX HBB HRR hfp h10
      unfold ftE
      simp only []
      refine leaves_cons (f := 26) (args := #[.pointer (some ⟨fb, 0, none⟩)]) (by simp) (by simp [go_sem]) ?_
      have hwx := ((HFY.out.alloc (.cells #[.int .i64 e, .int .i64 p] 67)).setCell 0 (.int .i64 e)).setCell 1 (.int .i64 p)
      simp at hwx
      have HBX := Lib.hid (((HBY.out.alloc HSZ.out (.cells #[.int .i64 e, .int .i64 p] 67)).setCell (p := ⟨fb, 0, none⟩) hbs (.int .i64 e)).setCell (p := ⟨fb, 1, none⟩) hbs (.int .i64 p))
      refine (rec_panic fb _ _ e p [] w3 HFY.out).mono ?_
      rintro e' u' w'' ⟨rfl, rfl, hww⟩
      rw [← hww] at hwx HBX
      have x0 := hwx.cell 0
      have x1 := hwx.cell 1
      simp at x0 x1
      simp [Leaves, settle, results, Tryd.results17, go_sem, x0, x1]
      exact ⟨rfl, HBX.out⟩
end Go.Proofs.YtcgjmnhmhiddkaaDoor
/- Parse: walked. -/
namespace Go.Proofs.YtcgjmnhmhiddkaaDoor
open Go Go.RowKit
set_option linter.unusedVariables false
set_option linter.unusedSimpArgs false

/-- How Parse ends. -/
def PParse (w : World) (r : PR) (e : Ending) (w' : World) : Prop := match r with
  | .ok k t => ∃ nv av, e = .returned (.tuple #[.agg #[nv], av, .int .i64 0, .int .i64 0]) ∧ OwnN w' w.heap.size nv t.nodes ∧ OwnI w' w.heap.size av t.ats ∧ Below w.heap.size w w'
  | .bad er p => e = .returned (.tuple #[.agg #[.slice none 0 0], .slice none 0 0, .int .i64 er, .int .i64 p]) ∧ Below w.heap.size w w'
  | .out => False
theorem own_base {w : World} {base base' size n : Nat} {e : TypeId} {v : Value} {xs : List Value} (h : w.ownsRow base e size v n xs) (hb : base' ≤ base) : w.ownsRow base' e size v n xs := by
  obtain ⟨h0, ⟨hv, hn⟩ | ⟨g, cap, cur, hv, hg, hr⟩⟩ := h
  · exact ⟨h0, .inl ⟨hv, hn⟩⟩
  · exact ⟨h0, .inr ⟨g, cap, cur, hv, Nat.le_trans hb hg, hr⟩⟩
set_option maxHeartbeats 4000000 in
set_option maxRecDepth 100000 in
theorem parse_any {l : List Tk} (hl : TkTxt' l) (he : TEnds l) (hlen : l.length < 16777216) (A : Option Addr) (c : Nat) (w : World) (hrow : TkRow w A l) :
    Calls Tryd.prog 13 #[.slice A l.length c] w (PParse w (parseP l)) := by
  have hlow : ∀ b o, A = some ⟨b, o, none⟩ → b < w.heap.size + 1 := fun b o hA => by
    obtain ⟨b', o', h1, h2, _⟩ := hrow 0 he.pos
    rw [hA] at h1; cases h1; omega
  have HB1 := (Below.refl w.heap.size w).alloc (Nat.le_refl _) (.cells #[.slice none 0 0] 25)
  have HB2 := HB1.alloc (by simp) (.cells #[.slice A l.length c, .int .i64 0, .slice none 0 0, .slice none 0 0, .slice none 0 0, .int .i64 0] 65)
  have HD : Hid (Blk ((w.alloc (.cells #[.slice none 0 0] 25)).alloc (.cells #[.slice A l.length c, .int .i64 0, .slice none 0 0, .slice none 0 0, .slice none 0 0, .int .i64 0] 65)) w.heap.size #[.slice none 0 0] 25) := (Blk.new w _ _).alloc _
  have HP : Hid (Pst ((w.alloc (.cells #[.slice none 0 0] 25)).alloc (.cells #[.slice A l.length c, .int .i64 0, .slice none 0 0, .slice none 0 0, .slice none 0 0, .int .i64 0] 65)) (w.heap.size + 1) (w.heap.size + 1) A c l {}) :=
    ⟨.slice none 0 0, .slice none 0 0, .slice none 0 0, Blk.new' (by simp) _ _, ⟨rfl, .inl ⟨rfl, rfl⟩⟩, ⟨rfl, .inl ⟨rfl, rfl⟩⟩, ⟨rfl, .inl ⟨rfl, rfl⟩⟩, fun g hg => (by cases hg), hrow.later HB2, hlow, Nat.le_refl _, by omega, by simp, by simp, by simp⟩
  have HB := Lib.hid HB2
  obtain ⟨r, hr⟩ : ∃ r, parseP l = r := ⟨_, rfl⟩
  have HR : Hid (∀ w B pb, Pst w B pb A c l {} → Calls Tryd.prog 17 #[.pointer (some ⟨pb, 0, none⟩)] w (PrunPost B pb A c l w r)) := fun w B pb h => by
    have q := prun_any hl he h
    rw [hr] at q; exact q
  rw [hr]
  have HN : Hid (∀ er p, r = .bad er p → er ≠ 0) := fun er p h => by rw [h] at hr; have := parse_err hr; omega
  clear hr hrow hlow HB1 HB2
  go_enter Tryd.func13, Tryd.ntmps13
  go_upto_region 2 with (fail)
  generalize (w.alloc (.cells #[.slice none 0 0] 25)).alloc (.cells #[.slice A l.length c, .int .i64 0, .slice none 0 0, .slice none 0 0, .slice none 0 0, .int .i64 0] 65) = w1 at *
  generalize hdb : w.heap.size = db at *
  have HDB := Lib.hid hdb
  clear hdb
  go_wp2_with fail
  refine (HR.out w1 _ _ HP.out).mono ?_; intro e2 w2 hq
  cases r with
  | out => exact absurd hq id
  | bad e p =>
    obtain ⟨rfl, hb2⟩ := hq
    have hne : (e != 0) = true := by rw [bne_iff_ne]; exact HN.out e p rfl
    have HB2 := Lib.hid (HB.out.trans (hb2.mono (Nat.le_succ _)))
    have HD2 : Hid (Blk w2 db #[.slice none 0 0] 25) := (hb2.block db (Nat.lt_succ_self _)).trans HD.out
    clear hb2 HN HR HP HD HB
    unfold ftV
    go_upto_region 3 with (fail)
    have HF3 := Lib.hid (Blk.new w2 #[.int .i64 e, .int .i64 p] 67)
    have HD3 : Hid (Blk (w2.alloc (.cells #[.int .i64 e, .int .i64 p] 67)) db #[.slice none 0 0] 25) := HD2.out.alloc _
    have HB3 : Hid (Below db w (w2.alloc (.cells #[.int .i64 e, .int .i64 p] 67))) := HB2.out.alloc (Nat.le_of_lt HD2.out.lt) _
    generalize w2.alloc (.cells #[.int .i64 e, .int .i64 p] 67) = w3 at *
    generalize w2.heap.size = fb at *
    clear HD2 HB2
    have c0 := HF3.out.cell 0
    have c1 := HF3.out.cell 1
    have d0 := HD3.out.cell 0
    have df := HD3.out.frozen
    simp at c0 c1 d0
    have n1 : fb ≠ db := Blk.typed2 HF3.out HD3.out (by decide)
    have n2 : db ≠ fb := Ne.symm n1
    go_upto_region 4 with (fail)
    go_region
    go_wp2
    have x0 := (HD3.out.setCell 0 (.slice none 0 0)).cell 0
    simp at x0
    exact bodyPost_ret (v := .tuple #[.agg #[.slice none 0 0], .slice none 0 0, .int .i64 e, .int .i64 p]) (by simp [results, Tryd.results13, go_sem, d0]) rfl (by
      unfold PParse
      rw [HDB.out]
      exact ⟨rfl, (HB3.out.setCell (p := ⟨db, 0, none⟩) (Nat.le_refl _) (.slice none 0 0)).drew⟩)
  | ok k t =>
    obtain ⟨rfl, hP2, hb2⟩ := hq
    have hne : ((0 : Int) != 0) = false := rfl
    have HB2 := Lib.hid (HB.out.trans (hb2.mono (Nat.le_succ _)))
    have HD2 : Hid (Blk w2 db #[.slice none 0 0] 25) := (hb2.block db (Nat.lt_succ_self _)).trans HD.out
    obtain ⟨ov, nv, av, h0⟩ := hP2
    obtain ⟨an, kn, rfl, -⟩ := h0.nodes.row
    obtain ⟨aa, ka, rfl, -⟩ := h0.ats.row
    have H0 := Lib.hid h0
    clear hb2 HN HR HP HD HB h0
    unfold ftV
    go_upto_region 3 with (fail)
    have HF3 := Lib.hid (Blk.new w2 #[.int .i64 0, .int .i64 0] 67)
    have HD3 : Hid (Blk (w2.alloc (.cells #[.int .i64 0, .int .i64 0] 67)) db #[.slice none 0 0] 25) := HD2.out.alloc _
    have HB3 : Hid (Below db w (w2.alloc (.cells #[.int .i64 0, .int .i64 0] 67))) := HB2.out.alloc (Nat.le_of_lt HD2.out.lt) _
    have H3 := Lib.hid (H0.out.later ((Below.refl _ _).alloc (Nat.le_refl _) (.cells #[.int .i64 0, .int .i64 0] 67)))
    generalize w2.alloc (.cells #[.int .i64 0, .int .i64 0] 67) = w3 at *
    generalize w2.heap.size = fb at *
    clear HD2 HB2 H0
    have c0 := HF3.out.cell 0
    have c1 := HF3.out.cell 1
    have d0 := HD3.out.cell 0
    have df := HD3.out.frozen
    have p3 := H3.out.blk.cell 3
    have p4 := H3.out.blk.cell 4
    simp at c0 c1 d0 p3 p4
    have n1 : fb ≠ db := Blk.typed2 HF3.out HD3.out (by decide)
    have n2 : db ≠ fb := Ne.symm n1
    have n3 : db + 1 ≠ db := by omega
    have n4 : db ≠ db + 1 := by omega
    have HN5 : Hid (OwnN (w3.setCell ⟨db, 0, none⟩ (.slice an t.nodes.length kn)) db (.slice an t.nodes.length kn) t.nodes) := own_base (own_set H3.out.nodes (own_typed H3.out.nodes HD3.out (by decide)) _) (Nat.le_succ _)
    have HA5 : Hid (OwnI (w3.setCell ⟨db, 0, none⟩ (.slice an t.nodes.length kn)) db (.slice aa t.ats.length ka) t.ats) := own_base (own_set H3.out.ats (own_typed H3.out.ats HD3.out (by decide)) _) (Nat.le_succ _)
    go_upto_region 5 with (fail)
    go_region
    go_wp2
    exact bodyPost_ret (v := .tuple #[.agg #[.slice an t.nodes.length kn], .slice aa t.ats.length ka, .int .i64 0, .int .i64 0]) (by simp [results, Tryd.results13, go_sem, d0]) rfl (by
      unfold PParse
      rw [HDB.out]
      exact ⟨_, _, rfl, HN5.out, HA5.out, (HB3.out.setCell (p := ⟨db, 0, none⟩) (Nat.le_refl _) _).drew⟩)
end Go.Proofs.YtcgjmnhmhiddkaaDoor
/- Sizes: sums, times, parts, bounds: walked. -/
namespace Go.Proofs.YtcgjmnhmhiddkaaDoor
open Go Go.RowKit
set_option linter.unusedVariables false
set_option linter.unusedSimpArgs false

/-- Numbers as the rows have them. -/
def natI (l : List Nat) : List Int := l.map (fun n : Nat => (n : Int))
theorem natI_length (l : List Nat) : (natI l).length = l.length := List.length_map _
theorem natI_get {l : List Nat} {i : Nat} (h : i < l.length) : (natI l).getD i 0 = ((l.getD i 0 : Nat) : Int) := by
  unfold natI
  rw [List.getD_eq_getElem?_getD, List.getD_eq_getElem?_getD, List.getElem?_map, List.getElem?_eq_getElem h]; rfl
end Go.Proofs.YtcgjmnhmhiddkaaDoor
