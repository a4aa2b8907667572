/- The statement ValidReads of layer 9, walked. -/
import Derived.Test.YtcgjmnhmhiddkaaGreatDoorM36
import Derived.Test.YtcgjmnhmhiddkaaGreatDoorM11
namespace Go.Proofs.YtcgjmnhmhiddkaaGreatDoor
open Go Go.RowKit
set_option linter.unusedVariables false
set_option linter.unusedSimpArgs false
set_option maxRecDepth 100000
def VaP (D : List Nd) (er p : Int) (w : World) (e : Ending) (w' : World) : Prop := ∃ an kn, e = .returned (.tuple #[.agg #[.slice an D.length kn], .int .i64 er, .int .i64 p]) ∧ NRow w' an D ∧ Below w.heap.size w w'
theorem vr_is (l : List UInt8) : vrOk (validL l) = (vrE (validL l) == 0) := by
  cases h : validL l with
  | ok D => rfl
  | bad e p =>
    have := vr_code h
    show false = (e == 0)
    rw [beq_false_of_ne this]
set_option maxHeartbeats 16000000 in
theorem validreads_walk (l : List UInt8) (w : World) (hU : U8T w) (hl : l.length ≤ 9223372036854775807) :
    Calls Tryz.prog 3 #[.string (bs l)] w (Ans w (.bool true)) := by
  have HS : Hid (UbS w w) := ⟨Below.refl _ _, hU⟩
  clear hU
  go_enter Tryz.func3, Tryz.ntmps3
  go_wp2_with fail
  refine (awake9_any _ HS.out.u).mono ?_; rintro e w1 ⟨rfl, hb⟩
  have HS1 := Lib.hid (HS.out.later hb)
  clear hb HS
  by_cases h6 : 600 < l.length
  · have hz : ((bs l).size : Int) > 600 := by rw [bs_size]; omega
    go_wp2_with fail
    refine (awake9_any _ HS1.out.u).mono ?_; rintro e w2 ⟨rfl, hb⟩
    have HS2 := Lib.hid (HS1.out.later hb)
    clear hb HS1
    go_wp2
    go_ret
    exact ⟨rfl, HS2.out.bel⟩
  · have hz : ¬ ((bs l).size : Int) > 600 := by rw [bs_size]; omega
    have RD : Hid (∀ w', UbS w w' → Calls Tryz.prog 8 #[.string (bs l)] w' (VaP (vrD (validL l)) (vrE (validL l)) (vrP (validL l)) w')) := fun w' h => (vread_any (l := l) (by omega) w' h.u).mono (fun e w'' hp => hp.one)
    have RF : Hid (∀ w', Calls Tryz.prog 9 #[.string (bs l)] w' (VaP (vrD (validL l)) (vrE (validL l)) (vrP (validL l)) w')) := fun w' => (rread9_any (l := l) (by omega) w').mono (fun e w'' hp => hp.one)
    have HIS : Hid (∀ w', UbS w w' → Calls Tryz.prog 11 #[.string (bs l)] w' (Ans w' (.bool (vrOk (validL l))))) := fun w' h => vis_any (l := l) (by omega) w' h.u rfl
    rw [vr_is] at HIS
    have h4 := vr_few l
    clear h6
    generalize vrE (validL l) = er at *
    generalize vrP (validL l) = p at *
    generalize vrD (validL l) = D at *
    unfold VaP at RD RF
    have HN : Hid (D.length ≤ 4096) := h4
    clear h4
    have CS : Hid (∀ w' b c ax kx ay ky, UdS w b ax D.length kx D w' → UdS w c ay D.length ky D w' → Calls Tryz.prog 10 #[.agg #[.slice ax D.length kx], .agg #[.slice ay D.length ky]] w' (Ans w' (.bool true))) := fun w' b c ax kx ay ky h k => by
      have q := refnsame_any D D ax ay kx ky w' h.row k.row (by have := HN.out; omega) (by have := HN.out; omega)
      rw [decide_eq_true rfl] at q; exact q
    generalize D.length = n at *
    generalize bs l = s at *
    go_wp2_with fail
    refine (RD.out _ HS1.out).mono ?_; rintro e w2 ⟨ax, kx, rfl, hrow, hb⟩
    have HX : Hid (UdS w w2.heap.size ax n kx D _) := UdS.new HS1.out hb hrow
    clear hb hrow HS1 RD
    go_upto_region 4 with (fail)
    generalize w2.alloc (.cells #[.slice ax n kx] 25) = w3 at *
    generalize w2.heap.size = bx at *
    go_wp2_with fail
    refine (RF.out _).mono ?_; rintro e w4 ⟨ay, ky, rfl, hrow, hb⟩
    have HY : Hid (UdS w w4.heap.size ay n ky D _) := UdS.new HX.out.s hb hrow
    have HX2 := Lib.hid (HX.out.later (hb.trans ((Below.refl _ _).alloc hb.size (.cells #[.slice ay n ky] 25))))
    clear hb hrow HX RF
    go_upto_region 5 with (fail)
    generalize w4.alloc (.cells #[.slice ay n ky] 25) = w5 at *
    generalize w4.heap.size = by_ at *
    have e0 := HX2.out.box.cell 0
    have e1 := HY.out.box.cell 0
    simp at e0 e1
    go_wp2_with fail
    refine (CS.out _ _ _ _ _ _ _ HX2.out HY.out).mono ?_; rintro e w6 ⟨rfl, hb⟩
    have HX3 := Lib.hid (HX2.out.later hb)
    clear hb HX2 HY e0 e1 CS
    by_cases h0 : er = 0
    · subst h0
      go_wp2_with fail
      refine (HIS.out _ HX3.out.s).mono ?_; rintro e w7 ⟨rfl, hb⟩
      have HSX := Lib.hid (HX3.out.later hb).s.bel
      clear hb HX3 HIS
      go_wp2
      go_ret
      exact ⟨by first | rfl | simp, HSX.out⟩
    · have h0b : (er == 0) = false := beq_false_of_ne h0
      rw [h0b] at HIS
      clear h0
      go_wp2_with fail
      refine (HIS.out _ HX3.out.s).mono ?_; rintro e w7 ⟨rfl, hb⟩
      have HSX := Lib.hid (HX3.out.later hb).s.bel
      clear hb HX3 HIS
      go_wp2
      go_ret
      exact ⟨by first | rfl | simp, HSX.out⟩
end Go.Proofs.YtcgjmnhmhiddkaaGreatDoor
