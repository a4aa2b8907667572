/- The statement NextFrames of package scantlinglaw15: for every input the call answers true, and each argument reads as it did; no condition. -/
import Derived.Test.YtidoofdofdhjpaaM11
import Derived.Test.YtidoofdofdhjpaaM43
namespace Go.Proofs.Ytidoofdofdhjpaa.nextFrames
open Go Go.RowKit Go.ChangeShapes Go.WideShapes Go.ChangeAt
set_option linter.unusedVariables false
set_option maxRecDepth 100000 in
theorem contract (H : Type) (enc : TypeId × Value -> H) (W : World) (base : Nat) (args : Array Value) (ds gs : List (DataW H)) (before : List MemPlace)
    (hval : ∀ (j : Nat) t v, Try.f5.params[j]? = some t -> args[j]? = some v -> Value.okWide Try.prog W .any base t v)
    (hW : DataW.Whole enc Try.prog Try.f5.params.toList Rows.nextFramesSpec.vars false W args.toList ds gs before) (hL : laidMetH Try.prog Rows.nextFramesRow.laid W) (hWt : (DataW.weightsEach Try.prog (Try.f5.params.toList ++ (OpenSpec.ofChange Rows.nextFramesSpec).bare.plain.varTypes Try.prog) (ds ++ gs)).all (· <= reachBytes) = true) :
    Calls Try.prog 5 args W fun e W' => ∃ v, e = .returned v /\ Rows.nextFramesSpec.post enc Try.prog Try.f5 false true false false W args v W' := by
  have hW' := hW
  obtain ⟨p, q, hA0, hV, rfl, hfz, hnd⟩ := hW
  have hA : DataW.TrodAll enc Try.prog W 0 (fun _ => true) true Try.f5.params.toList args.toList ds p := hA0
  rw [Try.params5] at hA hval hWt
  obtain ⟨v0, vs0, d0, ds0, p0, q0, hargs, rfl, rfl, h0, r0⟩ := trodAll_cons hA
  obtain ⟨v1, vs1, d1, ds1, p1, q1, rfl, rfl, rfl, h1, r1⟩ := trodAll_cons r0
  obtain ⟨v2, vs2, d2, ds2, p2, q2, rfl, rfl, rfl, h2, r2⟩ := trodAll_cons r1
  obtain ⟨rfl, rfl, rfl⟩ := trodAll_nil r2
  obtain rfl : args = #[v0, v1, v2] := by cases args; simp_all
  obtain ⟨rfl, rfl⟩ := trodVars_none hV
  have k0 := h0
  have k1 := h1
  have k2 := h2
  have w0 : ∀ x ∈ d0.weights Try.prog 24, x <= reachBytes := fun x hx => by have := List.all_eq_true.1 hWt x (by simp [DataW.weightsEach, hx]); simpa using this
  have t0 := places_lt h0
  have t1 := places_lt h1
  have t2 := places_lt h2
  obtain ⟨a0, A0, C0, rfl, row0, cap0, sm0, tx0⟩ := open_desc (hval 0 _ v0 rfl rfl) h0 w0
  obtain ⟨a1, A1, C1, rfl, row1, sm1⟩ := open_wd (hval 1 _ v1 rfl rfl) h1
  obtain ⟨a2, l2, rfl⟩ := open_u8 (hval 2 _ v2 rfl rfl) h2
  clear hA0
  refine (nextframes_row a0 A0 C0 a1 A1 C1 a2 l2 cap0 sm0 tx0 sm1 W row0 row1).mono fun e W' ⟨he, bel⟩ => ?_
  subst he
  exact ⟨_, rfl, _, _, _, [], _, [], hW', trodAll_mk1 (shut_bool Try.underlying4 _), (trodAll_cons_mk (Below.trod laidOut (by kernel_rfl) (of_decide_eq_true (by kernel_rfl)) k0 bel t0) (trodAll_cons_mk (Below.trod laidOut (by kernel_rfl) (of_decide_eq_true (by kernel_rfl)) k1 bel t1) (trodAll_cons_mk (Below.trod laidOut (by kernel_rfl) (of_decide_eq_true (by kernel_rfl)) k2 bel t2) trodAll_mk0))), rfl, bel.frame _, fun h => by cases h⟩
theorem laid_met (os : Os) : laidMet Try.prog Rows.nextFramesRow.laid ((laidWorld0 os).forCall (fun _ _ => 0) ⟨#[], #[(.agg #[.slice none 0 0] : Value), .slice none 0 0, .int .u8 0], []⟩).memory :=
  ⟨[], by first | rfl | trivial | exact ⟨rfl, rfl⟩ | simp [DataW.LaidVars], List.nodup_nil, fun _ _ h => (by cases h)⟩
theorem reads (os : Os) {H : Type} (enc : TypeId × Value -> H) : ∃ places, DataW.whole enc Try.prog ((laidWorld0 os).forCall (fun _ _ => 0) ⟨#[], #[(.agg #[.slice none 0 0] : Value), .slice none 0 0, .int .u8 0], []⟩).memory Try.f5.params.toList Rows.nextFramesSpec.vars false (#[(.agg #[.slice none 0 0] : Value), .slice none 0 0, .int .u8 0] : Array Value).toList 8 = some ([.agg [.nil], .nil, .lit (.int .u8 0)], [], places) :=
  ⟨[], by kernel_rfl⟩
set_option maxRecDepth 100000 in
theorem lifted (os : Os) (started : os.Started) (H : Type) (enc : TypeId × Value -> H) (F : Stop.Interp) :
    ReturnsInHanded {} Try.checked os 5 .any ((OpenSpec.ofChange Rows.nextFramesSpec).preRow enc Try.prog Try.f5 Rows.nextFramesRow.domain false Rows.nextFramesRow.laid) (((OpenSpec.ofChange Rows.nextFramesSpec).at F).post enc Try.prog Try.f5 false true false false) := by
  obtain ⟨places, hx⟩ := reads os enc
  refine returnsInHanded_of_row (C := Try.checked) (s := OpenSpec.ofChange Rows.nextFramesSpec) own started (by kernel_rfl) Try.func5
    (witness_row_at (enc := enc) (C := Try.checked) false (laidWorld0 os) #[(.agg #[.slice none 0 0] : Value), .slice none 0 0, .int .u8 0] rfl (by kernel_rfl) (by kernel_rfl) (by kernel_rfl)
      (OpenSpec.preRow_of_cond 8 hx (by kernel_rfl) (fun k hk => by cases hk) (by kernel_rfl) (laid_met os))) ?_
  intro W base args ds gs before hval hW _ _ hWt hL _ _
  exact contract H enc W base args ds gs before hval hW hL hWt
theorem said : Rows.NextFramesSaid :=
  OpenClaim.holds_of_cond 5 Try.f5 rfl rfl rfl rfl rfl rfl rfl ⟨rfl, rfl, rfl, rfl, rfl⟩ rfl rfl rfl rfl rfl (by kernel_rfl) Try.func5 (by kernel_rfl)
    (of_decide_eq_true (by kernel_rfl)) (by unfold Func.isWrapper; first | (rw [if_pos (by decide +kernel)]; kernel_rfl) | (rw [if_neg (by decide +kernel)]; exact ⟨rfl, rfl⟩))
    (fun os started H enc _ F => by rw [OpenClaim.pre_eq_preRow]; exact lifted os started H enc F)
end Go.Proofs.Ytidoofdofdhjpaa.nextFrames
