/- The statement NextReads of package scantlinglaw15: for every input the call answers true, and each argument reads as it did; no condition. -/
import Derived.Test.YtidoofdofdhjpaaM11
import Derived.Test.YtidoofdofdhjpaaM42
namespace Go.Proofs.Ytidoofdofdhjpaa.nextReads
open Go Go.RowKit Go.ChangeShapes Go.WideShapes Go.ChangeAt
set_option linter.unusedVariables false
set_option maxRecDepth 100000 in
theorem contract (H : Type) (enc : TypeId × Value -> H) (W : World) (base : Nat) (args : Array Value) (ds gs : List (DataW H)) (before : List MemPlace)
    (hval : ∀ (j : Nat) t v, Try.f6.params[j]? = some t -> args[j]? = some v -> Value.okWide Try.prog W .any base t v)
    (hW : DataW.Whole enc Try.prog Try.f6.params.toList Rows.nextReadsSpec.vars false W args.toList ds gs before) (hL : laidMetH Try.prog Rows.nextReadsRow.laid W) (hWt : (DataW.weightsEach Try.prog (Try.f6.params.toList ++ (OpenSpec.ofChange Rows.nextReadsSpec).bare.plain.varTypes Try.prog) (ds ++ gs)).all (· <= reachBytes) = true) :
    Calls Try.prog 6 args W fun e W' => ∃ v, e = .returned v /\ Rows.nextReadsSpec.post enc Try.prog Try.f6 false true false false W args v W' := by
  have hW' := hW
  obtain ⟨p, q, hA0, hV, rfl, hfz, hnd⟩ := hW
  have hA : DataW.TrodAll enc Try.prog W 0 (fun _ => true) true Try.f6.params.toList args.toList ds p := hA0
  rw [Try.params6] at hA hval hWt
  obtain ⟨v0, vs0, d0, ds0, p0, q0, hargs, rfl, rfl, h0, r0⟩ := trodAll_cons hA
  obtain ⟨v1, vs1, d1, ds1, p1, q1, rfl, rfl, rfl, h1, r1⟩ := trodAll_cons r0
  obtain ⟨rfl, rfl, rfl⟩ := trodAll_nil r1
  obtain rfl : args = #[v0, v1] := by cases args; simp_all
  obtain ⟨rfl, rfl⟩ := trodVars_none hV
  have k0 := h0
  have k1 := h1
  have w0 : ∀ x ∈ d0.weights Try.prog 24, x <= reachBytes := fun x hx => by have := List.all_eq_true.1 hWt x (by simp [DataW.weightsEach, hx]); simpa using this
  have t0 := places_lt h0
  have t1 := places_lt h1
  obtain ⟨a0, A0, C0, rfl, row0, cap0, sm0, tx0⟩ := open_desc (hval 0 _ v0 rfl rfl) h0 w0
  obtain ⟨a1, A1, C1, rfl, row1, sm1⟩ := open_wd (hval 1 _ v1 rfl rfl) h1
  clear hA0
  refine (nextreads_walk a0 A0 C0 a1 A1 C1 cap0 sm0 tx0 sm1 W row0 row1).mono fun e W' ⟨he, bel⟩ => ?_
  subst he
  exact ⟨_, rfl, _, _, _, [], _, [], hW', trodAll_mk1 (shut_bool Try.underlying4 _), (trodAll_cons_mk (Below.trod laidOut (by kernel_rfl) (of_decide_eq_true (by kernel_rfl)) k0 bel t0) (trodAll_cons_mk (Below.trod laidOut (by kernel_rfl) (of_decide_eq_true (by kernel_rfl)) k1 bel t1) trodAll_mk0)), rfl, bel.frame _, fun h => by cases h⟩
theorem laid_met (os : Os) : laidMet Try.prog Rows.nextReadsRow.laid ((laidWorld0 os).forCall (fun _ _ => 0) ⟨#[], #[(.agg #[.slice none 0 0] : Value), .slice none 0 0], []⟩).memory :=
  ⟨[], by first | rfl | trivial | exact ⟨rfl, rfl⟩ | simp [DataW.LaidVars], List.nodup_nil, fun _ _ h => (by cases h)⟩
theorem reads (os : Os) {H : Type} (enc : TypeId × Value -> H) : ∃ places, DataW.whole enc Try.prog ((laidWorld0 os).forCall (fun _ _ => 0) ⟨#[], #[(.agg #[.slice none 0 0] : Value), .slice none 0 0], []⟩).memory Try.f6.params.toList Rows.nextReadsSpec.vars false (#[(.agg #[.slice none 0 0] : Value), .slice none 0 0] : Array Value).toList 8 = some ([.agg [.nil], .nil], [], places) :=
  ⟨[], by kernel_rfl⟩
set_option maxRecDepth 100000 in
theorem lifted (os : Os) (started : os.Started) (H : Type) (enc : TypeId × Value -> H) (F : Stop.Interp) :
    ReturnsInHanded {} Try.checked os 6 .any ((OpenSpec.ofChange Rows.nextReadsSpec).preRow enc Try.prog Try.f6 Rows.nextReadsRow.domain false Rows.nextReadsRow.laid) (((OpenSpec.ofChange Rows.nextReadsSpec).at F).post enc Try.prog Try.f6 false true false false) := by
  obtain ⟨places, hx⟩ := reads os enc
  refine returnsInHanded_of_row (C := Try.checked) (s := OpenSpec.ofChange Rows.nextReadsSpec) own started (by kernel_rfl) Try.func6
    (witness_row_at (enc := enc) (C := Try.checked) false (laidWorld0 os) #[(.agg #[.slice none 0 0] : Value), .slice none 0 0] rfl (by kernel_rfl) (by kernel_rfl) (by kernel_rfl)
      (OpenSpec.preRow_of_cond 8 hx (by kernel_rfl) (fun k hk => by cases hk) (by kernel_rfl) (laid_met os))) ?_
  intro W base args ds gs before hval hW _ _ hWt hL _ _
  exact contract H enc W base args ds gs before hval hW hL hWt
theorem said : Rows.NextReadsSaid :=
  OpenClaim.holds_of_cond 6 Try.f6 rfl rfl rfl rfl rfl rfl rfl ⟨rfl, rfl, rfl, rfl, rfl⟩ rfl rfl rfl rfl rfl (by kernel_rfl) Try.func6 (by kernel_rfl)
    (of_decide_eq_true (by kernel_rfl)) (by unfold Func.isWrapper; first | (rw [if_pos (by decide +kernel)]; kernel_rfl) | (rw [if_neg (by decide +kernel)]; exact ⟨rfl, rfl⟩))
    (fun os started H enc _ F => by rw [OpenClaim.pre_eq_preRow]; exact lifted os started H enc F)
end Go.Proofs.Ytidoofdofdhjpaa.nextReads
