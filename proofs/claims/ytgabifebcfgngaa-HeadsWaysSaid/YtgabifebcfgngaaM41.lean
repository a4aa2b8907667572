/- In how many ways one comes to branches, together: walked. -/
import Derived.Test.YtgabifebcfgngaaM40
namespace Go.Proofs.Ytgabifebcfgngaa
open Go Go.RowKit
set_option linter.unusedVariables false
set_option linter.unusedSimpArgs false
set_option maxRecDepth 1000000
set_option maxHeartbeats 64000000

theorem sumB_snoc (T : Brs) (a : List Itm × Nat) : sumB (T ++ [a]) = sumB T + a.2 := by unfold sumB; simp
theorem sumB_step {D : List HdE} {j : Nat} (hj : j < D.length) : sumB ((D.take (j + 1)).map brS) = sumB ((D.take j).map brS) + (D.getD j hd0).many := by
  have hg : D.getD j hd0 = D[j] := by rw [List.getD_eq_getElem?_getD, List.getElem?_eq_getElem hj]; rfl
  rw [List.take_succ_eq_append_getElem hj, List.map_append, hg]
  exact sumB_snoc _ _
theorem sumB_le : ∀ {T : Brs}, PosB T → sumB T ≤ 2 * T.length
  | [], _ => Nat.le_refl _
  | a :: T, h => by
    have h1 := sumB_le (T := T) fun b hb => h b (List.mem_cons_of_mem _ hb)
    have h2 := h a (List.mem_cons_self ..)
    have e : sumB (a :: T) = a.2 + sumB T := by unfold sumB; simp
    rw [e, List.length_cons]; omega
def HsmL (w0 : World) (T : Brs) (A : Option Addr) (D : List HdE) (n i : Value) (w : World) : Prop :=
  ∃ j : Nat, j ≤ D.length ∧ i = .int .i64 (j : Int) ∧ n = .int .i64 (sumB ((D.take j).map brS) : Int) ∧ BrA T A D w ∧ Below w0.heap.size w0 w
theorem hdSum_any (T : Brs) (A : Option Addr) (D : List HdE) (k : Nat) (hl : D.length ≤ 100000) (hp : PosB T) (w : World) (h : BrA T A D w) :
    Calls Try.prog 24 #[.slice A D.length k] w (Ans w (.int .i64 (sumB T : Int))) := by
  have hbr := h.brs
  have HT : Hid (sumB T = sumB ((D.take D.length).map brS)) := by unfold Hid; rw [List.take_length, hbr]
  have HLE : Hid (∀ j, sumB ((D.take j).map brS) ≤ 200000) := fun j => by
    have h1 : PosB ((D.take j).map brS) := fun a ha => by
      obtain ⟨d, hd, rfl⟩ := List.mem_map.1 ha
      exact hp _ (by rw [← hbr]; exact List.mem_map_of_mem (List.mem_of_mem_take hd))
    have h2 := sumB_le h1
    have h3 : ((D.take j).map brS).length ≤ D.length := by rw [List.length_map, List.length_take]; omega
    omega
  have HM : Hid (∀ d ∈ D, d.many ≤ 2) := fun d hd => (hp (brS d) (by rw [← hbr]; exact List.mem_map_of_mem hd)).2
  have HS0 : Hid (HsmL w T A D (.int .i64 0) (.int .i64 0) w) := ⟨0, Nat.zero_le _, rfl, rfl, h, Below.refl _ _⟩
  clear h hbr hp
  have hdz : (D.length : Int) ≤ 100000 := by omega
  go_enter Try.func24, Try.ntmps24
  go_wp2
  go_loopw [3, 4] (HsmL w T A D) (fun _ i _ => D.length - (intOf i).toNat)
  case atStart => exact HS0.out
  case round =>
    obtain ⟨j, hj, rfl, rfl, hh, hb⟩ := hrel
    have HH := Lib.hid hh
    have HB := Lib.hid hb
    clear hh hb
    by_cases hlt : j < D.length
    · have hz : (j : Int) < (D.length : Int) := by omega
      have HLT := Lib.hid hlt
      have HST := Lib.hid (sumB_step hlt)
      have h1 := HLE.out j
      have h2 := HM.out _ (hd_mem hlt)
      obtain ⟨bb, ob, rfl, -, -⟩ := HH.out.row j hlt
      obtain ⟨x0, x1⟩ := br_cell HH.out.row j _ (hd_here hlt)
      generalize D.getD j hd0 = d at *
      generalize hS : sumB ((D.take j).map brS) = S at *
      generalize hS2 : sumB ((D.take (j + 1)).map brS) = S2 at *
      have h1z : (S : Int) ≤ 200000 := by omega
      have h2z : (d.many : Int) ≤ 2 := by omega
      have HS2 := Lib.hid hS2
      clear hS hS2 h1 h2 hlt hj
      go_wp2
      go_roundw
      case rel => exact ⟨j + 1, HLT.out, by go_num, by rw [HS2.out, HST.out]; go_num, HH.out, HB.out⟩
      case measure => have := HLT.out; simp [intOf] <;> omega
    · obtain rfl : j = D.length := by omega
      have hz : ¬ ((D.length : Nat) : Int) < (D.length : Int) := by omega
      rw [← HT.out]
      generalize sumB T = S at *
      go_wp2
      go_ret
      exact ⟨rfl, HB.out⟩
end Go.Proofs.Ytgabifebcfgngaa
