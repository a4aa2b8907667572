/- An append of a whole row of classes to an empty one that has no room: a new row, and nothing that was there turns. -/
import Derived.Test.YtgehepiphdphjaaDoorSplitRows
namespace Go.Proofs.YtgehepiphdphjaaDoor
open Go Go.RowKit
set_option linter.unusedVariables false

theorem wp_append_fresh {w : World} {o : Oper} {a : Act} {K : Act → World → Prop} {Q : Exit → Act → World → Prop} (s x : Operand)
    (ho : o.op = .call { callee := .builtin .append, args := #[s, x], argTypes := #[22, 22] })
    (b0 : Nat) (hs : a.eval s = .slice (some ⟨b0, 0, none⟩) 0 0) (hnew : Blk w b0 #[] 29)
    (l : List (BitVec 256)) (A : Option Addr) (cap : Nat) (hx : a.eval x = .slice A l.length cap) (hr : LRow w A l) (hne : 0 < l.length) (hlen : l.length < 1073741824)
    (h : ∀ v' w', OwnC w' w.heap.size v' l → Below w.heap.size w w' → K (a.put o.dst v') w') : o.wp Tryd.prog a w K Q := by
  obtain ⟨ib, hib, hz0, hz1, hz2⟩ := info_parts infoCls
  obtain ⟨b, off, hA, _, _⟩ := hr 0 hne
  subst hA
  have hadd : ∀ k, (⟨b, off, none⟩ : Addr).add k = ⟨b, off + k, none⟩ := fun k => by cases k <;> simp [Addr.add]
  have hnews : ∀ (j : Nat) (u : Value), (flat4 l)[j]? = some u → w.cell? ((⟨b, off, none⟩ : Addr).add j) = some u := by
    intro j u hu
    have hj : j < l.length * 4 := by
      rcases Nat.lt_or_ge j (l.length * 4) with q | q
      · exact q
      · rw [List.getElem?_eq_none (by rw [flat4_length]; exact q)] at hu; cases hu
    obtain ⟨i, k, rfl, hk⟩ : ∃ i k, j = i * 4 + k ∧ k < 4 := ⟨j / 4, j % 4, by omega, by omega⟩
    rw [flat4_get l i k (by omega) hk] at hu
    obtain ⟨b', off', e, _, hc⟩ := hr i (by omega)
    cases e
    rw [hadd, ← Nat.add_assoc, hc k hk, hu]
  have hone : ∀ (m : List (BitVec 256)), ∀ u ∈ flat4 m, u.oneCell' = true := by
    intro m
    induction m with
    | nil => intro u hu; simp [flat4] at hu
    | cons t m ih =>
      intro u hu
      simp only [flat4, List.mem_cons] at hu
      rcases hu with rfl | rfl | rfl | rfl | hu
      · rfl
      · rfl
      · rfl
      · rfl
      · exact ih u hu
  have hown : w.ownsRow 0 29 4 (.slice (some ⟨b0, 0, none⟩) 0 0) 0 [] := ⟨rfl, .inr ⟨b0, 0, #[], rfl, Nat.zero_le _, hnew, Nat.le_refl _, by unfold maxLen; omega, rfl, rfl⟩⟩
  obtain ⟨v', w', hrun, h2, _, _⟩ := run_append_own (P := Tryd.prog) w 0 22 o.type 29 ib _ 4 32 Tryd.underlying22 hib hz0 hz1 hz2 rfl (by decide) (.slice (some ⟨b0, 0, none⟩) 0 0) 0 [] hown ⟨b, off, none⟩ l.length cap (flat4 l) (flat4_length l) hnews (hone l) (by unfold maxLen; omega) (by omega) (Nat.zero_le _)
  have hr2 := run_append_grow (P := Tryd.prog) w 22 o.type 29 ib _ Tryd.underlying22 hib hz0 ⟨b0, 0, none⟩ 0 0 [] (by simp) (by simp) ⟨b, off, none⟩ l.length cap (flat4 l) (by rw [hz1]; exact flat4_length l) hnews (by omega) (by omega) (by rw [hz2]; exact growslice_fits (by omega) (by omega))
  rw [hrun] at hr2
  simp only [Result.ok.injEq] at hr2
  obtain ⟨hv', hw'⟩ := hr2
  have hb : Below w.heap.size w w' := by rw [hw']; exact ((Below.refl _ w).drew).alloc (Nat.le_refl _) _
  have hown' : OwnC w' w.heap.size v' l := by
    obtain ⟨q1, ⟨q2, _⟩ | ⟨g, cap2, cur, q2, _, q4⟩⟩ := h2
    · rw [hv'] at q2; cases q2
    · have hg : g = w.heap.size := by rw [hv'] at q2; cases q2; rfl
      have e : 0 + l.length = l.length := Nat.zero_add _
      rw [e] at q1 q2 q4
      exact ⟨by simpa using q1, .inr ⟨g, cap2, cur, q2, by omega, by simpa using q4⟩⟩
  unfold Oper.wp execOp
  simp only [ho, resolve, invoke, builtin, Sem.run_bind, Sem.run_pure, Result.andThen_ok, List.map_toArray, List.map_cons, List.map_nil, hs, hx, hrun]
  exact h v' w' hown' hb
end Go.Proofs.YtgehepiphdphjaaDoor
