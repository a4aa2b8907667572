/- Rows of nodes appended whole; a cell of a row stored to. -/
import Derived.Test.YtgehepiphdphjaaDoorNodeRMoved
namespace Go.Proofs.YtgehepiphdphjaaDoor
open Go Go.RowKit
set_option linter.unusedVariables false

theorem flat10_ones : ∀ (l : List Nd) (u : Value), u ∈ flat10 l → u.oneCell' = true
  | [], u, h => by simp [flat10] at h
  | t :: l, u, h => by
    simp only [flat10, List.mem_append] at h
    rcases h with h | h
    · simp only [ndC, List.mem_cons, List.not_mem_nil, or_false] at h
      rcases h with rfl | rfl | rfl | rfl | rfl | rfl | rfl | rfl | rfl | rfl <;> rfl
    · exact flat10_ones l u h
theorem NRow.news {w : World} {b oo : Nat} {r : List Nd} (hr : NRow w (some ⟨b, oo, none⟩) r) : ∀ (j : Nat) (u : Value), (flat10 r)[j]? = some u → w.cell? ((⟨b, oo, none⟩ : Addr).add j) = some u := by
  intro j u hu
  have hadd : (⟨b, oo, none⟩ : Addr).add j = ⟨b, oo + j, none⟩ := by unfold Addr.add; split <;> simp_all
  have hj : j < r.length * 10 := by
    rw [← flat10_length]; exact (List.getElem?_eq_some_iff.1 hu).1
  obtain ⟨b', o', h1, _, h3⟩ := hr (j / 10) (by omega)
  cases h1
  have := h3 (j % 10) (by omega)
  rw [← flat10_get r (j / 10) (j % 10) (by omega) (by omega), show j / 10 * 10 + j % 10 = j by omega, hu] at this
  rw [hadd, ← this]; congr 2; omega
theorem OwnN.empty {w : World} {base b : Nat} (h : Blk w b #[] 59) (hb : base ≤ b) : OwnN w base (.slice (some ⟨b, 0, none⟩) 0 0) [] :=
  ⟨rfl, .inr ⟨b, 0, #[], rfl, hb, h, Nat.le_refl _, Nat.zero_le _, rfl, rfl⟩⟩
set_option maxRecDepth 100000 in
theorem wp_append_nrow {w : World} {o : Oper} {a : Act} {K : Act → World → Prop} {Q : Exit → Act → World → Prop} (s x : Operand)
    (ho : o.op = .call { callee := .builtin .append, args := #[s, x], argTypes := #[47, 47] })
    (base : Nat) (v : Value) (l : List Nd) (hs : a.eval s = v) (hown : OwnN w base v l)
    (b oo c : Nat) (r : List Nd) (hx : a.eval x = .slice (some ⟨b, oo, none⟩) r.length c) (hr : NRow w (some ⟨b, oo, none⟩) r) (hlen : l.length + r.length < 1073741824) (hbase : base ≤ w.heap.size)
    (h : ∀ v' w', OwnN w' base v' (l ++ r) → (∀ B, B ≤ base → Below B w w') → K (a.put o.dst v') w') : o.wp Tryd.prog a w K Q := by
  obtain ⟨ib, hib, hz0, hz1, hz2⟩ := info_parts infoNd
  obtain ⟨v', w', hr2, h2, h3, _⟩ := run_append_own (P := Tryd.prog) w base 47 o.type 59 ib _ 10 88 Tryd.underlying47 hib hz0 hz1 hz2 rfl (by decide) v l.length (flat10 l) hown ⟨b, oo, none⟩ r.length c (flat10 r) (flat10_length r) hr.news (flat10_ones r) (by unfold maxLen; omega) (by omega) hbase
  have h2' : OwnN w' base v' (l ++ r) := by unfold OwnN; rw [List.length_append, flat10_append]; exact h2
  unfold Oper.wp execOp
  simp only [ho, resolve, invoke, builtin, Sem.run_bind, Sem.run_pure, Result.andThen_ok, List.map_toArray, List.map_cons, List.map_nil, hs, hx, hr2]
  exact h v' w' h2' fun B hB => (Below.refl B w).grown h3 (Nat.le_trans hB hbase) fun k hk => Nat.le_trans hB ((World.ownsRow.lt hown k hk).1)
theorem wpList_append_nrow {w : World} {ops : Array Oper} {rest : List Oper} {o : Oper} {a : Act} {Q : Exit → Act → World → Prop} (hgd : o.guard = none) (s x : Operand)
    (ho : o.op = .call { callee := .builtin .append, args := #[s, x], argTypes := #[47, 47] })
    (base : Nat) (v : Value) (l : List Nd) (hs : a.eval s = v) (hown : OwnN w base v l)
    (b oo c : Nat) (r : List Nd) (hx : a.eval x = .slice (some ⟨b, oo, none⟩) r.length c) (hr : NRow w (some ⟨b, oo, none⟩) r) (hlen : l.length + r.length < 1073741824) (hbase : base ≤ w.heap.size)
    (h : ∀ v' w', OwnN w' base v' (l ++ r) → (∀ B, B ≤ base → Below B w w') → wpList Tryd.prog ops Q rest (a.put o.dst v') w') : wpList Tryd.prog ops Q (o :: rest) a w :=
  wpList_plain hgd fun K hK => wp_append_nrow s x ho base v l hs hown b oo c r hx hr hlen hbase fun v' w' h1 h2 => hK _ _ (h v' w' h1 h2)
set_option maxRecDepth 100000 in
/-- An append to an empty row of the operation's own: what is answered is new memory. -/
theorem wp_append_freshN {w : World} {o : Oper} {a : Act} {K : Act → World → Prop} {Q : Exit → Act → World → Prop} (s x : Operand)
    (ho : o.op = .call { callee := .builtin .append, args := #[s, x], argTypes := #[47, 47] })
    (b0 : Nat) (hs : a.eval s = .slice (some ⟨b0, 0, none⟩) 0 0) (hnew : Blk w b0 #[] 59)
    (l : List Nd) (A : Option Addr) (cap : Nat) (hx : a.eval x = .slice A l.length cap) (hr : NRow w A l) (hne : 0 < l.length) (hlen : l.length < 536870912)
    (h : ∀ v' w', OwnN w' w.heap.size v' l → Below w.heap.size w w' → K (a.put o.dst v') w') : o.wp Tryd.prog a w K Q := by
  obtain ⟨ib, hib, hz0, hz1, hz2⟩ := info_parts infoNd
  obtain ⟨b, off, hA, _, _⟩ := hr 0 hne
  subst hA
  have hown : w.ownsRow 0 59 10 (.slice (some ⟨b0, 0, none⟩) 0 0) 0 [] := ⟨rfl, .inr ⟨b0, 0, #[], rfl, Nat.zero_le _, hnew, Nat.le_refl _, by unfold maxLen; omega, rfl, rfl⟩⟩
  obtain ⟨v', w', hrun, h2, _, _⟩ := run_append_own (P := Tryd.prog) w 0 47 o.type 59 ib _ 10 88 Tryd.underlying47 hib hz0 hz1 hz2 rfl (by decide) (.slice (some ⟨b0, 0, none⟩) 0 0) 0 [] hown ⟨b, off, none⟩ l.length cap (flat10 l) (flat10_length l) hr.news (flat10_ones l) (by unfold maxLen; omega) (by omega) (Nat.zero_le _)
  have hr2 := run_append_grow (P := Tryd.prog) w 47 o.type 59 ib _ Tryd.underlying47 hib hz0 ⟨b0, 0, none⟩ 0 0 [] (by simp) (by simp) ⟨b, off, none⟩ l.length cap (flat10 l) (by rw [hz1]; exact flat10_length l) hr.news (by omega) (by omega) (by rw [hz2]; exact growslice_fits (by omega) (by omega))
  rw [hrun] at hr2
  simp only [Result.ok.injEq] at hr2
  obtain ⟨hv', hw'⟩ := hr2
  have hb : Below w.heap.size w w' := by rw [hw']; exact ((Below.refl _ w).drew).alloc (Nat.le_refl _) _
  have hown' : OwnN w' w.heap.size v' l := by
    obtain ⟨q1, ⟨q2, _⟩ | ⟨g, cap2, cur, q2, _, q4⟩⟩ := h2
    · rw [hv'] at q2; cases q2
    · have hg : g = w.heap.size := by rw [hv'] at q2; cases q2; rfl
      have e : 0 + l.length = l.length := Nat.zero_add _
      rw [e] at q1 q2 q4
      exact ⟨by simpa using q1, .inr ⟨g, cap2, cur, q2, by omega, by simpa using q4⟩⟩
  unfold Oper.wp execOp
  simp only [ho, resolve, invoke, builtin, Sem.run_bind, Sem.run_pure, Result.andThen_ok, List.map_toArray, List.map_cons, List.map_nil, hs, hx, hrun]
  exact h v' w' hown' hb
/-- What is owned stands in one block from its beginning. -/
theorem OwnN.blk {w : World} {base : Nat} {v : Value} {l : List Nd} (h : OwnN w base v l) (hne : 0 < l.length) :
    ∃ g cap cur, v = .slice (some ⟨g, 0, none⟩) l.length cap ∧ l.length ≤ cap ∧ base ≤ g ∧ Blk w g cur 59 ∧ l.length * 10 ≤ cur.size ∧ ∀ j, j < l.length * 10 → cur[j]? = (flat10 l)[j]? := by
  obtain ⟨q1, ⟨_, hn⟩ | ⟨g, cap, cur, hv, hb, hg, hc, hm, hs, ht⟩⟩ := h
  · omega
  · have hsz : l.length * 10 ≤ cur.size := by rw [hs]; exact Nat.mul_le_mul_right 10 hc
    refine ⟨g, cap, cur, hv, hc, hb, hg, hsz, fun j hj => ?_⟩
    rw [← ht, List.getElem?_take, if_pos hj]; simp
/-- A node of a row, its part's number another one. -/
theorem NRow.setA {w : World} {g : Nat} {cur : Array Value} {l : List Nd} (hk : Blk w g cur 59) (hsz : l.length * 10 ≤ cur.size) (hc : ∀ j, j < l.length * 10 → cur[j]? = (flat10 l)[j]?) {i : Nat} (hi : i < l.length) (x : Int) :
    NRow (w.setCell ⟨g, i * 10 + 1, none⟩ (.int .i64 x)) (some ⟨g, 0, none⟩) (l.set i { l.getD i nd0 with a := x }) := by
  have hk2 := hk.setCell (i * 10 + 1) (.int .i64 x)
  intro p hp
  rw [List.length_set] at hp
  refine ⟨g, 0, rfl, hk2.lt, fun j hj => ?_⟩
  rw [Nat.zero_add, hk2.cell, Array.getElem?_setIfInBounds]
  by_cases hpi : p = i
  · subst hpi
    have e : (l.set p { l.getD p nd0 with a := x }).getD p nd0 = { l.getD p nd0 with a := x } := by
      rw [List.getD_eq_getElem?_getD, List.getElem?_set_self hi]; rfl
    rw [e]
    by_cases h1 : j = 1
    · subst h1
      rw [if_pos rfl, if_pos (by omega)]; rfl
    · rw [if_neg (by omega), hc _ (by omega), flat10_get l p j hi hj]
      generalize l.getD p nd0 = n
      obtain ⟨k, a, b, lo, hi', cls, text⟩ := n
      have : j = 0 ∨ j = 2 ∨ j = 3 ∨ j = 4 ∨ j = 5 ∨ j = 6 ∨ j = 7 ∨ j = 8 ∨ j = 9 := by omega
      rcases this with rfl | rfl | rfl | rfl | rfl | rfl | rfl | rfl | rfl <;> rfl
  · have e : (l.set i { l.getD i nd0 with a := x }).getD p nd0 = l.getD p nd0 := by
      rw [List.getD_eq_getElem?_getD, List.getElem?_set_ne (by omega), ← List.getD_eq_getElem?_getD]
    rw [e, if_neg (by omega), hc _ (by omega), flat10_get l p j hp hj]
end Go.Proofs.YtgehepiphdphjaaDoor
