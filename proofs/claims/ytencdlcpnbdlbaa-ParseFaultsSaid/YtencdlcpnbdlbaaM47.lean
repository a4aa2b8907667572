/- An append of a row of tokens to a row of its own: where it stands, and the rows that were there. -/
import Derived.Test.YtencdlcpnbdlbaaM44
namespace Go.Proofs.Ytencdlcpnbdlbaa
open Go Go.RowKit
set_option linter.unusedVariables false

set_option maxRecDepth 100000 in
theorem wp_append_tk2 {w : World} {o : Oper} {a : Act} {K : Act → World → Prop} {Q : Exit → Act → World → Prop} (s x : Operand)
    (ho : o.op = .call { callee := .builtin .append, args := #[s, x], argTypes := #[22, 22] })
    (base : Nat) (v : Value) (l : List Tk) (hs : a.eval s = v) (hown : OwnK w base v l)
    (b oo c : Nat) (r : List Tk) (hx : a.eval x = .slice (some ⟨b, oo, none⟩) r.length c) (hr0 : TkRow w (some ⟨b, oo, none⟩) r) (hne : 0 < r.length) (hlen : l.length + r.length < 1073741824) (hbase : base ≤ w.heap.size)
    (h : ∀ v' w', OwnK w' base v' (l ++ r) → w.grownBy w' v.ownBlock → (v'.ownBlock = v.ownBlock ∨ ∃ g', v'.ownBlock = some g' ∧ w.heap.size ≤ g') → (∀ u, OwnK w base u l → OwnK w' base u l) → (∀ u, OwnK w base u (l ++ r) → OwnK w' base u (l ++ r)) → (∀ g vs, Blk w g vs 36 → vs.size < (l.length + r.length) * 9 → Blk w' g vs 36) → K (a.put o.dst v') w') : o.wp Try.prog a w K Q := by
  obtain ⟨ib, hib, hz0, hz1, hz2⟩ := info_parts infoTok
  have hnews := hr0.news
  have hone := flatK_ones r
  obtain ⟨v', w', hr, h2, h3, _⟩ := run_append_own (P := Try.prog) w base 22 o.type 36 ib _ 9 80 Try.underlying22 hib hz0 hz1 hz2 rfl (by decide) v l.length (flatK l) hown ⟨b, oo, none⟩ r.length c (flatK r) (flatK_length r) hnews hone (by unfold maxLen; omega) (by omega) hbase
  have h2' : OwnK w' base v' (l ++ r) := by unfold OwnK; rw [List.length_append, flatK_append]; exact h2
  have place : (v'.ownBlock = v.ownBlock ∨ ∃ g', v'.ownBlock = some g' ∧ w.heap.size ≤ g') ∧ (∀ u, OwnK w base u l → OwnK w' base u l) ∧ (∀ u, OwnK w base u (l ++ r) → OwnK w' base u (l ++ r)) ∧ (∀ g vs, Blk w g vs 36 → vs.size < (l.length + r.length) * 9 → Blk w' g vs 36) := by
    rcases hown.2 with ⟨rfl, hn⟩ | ⟨g', cap, cur, rfl, hbg, hgg, hnc, hcm, hcs, htake⟩
    · have hl0 : l = [] := List.length_eq_zero_iff.1 hn
      subst hl0
      obtain ⟨v2, w2, hr2, h4, _, _⟩ := run_append_own (P := Try.prog) w w.heap.size 22 o.type 36 ib _ 9 80 Try.underlying22 hib hz0 hz1 hz2 rfl (by decide) (.slice none 0 0) 0 [] ⟨rfl, .inl ⟨rfl, rfl⟩⟩ ⟨b, oo, none⟩ r.length c (flatK r) (flatK_length r) hnews hone (by unfold maxLen; omega) (by omega) (Nat.le_refl _)
      rw [hr] at hr2
      simp only [Result.ok.injEq] at hr2
      obtain ⟨rfl, rfl⟩ := hr2
      refine ⟨?_, fun u hu => World.ownsRow.kept hu h3 (by cases hh : u.ownBlock <;> simp [Value.ownBlock]), fun u hu => World.ownsRow.kept hu h3 (by cases hh : u.ownBlock <;> simp [Value.ownBlock]), fun g vs hk _ => (h3.block g hk.lt (by simp [Value.ownBlock])).trans hk⟩
      rcases h4.2 with ⟨_, h5⟩ | ⟨g2, cap2, cur2, hv, hb2, _⟩
      · omega
      · exact .inr ⟨g2, by rw [hv]; rfl, hb2⟩
    · by_cases hroom : l.length + r.length ≤ cap
      · have hr2 := run_append_room (P := Try.prog) w 22 o.type 36 ib Try.underlying22 hib g' l.length cap cur hgg ⟨b, oo, none⟩ r.length c (flatK r) (by rw [hz1]; exact flatK_length r) hnews hone hroom (by rw [hz1, hcs]; simp [flatK_length]; omega)
        rw [hr] at hr2
        simp only [Result.ok.injEq] at hr2
        refine ⟨.inl (by rw [hr2.1]; rfl), ?_⟩
        have hv := hr2.1
        have hown2 := h2'
        obtain ⟨q0, ⟨q1, _⟩ | ⟨g2, cap2, cur2, q1, q2, q3, q4, q5, q6, q7⟩⟩ := h2'
        · rw [hv] at q1; cases q1
        · rw [hv] at q1
          simp only [Value.slice.injEq, Option.some.injEq, Addr.mk.injEq, and_true] at q1
          obtain ⟨rfl, q8, rfl⟩ := q1
          have hself : OwnK w' base (.slice (some ⟨g', 0, none⟩) l.length cap) l := ⟨by rw [flatK_length], .inr ⟨g', cap, cur2, rfl, hbg, q3, hnc, hcm, q6, ?self⟩⟩
          refine ⟨fun u hu => ?u1, fun u hu => ?u2, fun g vs hk hsz => ?u3⟩
          case self =>
            have e : cur2.toList.take (l.length * 9) = (cur2.toList.take ((l ++ r).length * 9)).take (l.length * 9) := by rw [List.take_take]; congr 1; simp
            rw [e, q7, flatK_append]
            rw [List.take_append_of_le_length (by rw [flatK_length]; omega), ← flatK_length, List.take_length]
          case u1 =>
            by_cases hgu : u.ownBlock = some g'
            · obtain ⟨u0, ⟨u1, _⟩ | ⟨g3, cap3, cur3, u1, u2, u3, u4, u5, u6, u7⟩⟩ := hu
              · rw [u1] at hgu; cases hgu
              · rw [u1] at hgu
                have e3 : g3 = g' := by simpa [Value.ownBlock] using hgu
                subst e3
                have e4 := u3.symm.trans hgg
                simp only [Option.some.injEq, Obj.cells.injEq, and_true] at e4
                have e5 : cap3 = cap := by rw [e4] at u6; omega
                rw [u1, e5]; exact hself
            · exact World.ownsRow.kept hu h3 (by right; exact hgu)
          case u2 =>
            by_cases hgu : u.ownBlock = some g'
            · obtain ⟨u0, ⟨u1, _⟩ | ⟨g3, cap3, cur3, u1, u2, u3, u4, u5, u6, u7⟩⟩ := hu
              · rw [u1] at hgu; cases hgu
              · rw [u1] at hgu
                have e3 : g3 = g' := by simpa [Value.ownBlock] using hgu
                subst e3
                have e4 := u3.symm.trans hgg
                simp only [Option.some.injEq, Obj.cells.injEq, and_true] at e4
                have e5 : cap3 = cap := by rw [e4] at u6; omega
                rw [u1, e5, ← q8, ← hv]; exact hown2
            · exact World.ownsRow.kept hu h3 (by right; exact hgu)
          case u3 =>
            by_cases hgu : g = g'
            · subst hgu
              have e4 := (show w.heap[g]? = _ from hk).symm.trans hgg
              simp only [Option.some.injEq, Obj.cells.injEq, and_true] at e4
              rw [e4, hcs] at hsz
              have := Nat.mul_le_mul_right 9 hroom
              omega
            · exact (h3.block g hk.lt (fun e => hgu (by simpa [Value.ownBlock] using e))).trans hk
      · have holds := World.ownsRow.cells (w := w) (base := base) (e := 36) (size := 9) (v := .slice (some ⟨g', 0, none⟩) l.length cap) (n := l.length) (xs := flatK l) hown (g := g') rfl
        have hr2 := run_append_grow (P := Try.prog) w 22 o.type 36 ib _ Try.underlying22 hib hz0 ⟨g', 0, none⟩ l.length cap (flatK l) (by rw [hz1]; exact flatK_length l) holds ⟨b, oo, none⟩ r.length c (flatK r) (by rw [hz1]; exact flatK_length r) hnews (by omega) (by omega) (by rw [hz2]; exact growslice_fits (by omega) (by omega))
        rw [hr] at hr2
        simp only [Result.ok.injEq] at hr2
        refine ⟨.inr ⟨w.heap.size, by rw [hr2.1]; rfl, Nat.le_refl _⟩, ?_⟩
        have hb : Below w.heap.size w w' := by rw [hr2.2]; exact ((Below.refl _ w).drew).alloc (Nat.le_refl _) _
        exact ⟨fun u hu => hu.later hb, fun u hu => hu.later hb, fun g vs hk _ => hk.later hb⟩
  unfold Oper.wp execOp
  simp only [ho, resolve, invoke, builtin, Sem.run_bind, Sem.run_pure, Result.andThen_ok, List.map_toArray, List.map_cons, List.map_nil, hs, hx, hr]
  exact h v' w' h2' h3 place.1 place.2.1 place.2.2.1 place.2.2.2
set_option maxRecDepth 100000 in
/-- An append to an empty row of the operation's own: what is answered is new memory. -/
theorem wp_append_freshK {w : World} {o : Oper} {a : Act} {K : Act → World → Prop} {Q : Exit → Act → World → Prop} (s x : Operand)
    (ho : o.op = .call { callee := .builtin .append, args := #[s, x], argTypes := #[22, 22] })
    (b0 : Nat) (hs : a.eval s = .slice (some ⟨b0, 0, none⟩) 0 0) (hnew : Blk w b0 #[] 36)
    (l : List Tk) (A : Option Addr) (cap : Nat) (hx : a.eval x = .slice A l.length cap) (hr : TkRow w A l) (hne : 0 < l.length) (hlen : l.length < 536870912)
    (h : ∀ v' w', OwnK w' w.heap.size v' l → Below w.heap.size w w' → K (a.put o.dst v') w') : o.wp Try.prog a w K Q := by
  obtain ⟨ib, hib, hz0, hz1, hz2⟩ := info_parts infoTok
  obtain ⟨b, off, hA, _, _⟩ := hr 0 hne
  subst hA
  have hown : w.ownsRow 0 36 9 (.slice (some ⟨b0, 0, none⟩) 0 0) 0 [] := ⟨rfl, .inr ⟨b0, 0, #[], rfl, Nat.zero_le _, hnew, Nat.le_refl _, by unfold maxLen; omega, rfl, rfl⟩⟩
  obtain ⟨v', w', hrun, h2, _, _⟩ := run_append_own (P := Try.prog) w 0 22 o.type 36 ib _ 9 80 Try.underlying22 hib hz0 hz1 hz2 rfl (by decide) (.slice (some ⟨b0, 0, none⟩) 0 0) 0 [] hown ⟨b, off, none⟩ l.length cap (flatK l) (flatK_length l) hr.news (flatK_ones l) (by unfold maxLen; omega) (by omega) (Nat.zero_le _)
  have hr2 := run_append_grow (P := Try.prog) w 22 o.type 36 ib _ Try.underlying22 hib hz0 ⟨b0, 0, none⟩ 0 0 [] (by simp) (by simp) ⟨b, off, none⟩ l.length cap (flatK l) (by rw [hz1]; exact flatK_length l) hr.news (by omega) (by omega) (by rw [hz2]; exact growslice_fits (by omega) (by omega))
  rw [hrun] at hr2
  simp only [Result.ok.injEq] at hr2
  obtain ⟨hv', hw'⟩ := hr2
  have hb : Below w.heap.size w w' := by rw [hw']; exact ((Below.refl _ w).drew).alloc (Nat.le_refl _) _
  have hown' : OwnK w' w.heap.size v' l := by
    obtain ⟨q1, ⟨q2, _⟩ | ⟨g, cap2, cur, q2, _, q4⟩⟩ := h2
    · rw [hv'] at q2; cases q2
    · have hg : g = w.heap.size := by rw [hv'] at q2; cases q2; rfl
      have e : 0 + l.length = l.length := Nat.zero_add _
      rw [e] at q1 q2 q4
      exact ⟨by simpa using q1, .inr ⟨g, cap2, cur, q2, by omega, by simpa using q4⟩⟩
  unfold Oper.wp execOp
  simp only [ho, resolve, invoke, builtin, Sem.run_bind, Sem.run_pure, Result.andThen_ok, List.map_toArray, List.map_cons, List.map_nil, hs, hx, hrun]
  exact h v' w' hown' hb
end Go.Proofs.Ytencdlcpnbdlbaa
