/- The anchor of layer 13: walked. -/
import Derived.Test.YtgabifebcfgngaaM28
import Derived.Test.YtgabifebcfgngaaM22
namespace Go.Proofs.Ytgabifebcfgngaa
open Go Go.RowKit
set_option linter.unusedVariables false
set_option linter.unusedSimpArgs false
set_option maxRecDepth 100000
set_option maxHeartbeats 16000000

theorem ItRow.blk {w : World} {b : Nat} {l : List Itm} {cs : Array Value} (h : Blk w b cs 43) (hc : cs.toList = flatIt l) : ItRow w (some ⟨b, 0, none⟩) l := fun i hi => by
  refine ⟨b, 0, rfl, h.lt, fun j hj => ?_⟩
  rw [h.cell, ← flatIt_get l i j hi hj, ← hc, Array.getElem?_toList]
  congr 1; omega
end Go.Proofs.Ytgabifebcfgngaa
/- An append of a whole state to an empty one that has no room: a new row, and nothing that was there turns. -/
namespace Go.Proofs.Ytgabifebcfgngaa
open Go Go.RowKit
set_option linter.unusedVariables false
set_option linter.unusedSimpArgs false

end Go.Proofs.Ytgabifebcfgngaa
/- States written into; states without their first item; how forms are told of wholes. -/
namespace Go.Proofs.Ytgabifebcfgngaa
open Go Go.RowKit
set_option linter.unusedVariables false
set_option linter.unusedSimpArgs false

theorem OwnIt.blk {w : World} {B : Nat} {v : Value} {l : List Itm} (h : OwnIt w B v l) (hl : 0 < l.length) : ∃ g cap cur, v = .slice (some ⟨g, 0, none⟩) l.length cap ∧ B ≤ g ∧ Blk w g cur 43 ∧ l.length ≤ cap ∧ cap ≤ maxLen ∧ cur.size = cap * 4 ∧ cur.toList.take (l.length * 4) = flatIt l := by
  obtain ⟨hx, h2⟩ := h
  rcases h2 with ⟨-, h2⟩ | ⟨g, cap, cur, h3, h4, h5, h6, h7, h8, h9⟩
  · omega
  · exact ⟨g, cap, cur, h3, h4, h5, h6, h7, h8, h9⟩
/-- One cell of the first item turned. -/
theorem OwnIt.setc {w : World} {B g n cap : Nat} {a b : Itm} {r : List Itm} (h : OwnIt w B (.slice (some ⟨g, 0, none⟩) n cap) (a :: r)) (j : Nat) (hj : j < 4) (u : Value) (hu : (itV a).setIfInBounds j u = itV b) :
    OwnIt (w.setCell ⟨g, j, none⟩ u) B (.slice (some ⟨g, 0, none⟩) n cap) (b :: r) := by
  obtain ⟨h0, ⟨hv, hn⟩ | ⟨g', cap', cur, hv, hb, hg, hc, hm, hs, ht⟩⟩ := h
  · simp at hn
  · have hv2 := hv
    cases hv2
    have hk : Blk w g cur 43 := hg
    refine ⟨by rw [flatIt_length], .inr ⟨g, cap, cur.setIfInBounds j u, hv, hb, hk.setCell j u, hc, hm, by simpa using hs, ?_⟩⟩
    rw [Array.toList_setIfInBounds, List.take_set, show (b :: r).length = (a :: r).length from rfl, ht]
    show ((itV a).toList ++ flatIt r).set j u = (itV b).toList ++ flatIt r
    rw [List.set_append_left _ _ (by rw [itV_size]; exact hj), ← hu, Array.toList_setIfInBounds]
/-- The first item turned. -/
def put4 (w : World) (g : Nat) (x : Itm) : World := (((w.setCell ⟨g, 0, none⟩ (.int .i64 x.kind)).setCell ⟨g, 1, none⟩ (.int .i64 x.node)).setCell ⟨g, 2, none⟩ (.int .i64 x.lo)).setCell ⟨g, 3, none⟩ (.int .i64 x.hi)
theorem OwnIt.put {w : World} {B g n cap : Nat} {a : Itm} {r : List Itm} (h : OwnIt w B (.slice (some ⟨g, 0, none⟩) n cap) (a :: r)) (x : Itm) : OwnIt (put4 w g x) B (.slice (some ⟨g, 0, none⟩) n cap) (x :: r) := by
  unfold put4
  have h1 := h.setc 0 (by omega) (.int .i64 x.kind) (b := ⟨x.kind, a.node, a.lo, a.hi⟩) rfl
  have h2 := h1.setc 1 (by omega) (.int .i64 x.node) (b := ⟨x.kind, x.node, a.lo, a.hi⟩) rfl
  have h3 := h2.setc 2 (by omega) (.int .i64 x.lo) (b := ⟨x.kind, x.node, x.lo, a.hi⟩) rfl
  exact h3.setc 3 (by omega) (.int .i64 x.hi) (b := x) rfl
/-- Without its first item. -/
theorem ItRow.tl {w : World} {b o : Nat} {a : Itm} {r : List Itm} (h : ItRow w (some ⟨b, o, none⟩) (a :: r)) : ItRow w (some ⟨b, o + 4, none⟩) r := fun i hi => by
  obtain ⟨b', o', e, h2, h3⟩ := h (i + 1) (by simpa using hi)
  cases e
  refine ⟨b, o + 4, rfl, h2, fun j hj => ?_⟩
  have := h3 j hj
  rw [show o + 4 + i * 4 + j = o + (i + 1) * 4 + j by omega, this]; rfl
theorem it_append_empty (w : World) (V : Option Addr) (n cap : Nat) (A : Option Addr) (c : Nat) (t : TypeId) (hn : n ≤ cap) (hV : V = none → n = 0 ∧ cap = 0) : (Builtin.append_ #[30, 30] t #[.slice V n cap, .slice A 0 c]).run Try.prog w = .ok (.slice V n cap) w := by
  obtain ⟨ib, hib, hz0, hz1, hz2⟩ := info_parts infoIt
  cases V with
  | none =>
    obtain ⟨rfl, rfl⟩ := hV rfl
    cases A with
    | none => simp [Builtin.append_, run_underlying Try.underlying30, sizeOf, typeInfo, hib, Builtin.lenOf, Builtin.firstCells, storeCells]
    | some x =>
      have hf := run_firstCells_some (P := Try.prog) w ib.size 0 x 0 c [] (by simp) (by simp)
      simp [Builtin.append_, run_underlying Try.underlying30, sizeOf, typeInfo, hib, Builtin.lenOf, hf, storeCells]
  | some y =>
    cases A with
    | none => simp [Builtin.append_, run_underlying Try.underlying30, sizeOf, typeInfo, hib, Builtin.lenOf, Builtin.firstCells, storeCells, hn]
    | some x =>
      have hf := run_firstCells_some (P := Try.prog) w ib.size 0 x 0 c [] (by simp) (by simp)
      simp [Builtin.append_, run_underlying Try.underlying30, sizeOf, typeInfo, hib, Builtin.lenOf, hf, storeCells, hn]
/-- An append of whatever state to one that a call owns. -/
theorem wpList_append_any {w : World} {ops : Array Oper} {rest : List Oper} {o : Oper} {a : Act} {Q : Exit → Act → World → Prop} (hgd : o.guard = none) (s x : Operand)
    (ho : o.op = .call { callee := .builtin .append, args := #[s, x], argTypes := #[30, 30] })
    (base : Nat) (v : Value) (l : List Itm) (hs : a.eval s = v) (hown : OwnIt w base v l)
    (A : Option Addr) (c : Nat) (r : List Itm) (hx : a.eval x = .slice A r.length c) (hr : ItRow w A r) (hlen : l.length + r.length < 1073741000) (hbase : base ≤ w.heap.size)
    (h : ∀ v' w', OwnIt w' base v' (l ++ r) → w.grownBy w' v.ownBlock → wpList Try.prog ops Q rest (a.put o.dst v') w') : wpList Try.prog ops Q (o :: rest) a w := by
  by_cases hne : 0 < r.length
  · obtain ⟨b, off, rfl, -, -⟩ := hr 0 hne
    exact wpList_plain hgd fun K hK => wp_append_it s x ho base v l hs hown b off c r hx hr (by omega) hbase fun v' w' h1 h2 => hK _ _ (h v' w' h1 h2)
  · have hl : r = [] := List.length_eq_zero_iff.1 (by omega)
    subst hl
    refine wpList_plain hgd fun K hK => ?_
    have hrun : (Builtin.append_ #[30, 30] o.type #[v, .slice A 0 c]).run Try.prog w = .ok v w := by
      obtain ⟨_, ⟨hv, hn⟩ | ⟨g, cap, cur, hv, hb, hg, hc, hm, hs2, ht⟩⟩ := hown
      · rw [hv]; exact it_append_empty w none 0 0 A c o.type (Nat.le_refl _) (fun _ => ⟨rfl, rfl⟩)
      · rw [hv]; exact it_append_empty w _ _ _ A c o.type hc (fun e => by cases e)
    unfold Oper.wp execOp
    simp only [ho, resolve, invoke, builtin, Sem.run_bind, Sem.run_pure, Result.andThen_ok, List.map_toArray, List.map_cons, List.map_nil, hs, hx, List.length_nil, hrun]
    exact hK _ _ (h v w (by rw [List.append_nil]; exact hown) (World.grownBy.refl _ _))
theorem OwnIt.rowAt {w : World} {B g n cap : Nat} {l : List Itm} (h : OwnIt w B (.slice (some ⟨g, 0, none⟩) n cap) l) : ItRow w (some ⟨g, 0, none⟩) l := by
  obtain ⟨a, c, e, -, hr⟩ := h.row
  cases e; exact hr
end Go.Proofs.Ytgabifebcfgngaa
/- An append of an item to a row of its own: where it stands, and the row that was there. -/
namespace Go.Proofs.Ytgabifebcfgngaa
open Go Go.RowKit
set_option linter.unusedVariables false

theorem itm_one (t : Itm) : ∀ u ∈ flatIt [t], u.oneCell' = true := flatIt_ones [t]
theorem itm_news {w : World} {b : Nat} {t : Itm} (hnew : Blk w b (itV t) 43) : ∀ (j : Nat) (u : Value), (flatIt [t])[j]? = some u → w.cell? ((⟨b, 0, none⟩ : Addr).add j) = some u := by
  intro j u hu
  have hadd : (⟨b, 0, none⟩ : Addr).add j = ⟨b, j, none⟩ := by unfold Addr.add; split <;> simp_all
  have hf1 : flatIt [t] = (itV t).toList := by simp [flatIt]
  rw [hf1] at hu
  rw [hadd, hnew.cell, ← hu]; simp
set_option maxRecDepth 100000 in
theorem wp_append_it2 {w : World} {o : Oper} {a : Act} {K : Act → World → Prop} {Q : Exit → Act → World → Prop} (s x : Operand)
    (ho : o.op = .call { callee := .builtin .append, args := #[s, x], argTypes := #[29, 29] })
    (base : Nat) (v : Value) (l : List Itm) (hs : a.eval s = v) (hown : OwnIt w base v l)
    (b : Nat) (t : Itm) (hx : a.eval x = .slice (some ⟨b, 0, none⟩) 1 1) (hnew : Blk w b (itV t) 43) (hlen : l.length < 1073741824) (hbase : base ≤ w.heap.size)
    (h : ∀ v' w', OwnIt w' base v' (l ++ [t]) → w.grownBy w' v.ownBlock → (v'.ownBlock = v.ownBlock ∨ ∃ g', v'.ownBlock = some g' ∧ w.heap.size ≤ g') → OwnIt w' base v l → (∀ u, OwnIt w base u (l ++ [t]) → OwnIt w' base u (l ++ [t])) → K (a.put o.dst v') w') : o.wp Try.prog a w K Q := by
  obtain ⟨ib, hib, hz0, hz1, hz2⟩ := info_parts infoIt
  have hnews := itm_news hnew
  have hone := itm_one t
  obtain ⟨v', w', hr, h2, h3, _⟩ := run_append_own (P := Try.prog) w base 29 o.type 43 ib _ 4 32 Try.underlying29 hib hz0 hz1 hz2 rfl (by decide) v l.length (flatIt l) hown ⟨b, 0, none⟩ 1 1 (flatIt [t]) rfl hnews hone (by unfold maxLen; omega) (by omega) hbase
  have h2' : OwnIt w' base v' (l ++ [t]) := by unfold OwnIt; rw [List.length_append, flatIt_append]; exact h2
  have place : (v'.ownBlock = v.ownBlock ∨ ∃ g', v'.ownBlock = some g' ∧ w.heap.size ≤ g') ∧ OwnIt w' base v l ∧ (∀ u, OwnIt w base u (l ++ [t]) → OwnIt w' base u (l ++ [t])) := by
    rcases hown.2 with ⟨rfl, hn⟩ | ⟨g', cap, cur, rfl, hbg, hgg, hnc, hcm, hcs, htake⟩
    · have hl0 : l = [] := List.length_eq_zero_iff.1 hn
      subst hl0
      obtain ⟨v2, w2, hr2, h4, _, _⟩ := run_append_own (P := Try.prog) w w.heap.size 29 o.type 43 ib _ 4 32 Try.underlying29 hib hz0 hz1 hz2 rfl (by decide) (.slice none 0 0) 0 [] ⟨rfl, .inl ⟨rfl, rfl⟩⟩ ⟨b, 0, none⟩ 1 1 (flatIt [t]) rfl hnews hone (by unfold maxLen; omega) (by omega) (Nat.le_refl _)
      rw [hr] at hr2
      simp only [Result.ok.injEq] at hr2
      obtain ⟨rfl, rfl⟩ := hr2
      refine ⟨?_, OwnIt.nil0 _ _, fun u hu => World.ownsRow.kept hu h3 (by cases hh : u.ownBlock <;> simp [Value.ownBlock])⟩
      rcases h4.2 with ⟨_, h5⟩ | ⟨g2, cap2, cur2, hv, hb2, _⟩
      · omega
      · exact .inr ⟨g2, by rw [hv]; rfl, hb2⟩
    · by_cases hroom : l.length + 1 ≤ cap
      · have hr2 := run_append_room (P := Try.prog) w 29 o.type 43 ib Try.underlying29 hib g' l.length cap cur hgg ⟨b, 0, none⟩ 1 1 (flatIt [t]) (by rw [hz1]; rfl) hnews hone hroom (by rw [hz1, hcs]; simp [flatIt_length]; omega)
        rw [hr] at hr2
        simp only [Result.ok.injEq] at hr2
        refine ⟨.inl (by rw [hr2.1]; rfl), ?_⟩
        have hv := hr2.1
        have hown2 := h2'
        obtain ⟨q0, ⟨q1, _⟩ | ⟨g2, cap2, cur2, q1, q2, q3, q4, q5, q6, q7⟩⟩ := h2'
        · rw [hv] at q1; cases q1
        · rw [hv] at q1
          simp only [Value.slice.injEq, Option.some.injEq, Addr.mk.injEq, and_true] at q1
          obtain ⟨rfl, q8, rfl⟩ := q1
          refine ⟨⟨by rw [flatIt_length], .inr ⟨g', cap, cur2, rfl, hbg, q3, hnc, hcm, q6, ?_⟩⟩, fun u hu => ?_⟩
          case refine_2 =>
            by_cases hgu : u.ownBlock = some g'
            · obtain ⟨u0, ⟨u1, _⟩ | ⟨g3, cap3, cur3, u1, u2, u3, u4, u5, u6, u7⟩⟩ := hu
              · rw [u1] at hgu; cases hgu
              · rw [u1] at hgu
                have e3 : g3 = g' := by simpa [Value.ownBlock] using hgu
                subst e3
                have e4 := u3.symm.trans hgg
                simp only [Option.some.injEq, Obj.cells.injEq, and_true] at e4
                have e5 : cap3 = cap := by rw [e4] at u6; omega
                rw [u1, e5, ← q8, ← hv]; exact hown2
            · exact World.ownsRow.kept hu h3 (by right; exact hgu)
          have e : cur2.toList.take (l.length * 4) = (cur2.toList.take ((l ++ [t]).length * 4)).take (l.length * 4) := by rw [List.take_take]; congr 1; simp
          rw [e, q7, flatIt_append]
          rw [List.take_append_of_le_length (by rw [flatIt_length]; omega), ← flatIt_length, List.take_length]
      · have holds := World.ownsRow.cells (w := w) (base := base) (e := 43) (size := 4) (v := .slice (some ⟨g', 0, none⟩) l.length cap) (n := l.length) (xs := flatIt l) hown (g := g') rfl
        have hr2 := run_append_grow (P := Try.prog) w 29 o.type 43 ib _ Try.underlying29 hib hz0 ⟨g', 0, none⟩ l.length cap (flatIt l) (by rw [hz1]; exact flatIt_length l) holds ⟨b, 0, none⟩ 1 1 (flatIt [t]) (by rw [hz1]; rfl) hnews (by omega) (by omega) (by rw [hz2]; exact growslice_fits (by omega) (by omega))
        rw [hr] at hr2
        simp only [Result.ok.injEq] at hr2
        refine ⟨.inr ⟨w.heap.size, by rw [hr2.1]; rfl, Nat.le_refl _⟩, ?_⟩
        have hb : Below w.heap.size w w' := by rw [hr2.2]; exact ((Below.refl _ w).drew).alloc (Nat.le_refl _) _
        exact ⟨hown.later hb, fun u hu => hu.later hb⟩
  unfold Oper.wp execOp
  simp only [ho, resolve, invoke, builtin, Sem.run_bind, Sem.run_pure, Result.andThen_ok, List.map_toArray, List.map_cons, List.map_nil, hs, hx, hr]
  exact h v' w' h2' h3 place.1 place.2.1 place.2.2
end Go.Proofs.Ytgabifebcfgngaa
