/- The document's nodes moved, parts, wholes: walked. -/
import Derived.Test.YtnhcbldcfcibiaaM20
import Derived.Test.YtnhcbldcfcibiaaM09
import Derived.Test.YtnhcbldcfcibiaaM07
namespace Go.Proofs.Ytnhcbldcfcibiaa
open Go Go.RowKit
set_option linter.unusedVariables false
set_option linter.unusedSimpArgs false

end Go.Proofs.Ytnhcbldcfcibiaa
/- Rows of nodes appended whole; a cell of a row stored to. -/
namespace Go.Proofs.Ytnhcbldcfcibiaa
open Go Go.RowKit
set_option linter.unusedVariables false

theorem NRow.news {w : World} {b oo : Nat} {r : List Nd} (hr : NRow w (some ⟨b, oo, none⟩) r) : ∀ (j : Nat) (u : Value), (flat10 r)[j]? = some u → w.cell? ((⟨b, oo, none⟩ : Addr).add j) = some u := by
  intro j u hu
  have hadd : (⟨b, oo, none⟩ : Addr).add j = ⟨b, oo + j, none⟩ := by unfold Addr.add; split <;> simp_all
  have hj : j < r.length * 10 := by
    rw [← flat10_length]; exact (List.getElem?_eq_some_iff.1 hu).1
  obtain ⟨b', o', h1, _, h3⟩ := hr (j / 10) (by omega)
  cases h1
  have := h3 (j % 10) (by omega)
  rw [← flat10_get r (j / 10) (j % 10) (by omega) (by omega), show j / 10 * 10 + j % 10 = j by omega, hu] at this
  rw [hadd, ← this]; congr 2; omega
end Go.Proofs.Ytnhcbldcfcibiaa
/- Rows of numbers in memory, that a call owns; where what is appended to stands. -/
namespace Go.Proofs.Ytnhcbldcfcibiaa
open Go Go.RowKit
set_option linter.unusedVariables false

def intsV (l : List Int) : List Value := l.map fun c : Int => Value.int .i64 c
theorem intsV_snoc (l : List Int) (c : Int) : intsV (l ++ [c]) = intsV l ++ [.int .i64 c] := by simp [intsV]
theorem intsV_length (l : List Int) : (intsV l).length = l.length := by simp [intsV]
/-- A row of numbers that is read. -/
def IRow (w : World) (a : Option Addr) (l : List Int) : Prop :=
  ∀ i, i < l.length → ∃ b off, a = some ⟨b, off, none⟩ ∧ b < w.heap.size ∧ w.cell? ⟨b, off + i, none⟩ = some (.int .i64 (l.getD i 0))
theorem IRow.later {w w' : World} {a : Option Addr} {l : List Int} (h : IRow w a l) (hb : Below w.heap.size w w') : IRow w' a l := fun i hi => by
  obtain ⟨b, off, ha, hlt, hc⟩ := h i hi
  exact ⟨b, off, ha, Nat.lt_of_lt_of_le hlt hb.size, (hb.cell (p := ⟨b, off + i, none⟩) hlt).trans hc⟩
def OwnI (w : World) (base : Nat) (v : Value) (l : List Int) : Prop := w.ownsRow base 3 1 v l.length (intsV l)
theorem OwnI.nil (w : World) (base : Nat) : OwnI w base (.slice none 0 0) [] := ⟨rfl, .inl ⟨rfl, rfl⟩⟩
theorem OwnI.later {w w' : World} {base : Nat} {v : Value} {l : List Int} (h : OwnI w base v l) (hb : Below w.heap.size w w') : OwnI w' base v l := ownsRow_later h hb
theorem OwnI.row {w : World} {base : Nat} {v : Value} {l : List Int} (h : OwnI w base v l) : ∃ a cap, v = .slice a l.length cap ∧ IRow w a l := by
  obtain ⟨_, ⟨hv, hn⟩ | ⟨g, cap, cur, hv, hb, hg, hc, hm, hs, ht⟩⟩ := h
  · have : l = [] := List.length_eq_zero_iff.1 hn
    subst this
    exact ⟨none, 0, hv, fun i hi => by simp at hi⟩
  · refine ⟨_, cap, hv, fun i hi => ⟨g, 0, rfl, Blk.lt (w := w) (b := g) (vs := cur) (t := 3) hg, ?_⟩⟩
    rw [Blk.cell (w := w) (b := g) (vs := cur) (t := 3) hg]
    have : (intsV l)[i]? = some (.int .i64 (l.getD i 0)) := by unfold intsV; simp [hi]
    rw [← this, ← ht, List.getElem?_take, if_pos (by omega)]
    simp
/-- Without its last number it stands where it did. -/
theorem OwnI.drop {w : World} {base : Nat} {v : Value} {l : List Int} (h : OwnI w base v l) (hl : 0 < l.length) : ∃ g cap, v = .slice (some ⟨g, 0, none⟩) l.length cap ∧ l.length ≤ cap ∧ g < w.heap.size ∧ OwnI w base (.slice (some ⟨g, 0, none⟩) (l.length - 1) cap) l.dropLast := by
  obtain ⟨_, ⟨hv, hn⟩ | ⟨g, cap, cur, hv, hb, hg, hc, hm, hs, ht⟩⟩ := h
  · omega
  · refine ⟨g, cap, hv, hc, Blk.lt (w := w) (b := g) (vs := cur) (t := 3) hg, by simp [intsV], .inr ⟨g, cap, cur, by simp, hb, hg, by simp; omega, hm, hs, ?_⟩⟩
    rw [List.length_dropLast, Nat.mul_one]
    have e : cur.toList.take (l.length - 1) = (cur.toList.take (l.length * 1)).take (l.length - 1) := by rw [List.take_take]; congr 1; omega
    rw [e, ht]; unfold intsV
    rw [← List.map_take, ← List.dropLast_eq_take]
theorem infoI : (Try.prog.info? 3).map (fun i => (i.zero, i.size, i.bytes)) = some (some (.int .i64 0), 1, 8) := by kernel_rfl
set_option maxRecDepth 100000 in
/-- An append of a number to a row of its own: other blocks stay, and it stands where it did, or in new memory. -/
theorem wp_append_int {w : World} {o : Oper} {a : Act} {K : Act → World → Prop} {Q : Exit → Act → World → Prop} (s x : Operand)
    (ho : o.op = .call { callee := .builtin .append, args := #[s, x], argTypes := #[54, 54] })
    (base : Nat) (v : Value) (l : List Int) (hs : a.eval s = v) (hown : OwnI w base v l)
    (b : Nat) (c : Int) (hx : a.eval x = .slice (some ⟨b, 0, none⟩) 1 1) (hnew : Blk w b #[.int .i64 c] 3) (hlen : l.length < 1073741824) (hbase : base ≤ w.heap.size)
    (h : ∀ v' w', OwnI w' base v' (l ++ [c]) → w.grownBy w' v.ownBlock → (v'.ownBlock = v.ownBlock ∨ ∃ g', v'.ownBlock = some g' ∧ w.heap.size ≤ g') → K (a.put o.dst v') w') : o.wp Try.prog a w K Q := by
  obtain ⟨ib, hib, hz0, hz1, hz2⟩ := info_parts infoI
  have hnews : ∀ (j : Nat) (u : Value), [Value.int .i64 c][j]? = some u → w.cell? ((⟨b, 0, none⟩ : Addr).add j) = some u := by
    intro j u hu
    cases j with
    | zero => simp at hu; subst hu; exact hnew.cell 0
    | succ j => simp at hu
  have hone : ∀ u ∈ [Value.int .i64 c], u.oneCell' = true := by simp [Value.oneCell']
  obtain ⟨v', w', hr, h2, h3, _⟩ := run_append_own (P := Try.prog) w base 54 o.type 3 ib _ 1 8 Try.underlying54 hib hz0 hz1 hz2 rfl (by decide) v l.length (intsV l) hown ⟨b, 0, none⟩ 1 1 [.int .i64 c] rfl hnews hone (by unfold maxLen; omega) (by omega) hbase
  have h2' : OwnI w' base v' (l ++ [c]) := by unfold OwnI; rw [List.length_append, intsV_snoc]; exact h2
  have place : v'.ownBlock = v.ownBlock ∨ ∃ g', v'.ownBlock = some g' ∧ w.heap.size ≤ g' := by
    rcases hown.2 with ⟨rfl, hn⟩ | ⟨g', cap, cur, rfl, hbg, hgg, hnc, hcm, hcs, htake⟩
    · have hl0 : l = [] := List.length_eq_zero_iff.1 hn
      subst hl0
      obtain ⟨v2, w2, hr2, h4, _, _⟩ := run_append_own (P := Try.prog) w w.heap.size 54 o.type 3 ib _ 1 8 Try.underlying54 hib hz0 hz1 hz2 rfl (by decide) (.slice none 0 0) 0 [] ⟨rfl, .inl ⟨rfl, rfl⟩⟩ ⟨b, 0, none⟩ 1 1 [.int .i64 c] rfl hnews hone (by unfold maxLen; omega) (by omega) (Nat.le_refl _)
      rw [hr] at hr2
      simp only [Result.ok.injEq] at hr2
      obtain ⟨rfl, rfl⟩ := hr2
      rcases h4.2 with ⟨_, h5⟩ | ⟨g2, cap2, cur2, hv, hb2, _⟩
      · omega
      · exact .inr ⟨g2, by rw [hv]; rfl, hb2⟩
    · by_cases hroom : l.length + 1 ≤ cap
      · have hr2 := run_append_room (P := Try.prog) w 54 o.type 3 ib Try.underlying54 hib g' l.length cap cur hgg ⟨b, 0, none⟩ 1 1 [.int .i64 c] (by rw [hz1]; rfl) hnews hone hroom (by rw [hz1, hcs]; simp; omega)
        rw [hr] at hr2
        simp only [Result.ok.injEq] at hr2
        exact .inl (by rw [hr2.1]; rfl)
      · have holds := World.ownsRow.cells (w := w) (base := base) (e := 3) (size := 1) (v := .slice (some ⟨g', 0, none⟩) l.length cap) (n := l.length) (xs := intsV l) hown (g := g') rfl
        have hr2 := run_append_grow (P := Try.prog) w 54 o.type 3 ib _ Try.underlying54 hib hz0 ⟨g', 0, none⟩ l.length cap (intsV l) (by rw [hz1, intsV_length, Nat.mul_one]) holds ⟨b, 0, none⟩ 1 1 [.int .i64 c] (by rw [hz1]; rfl) hnews (by omega) (by omega) (by rw [hz2]; exact growslice_fits (by omega) (by omega))
        rw [hr] at hr2
        simp only [Result.ok.injEq] at hr2
        exact .inr ⟨w.heap.size, by rw [hr2.1]; rfl, Nat.le_refl _⟩
  unfold Oper.wp execOp
  simp only [ho, resolve, invoke, builtin, Sem.run_bind, Sem.run_pure, Result.andThen_ok, List.map_toArray, List.map_cons, List.map_nil, hs, hx, hr]
  exact h v' w' h2' h3 place
theorem wpList_append_int {w : World} {ops : Array Oper} {rest : List Oper} {o : Oper} {a : Act} {Q : Exit → Act → World → Prop} (hgd : o.guard = none) (s x : Operand)
    (ho : o.op = .call { callee := .builtin .append, args := #[s, x], argTypes := #[54, 54] })
    (base : Nat) (v : Value) (l : List Int) (hs : a.eval s = v) (hown : OwnI w base v l)
    (b : Nat) (c : Int) (hx : a.eval x = .slice (some ⟨b, 0, none⟩) 1 1) (hnew : Blk w b #[.int .i64 c] 3) (hlen : l.length < 1073741824) (hbase : base ≤ w.heap.size)
    (h : ∀ v' w', OwnI w' base v' (l ++ [c]) → w.grownBy w' v.ownBlock → (v'.ownBlock = v.ownBlock ∨ ∃ g', v'.ownBlock = some g' ∧ w.heap.size ≤ g') → wpList Try.prog ops Q rest (a.put o.dst v') w') : wpList Try.prog ops Q (o :: rest) a w :=
  wpList_plain hgd fun K hK => wp_append_int s x ho base v l hs hown b c hx hnew hlen hbase fun v' w' h1 h2 h3 => hK _ _ (h v' w' h1 h2 h3)
end Go.Proofs.Ytnhcbldcfcibiaa
/- How much a description may leave to read: the plain mathematics. -/
namespace Go.Proofs.Ytnhcbldcfcibiaa
open Go
set_option linter.unusedVariables false
set_option linter.unusedSimpArgs false

/-- The size of a part that stands among those. -/
def partS (S : List Nat) (a : Int) : Nat := if 0 ≤ a ∧ a < (S.length : Int) then S.getD a.toNat 0 else 0
end Go.Proofs.Ytnhcbldcfcibiaa
