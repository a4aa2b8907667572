/- Rows of nodes in memory. -/
import Derived.Test.YtgehepiphdphjaaDoorLexToks
import Derived.Test.YtgehepiphdphjaaDoorNodeBuildM
import Derived.Test.YtgehepiphdphjaaDoorTen
import Derived.Test.YtgehepiphdphjaaDoorTokEq
import Derived.Test.YtgehepiphdphjaaDoorRef01
import Derived.Laws.AppendOwn
namespace Go.Proofs.YtgehepiphdphjaaDoor
open Go Go.RowKit
set_option linter.unusedVariables false

def flat10 : List Nd → List Value
  | [] => []
  | t :: l => (ndC t).toList ++ flat10 l
theorem ndC_size (t : Nd) : (ndC t).toList.length = 10 := rfl
theorem flat10_length : ∀ l, (flat10 l).length = l.length * 10
  | [] => rfl
  | s :: l => by simp only [flat10, List.length_append, ndC_size, List.length_cons, flat10_length l]; omega
theorem flat10_append : ∀ l m, flat10 (l ++ m) = flat10 l ++ flat10 m
  | [], _ => rfl
  | s :: l, m => by simp only [List.cons_append, flat10, flat10_append l m, List.append_assoc]
theorem flat10_get : ∀ (l : List Nd) (i j : Nat), i < l.length → j < 10 → (flat10 l)[i * 10 + j]? = (ndC (l.getD i nd0))[j]?
  | [], i, j, hi, _ => by simp at hi
  | s :: l, 0, j, _, hj => by
    show ((ndC s).toList ++ flat10 l)[0 * 10 + j]? = _
    rw [Nat.zero_mul, Nat.zero_add, List.getElem?_append_left (by rw [ndC_size]; exact hj)]; simp
  | s :: l, i + 1, j, hi, hj => by
    have ih := flat10_get l i j (by simpa using hi) hj
    show ((ndC s).toList ++ flat10 l)[(i + 1) * 10 + j]? = _
    rw [List.getElem?_append_right (by rw [ndC_size]; omega), ndC_size, show (i + 1) * 10 + j - 10 = i * 10 + j by omega, ih]
    simp
/-- A row of tokens that is read. -/
def NRow (w : World) (a : Option Addr) (l : List Nd) : Prop :=
  ∀ i, i < l.length → ∃ b off, a = some ⟨b, off, none⟩ ∧ b < w.heap.size ∧ ∀ j, j < 10 → w.cell? ⟨b, off + i * 10 + j, none⟩ = (ndC (l.getD i nd0))[j]?
theorem NRow.later {w w' : World} {a : Option Addr} {l : List Nd} (h : NRow w a l) (hb : Below w.heap.size w w') : NRow w' a l := fun i hi => by
  obtain ⟨b, off, ha, hlt, hc⟩ := h i hi
  exact ⟨b, off, ha, Nat.lt_of_lt_of_le hlt hb.size, fun j hj => (hb.cell (p := ⟨b, off + i * 10 + j, none⟩) hlt).trans (hc j hj)⟩
theorem NRow.nil (w : World) (a : Option Addr) : NRow w a [] := fun i hi => by simp at hi
/-- A row of tokens that a call owns. -/
def OwnN (w : World) (base : Nat) (v : Value) (l : List Nd) : Prop := w.ownsRow base 59 10 v l.length (flat10 l)
theorem OwnN.nil (w : World) (base : Nat) : OwnN w base (.slice none 0 0) [] := ⟨rfl, .inl ⟨rfl, rfl⟩⟩
theorem OwnN.later {w w' : World} {base : Nat} {v : Value} {l : List Nd} (h : OwnN w base v l) (hb : Below w.heap.size w w') : OwnN w' base v l := ownsRow_later h hb
theorem OwnN.row {w : World} {base : Nat} {v : Value} {l : List Nd} (h : OwnN w base v l) : ∃ a cap, v = .slice a l.length cap ∧ NRow w a l := by
  obtain ⟨_, ⟨hv, hn⟩ | ⟨g, cap, cur, hv, hb, hg, hc, hm, hs, ht⟩⟩ := h
  · have : l = [] := List.length_eq_zero_iff.1 hn
    subst this
    exact ⟨none, 0, hv, NRow.nil _ _⟩
  · refine ⟨_, cap, hv, fun i hi => ⟨g, 0, rfl, Blk.lt (w := w) (b := g) (vs := cur) (t := 59) hg, fun j hj => ?_⟩⟩
    have hc2 := Blk.cell (w := w) (b := g) (vs := cur) (t := 59) hg (i * 10 + j)
    rw [Nat.zero_add, hc2, ← flat10_get l i j hi hj, ← ht, List.getElem?_take, if_pos (by omega)]
    simp
theorem infoNd : (Tryd.prog.info? 59).map (fun i => (i.zero, i.size, i.bytes)) = some (some (.agg z10), 10, 88) := by kernel_rfl
/-- An append to a row of its own. -/
theorem wp_append_nd {w : World} {o : Oper} {a : Act} {K : Act → World → Prop} {Q : Exit → Act → World → Prop} (s x : Operand)
    (ho : o.op = .call { callee := .builtin .append, args := #[s, x], argTypes := #[47, 47] })
    (base : Nat) (v : Value) (l : List Nd) (hs : a.eval s = v) (hown : OwnN w base v l)
    (b : Nat) (t : Nd) (hx : a.eval x = .slice (some ⟨b, 0, none⟩) 1 1) (hnew : Blk w b (ndC t) 59) (hlen : l.length < 1073741824) (hbase : base ≤ w.heap.size)
    (h : ∀ v' w', OwnN w' base v' (l ++ [t]) → (∀ B, B ≤ base → Below B w w') → K (a.put o.dst v') w') : o.wp Tryd.prog a w K Q := by
  obtain ⟨ib, hib, hz0, hz1, hz2⟩ := info_parts infoNd
  have hf1 : flat10 [t] = (ndC t).toList := by simp [flat10]
  have hnews : ∀ (j : Nat) (u : Value), (flat10 [t])[j]? = some u → w.cell? ((⟨b, 0, none⟩ : Addr).add j) = some u := by
    intro j u hu
    have hadd : (⟨b, 0, none⟩ : Addr).add j = ⟨b, j, none⟩ := by unfold Addr.add; split <;> simp_all
    rw [hf1] at hu
    rw [hadd, hnew.cell, ← hu]; simp
  have hone : ∀ u ∈ flat10 [t], u.oneCell' = true := by
    intro u hu
    rw [hf1] at hu
    simp only [ndC, List.mem_cons, List.not_mem_nil, or_false] at hu
    rcases hu with rfl | rfl | rfl | rfl | rfl | rfl | rfl | rfl | rfl | rfl <;> rfl
  obtain ⟨v', w', hr, h2, h3, _⟩ := run_append_own (P := Tryd.prog) w base 47 o.type 59 ib _ 10 88 Tryd.underlying47 hib hz0 hz1 hz2 rfl (by decide) v l.length (flat10 l) hown ⟨b, 0, none⟩ 1 1 (flat10 [t]) rfl hnews hone (by unfold maxLen; omega) (by omega) hbase
  have h2' : OwnN w' base v' (l ++ [t]) := by unfold OwnN; rw [List.length_append, flat10_append]; exact h2
  unfold Oper.wp execOp
  simp only [ho, resolve, invoke, builtin, Sem.run_bind, Sem.run_pure, Result.andThen_ok, List.map_toArray, List.map_cons, List.map_nil, hs, hx, hr]
  exact h v' w' h2' fun B hB => (Below.refl B w).grown h3 (Nat.le_trans hB hbase) fun k hk => Nat.le_trans hB ((World.ownsRow.lt hown k hk).1)
theorem wpList_append_nd {w : World} {ops : Array Oper} {rest : List Oper} {o : Oper} {a : Act} {Q : Exit → Act → World → Prop} (hgd : o.guard = none) (s x : Operand)
    (ho : o.op = .call { callee := .builtin .append, args := #[s, x], argTypes := #[47, 47] })
    (base : Nat) (v : Value) (l : List Nd) (hs : a.eval s = v) (hown : OwnN w base v l)
    (b : Nat) (t : Nd) (hx : a.eval x = .slice (some ⟨b, 0, none⟩) 1 1) (hnew : Blk w b (ndC t) 59) (hlen : l.length < 1073741824) (hbase : base ≤ w.heap.size)
    (h : ∀ v' w', OwnN w' base v' (l ++ [t]) → (∀ B, B ≤ base → Below B w w') → wpList Tryd.prog ops Q rest (a.put o.dst v') w') : wpList Tryd.prog ops Q (o :: rest) a w :=
  wpList_plain hgd fun K hK => wp_append_nd s x ho base v l hs hown b t hx hnew hlen hbase fun v' w' h1 h2 => hK _ _ (h v' w' h1 h2)
end Go.Proofs.YtgehepiphdphjaaDoor
