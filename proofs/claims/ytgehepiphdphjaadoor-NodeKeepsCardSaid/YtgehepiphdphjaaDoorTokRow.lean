/- Rows of tokens in memory. -/
import Derived.Test.YtgehepiphdphjaaDoorLexToks
import Derived.Test.YtgehepiphdphjaaDoorRef01
import Derived.Laws.AppendOwn
namespace Go.Proofs.YtgehepiphdphjaaDoor
open Go Go.RowKit
set_option linter.unusedVariables false

def flat9 : List Tok → List Value
  | [] => []
  | t :: l => (tokC t).toList ++ flat9 l
theorem tokC_size (t : Tok) : (tokC t).toList.length = 9 := rfl
theorem flat9_length : ∀ l, (flat9 l).length = l.length * 9
  | [] => rfl
  | s :: l => by simp only [flat9, List.length_append, tokC_size, List.length_cons, flat9_length l]; omega
theorem flat9_append : ∀ l m, flat9 (l ++ m) = flat9 l ++ flat9 m
  | [], _ => rfl
  | s :: l, m => by simp only [List.cons_append, flat9, flat9_append l m, List.append_assoc]
def tok0 : Tok := { kind := 0, at_ := 0 }
theorem flat9_get : ∀ (l : List Tok) (i j : Nat), i < l.length → j < 9 → (flat9 l)[i * 9 + j]? = (tokC (l.getD i tok0))[j]?
  | [], i, j, hi, _ => by simp at hi
  | s :: l, 0, j, _, hj => by
    show ((tokC s).toList ++ flat9 l)[0 * 9 + j]? = _
    rw [Nat.zero_mul, Nat.zero_add, List.getElem?_append_left (by rw [tokC_size]; exact hj)]; simp
  | s :: l, i + 1, j, hi, hj => by
    have ih := flat9_get l i j (by simpa using hi) hj
    show ((tokC s).toList ++ flat9 l)[(i + 1) * 9 + j]? = _
    rw [List.getElem?_append_right (by rw [tokC_size]; omega), tokC_size, show (i + 1) * 9 + j - 9 = i * 9 + j by omega, ih]
    simp
/-- A row of tokens that is read. -/
def TRow (w : World) (a : Option Addr) (l : List Tok) : Prop :=
  ∀ i, i < l.length → ∃ b off, a = some ⟨b, off, none⟩ ∧ b < w.heap.size ∧ ∀ j, j < 9 → w.cell? ⟨b, off + i * 9 + j, none⟩ = (tokC (l.getD i tok0))[j]?
theorem TRow.later {w w' : World} {a : Option Addr} {l : List Tok} (h : TRow w a l) (hb : Below w.heap.size w w') : TRow w' a l := fun i hi => by
  obtain ⟨b, off, ha, hlt, hc⟩ := h i hi
  exact ⟨b, off, ha, Nat.lt_of_lt_of_le hlt hb.size, fun j hj => (hb.cell (p := ⟨b, off + i * 9 + j, none⟩) hlt).trans (hc j hj)⟩
theorem TRow.nil (w : World) (a : Option Addr) : TRow w a [] := fun i hi => by simp at hi
/-- A row of tokens that a call owns. -/
def OwnT (w : World) (base : Nat) (v : Value) (l : List Tok) : Prop := w.ownsRow base 71 9 v l.length (flat9 l)
theorem OwnT.nil (w : World) (base : Nat) : OwnT w base (.slice none 0 0) [] := ⟨rfl, .inl ⟨rfl, rfl⟩⟩
theorem OwnT.later {w w' : World} {base : Nat} {v : Value} {l : List Tok} (h : OwnT w base v l) (hb : Below w.heap.size w w') : OwnT w' base v l := ownsRow_later h hb
theorem OwnT.row {w : World} {base : Nat} {v : Value} {l : List Tok} (h : OwnT w base v l) : ∃ a cap, v = .slice a l.length cap ∧ TRow w a l := by
  obtain ⟨_, ⟨hv, hn⟩ | ⟨g, cap, cur, hv, hb, hg, hc, hm, hs, ht⟩⟩ := h
  · have : l = [] := List.length_eq_zero_iff.1 hn
    subst this
    exact ⟨none, 0, hv, TRow.nil _ _⟩
  · refine ⟨_, cap, hv, fun i hi => ⟨g, 0, rfl, Blk.lt (w := w) (b := g) (vs := cur) (t := 71) hg, fun j hj => ?_⟩⟩
    have hc2 := Blk.cell (w := w) (b := g) (vs := cur) (t := 71) hg (i * 9 + j)
    rw [Nat.zero_add, hc2, ← flat9_get l i j hi hj, ← ht, List.getElem?_take, if_pos (by omega)]
    simp
theorem infoTok : (Tryd.prog.info? 71).map (fun i => (i.zero, i.size, i.bytes)) = some (some (.agg z9), 9, 80) := by kernel_rfl
/-- An append to a row of its own. -/
theorem wp_append_tok {w : World} {o : Oper} {a : Act} {K : Act → World → Prop} {Q : Exit → Act → World → Prop} (s x : Operand)
    (ho : o.op = .call { callee := .builtin .append, args := #[s, x], argTypes := #[39, 39] })
    (base : Nat) (v : Value) (l : List Tok) (hs : a.eval s = v) (hown : OwnT w base v l)
    (b : Nat) (t : Tok) (hx : a.eval x = .slice (some ⟨b, 0, none⟩) 1 1) (hnew : Blk w b (tokC t) 71) (hlen : l.length < 1073741824) (hbase : base ≤ w.heap.size)
    (h : ∀ v' w', OwnT w' base v' (l ++ [t]) → (∀ B, B ≤ base → Below B w w') → K (a.put o.dst v') w') : o.wp Tryd.prog a w K Q := by
  obtain ⟨ib, hib, hz0, hz1, hz2⟩ := info_parts infoTok
  have hf1 : flat9 [t] = (tokC t).toList := by simp [flat9]
  have hnews : ∀ (j : Nat) (u : Value), (flat9 [t])[j]? = some u → w.cell? ((⟨b, 0, none⟩ : Addr).add j) = some u := by
    intro j u hu
    have hadd : (⟨b, 0, none⟩ : Addr).add j = ⟨b, j, none⟩ := by unfold Addr.add; split <;> simp_all
    rw [hf1] at hu
    rw [hadd, hnew.cell, ← hu]; simp
  have hone : ∀ u ∈ flat9 [t], u.oneCell' = true := by
    intro u hu
    rw [hf1] at hu
    simp only [tokC, List.mem_cons, List.not_mem_nil, or_false] at hu
    rcases hu with rfl | rfl | rfl | rfl | rfl | rfl | rfl | rfl | rfl <;> rfl
  obtain ⟨v', w', hr, h2, h3, _⟩ := run_append_own (P := Tryd.prog) w base 39 o.type 71 ib _ 9 80 Tryd.underlying39 hib hz0 hz1 hz2 rfl (by decide) v l.length (flat9 l) hown ⟨b, 0, none⟩ 1 1 (flat9 [t]) rfl hnews hone (by unfold maxLen; omega) (by omega) hbase
  have h2' : OwnT w' base v' (l ++ [t]) := by unfold OwnT; rw [List.length_append, flat9_append]; exact h2
  unfold Oper.wp execOp
  simp only [ho, resolve, invoke, builtin, Sem.run_bind, Sem.run_pure, Result.andThen_ok, List.map_toArray, List.map_cons, List.map_nil, hs, hx, hr]
  exact h v' w' h2' fun B hB => (Below.refl B w).grown h3 (Nat.le_trans hB hbase) fun k hk => Nat.le_trans hB ((World.ownsRow.lt hown k hk).1)
theorem wpList_append_tok {w : World} {ops : Array Oper} {rest : List Oper} {o : Oper} {a : Act} {Q : Exit → Act → World → Prop} (hgd : o.guard = none) (s x : Operand)
    (ho : o.op = .call { callee := .builtin .append, args := #[s, x], argTypes := #[39, 39] })
    (base : Nat) (v : Value) (l : List Tok) (hs : a.eval s = v) (hown : OwnT w base v l)
    (b : Nat) (t : Tok) (hx : a.eval x = .slice (some ⟨b, 0, none⟩) 1 1) (hnew : Blk w b (tokC t) 71) (hlen : l.length < 1073741824) (hbase : base ≤ w.heap.size)
    (h : ∀ v' w', OwnT w' base v' (l ++ [t]) → (∀ B, B ≤ base → Below B w w') → wpList Tryd.prog ops Q rest (a.put o.dst v') w') : wpList Tryd.prog ops Q (o :: rest) a w :=
  wpList_plain hgd fun K hK => wp_append_tok s x ho base v l hs hown b t hx hnew hlen hbase fun v' w' h1 h2 => hK _ _ (h v' w' h1 h2)
end Go.Proofs.YtgehepiphdphjaaDoor
