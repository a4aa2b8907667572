/- SortStableFunc over a row of classes in the order by least bytes: the row is sorted, those of one least byte as they came. -/
import Derived.Test.YtidoofdofdhjpaaM09
import Derived.Test.YtidoofdofdhjpaaM08
import Derived.Test.YtidoofdofdhjpaaM05
import Derived.Test.YtidoofdofdhjpaaM03
import Derived.Laws.OwnMore
namespace Go.Proofs.Ytidoofdofdhjpaa
open Go Go.RowKit
set_option linter.unusedVariables false
def flat4 : List (BitVec 256) -> List Value
 | [] => []
 | s :: l => .int .u64 (wd s 0) :: .int .u64 (wd s 1) :: .int .u64 (wd s 2) :: .int .u64 (wd s 3) :: flat4 l
theorem flat4_length : ∀ l, (flat4 l).length = l.length * 4
 | [] => rfl
 | s :: l => by simp only [flat4, List.length_cons, flat4_length l]; omega
theorem flat4_append : ∀ l m, flat4 (l ++ m) = flat4 l ++ flat4 m
 | [], _ => rfl
 | s :: l, m => by simp only [List.cons_append, flat4, flat4_append l m]
theorem flat4_get : ∀ (l : List (BitVec 256)) (i j : Nat), i < l.length -> j < 4 -> (flat4 l)[i * 4 + j]? = some (.int .u64 (wd (l.getD i 0) j))
 | [], i, j, hi, _ => by simp at hi
 | s :: l, 0, j, _, hj => by
  rcases (by omega : j = 0 \/ j = 1 \/ j = 2 \/ j = 3) with rfl | rfl | rfl | rfl <;> rfl
 | s :: l, i + 1, j, hi, hj => by
  have ih := flat4_get l i j (by simpa using hi) hj
  rw [show (i + 1) * 4 + j = i * 4 + j + 1 + 1 + 1 + 1 by omega]
  simpa [flat4] using ih
def LRow (w : World) (a : Option Addr) (l : List (BitVec 256)) : Prop :=
 ∀ i, i < l.length -> ∃ b off, a = some ⟨b, off, none⟩ /\ b < w.heap.size /\ ∀ j, j < 4 -> w.cell? ⟨b, off + i * 4 + j, none⟩ = some (.int .u64 (wd (l.getD i 0) j))
theorem LRow.later {w w' : World} {a : Option Addr} {l : List (BitVec 256)} (h : LRow w a l) (hb : Below w.heap.size w w') : LRow w' a l := fun i hi => by
 obtain ⟨b, off, ha, hlt, hc⟩ := h i hi
 exact ⟨b, off, ha, Nat.lt_of_lt_of_le hlt hb.size, fun j hj => (hb.cell (p := ⟨b, off + i * 4 + j, none⟩) hlt).trans (hc j hj)⟩
theorem LRow.nil (w : World) (a : Option Addr) : LRow w a [] := fun i hi => by simp at hi
theorem CRow.lrow {w : World} {b n : Nat} {f : Nat -> BitVec 256} (h : CRow w b n f) {l : List (BitVec 256)} (hl : (List.range n).map f = l) : LRow w (some ⟨b, 0, none⟩) l := by
 subst hl
 intro i hi
 have hi' : i < n := by simpa using hi
 refine ⟨b, 0, rfl, h.lt, fun j hj => ?_⟩
 have := h.cell i hi' j hj
 simpa [hi'] using this
def IsRow (l : List (BitVec 256)) (v : Value) (w : World) : Prop := ∃ a cap, v = .slice a l.length cap /\ LRow w a l
theorem IsRow.later (l : List (BitVec 256)) (v : Value) (w w' : World) (h : IsRow l v w) (hb : Below w.heap.size w w') : IsRow l v w' := by
 obtain ⟨a, cap, hv, hr⟩ := h
 exact ⟨a, cap, hv, hr.later hb⟩
def OwnC (w : World) (base : Nat) (v : Value) (l : List (BitVec 256)) : Prop := w.ownsRow base 35 4 v l.length (flat4 l)
theorem OwnC.cases {w : World} {base : Nat} {v : Value} {l : List (BitVec 256)} (h : OwnC w base v l) :
 (v = .slice none 0 0 /\ l = []) \/ ∃ g cap, v = .slice (some ⟨g, 0, none⟩) l.length cap /\ base <= g /\ CRow w g l.length (fun i => l.getD i 0) := by
 obtain ⟨_, ⟨hv, hn⟩ | ⟨g, cap, cur, hv, hb, hg, hc, hm, hs, ht⟩⟩ := h
 ·exact .inl ⟨hv, List.length_eq_zero_iff.1 hn⟩
 ·refine .inr ⟨g, cap, hv, hb, ?_, fun i hi j hj => ?_, fun o => ?_⟩
  ·exact Blk.lt (w := w) (b := g) (vs := cur) (t := 35) hg
  ·have hc2 := Blk.cell (w := w) (b := g) (vs := cur) (t := 35) hg (i * 4 + j)
   rw [hc2, <- flat4_get l i j hi hj, <- ht, List.getElem?_take, if_pos (by omega)]
   simp
  ·exact Blk.frozen (w := w) (b := g) (vs := cur) (t := 35) hg o
theorem OwnC.later {w w' : World} {base : Nat} {v : Value} {l : List (BitVec 256)} (h : OwnC w base v l) (hb : Below w.heap.size w w') : OwnC w' base v l := ownsRow_later h hb
theorem OwnC.nil (w : World) (base : Nat) : OwnC w base (.slice none 0 0) [] := ⟨rfl, .inl ⟨rfl, rfl⟩⟩
theorem OwnC.isRow {w : World} {base : Nat} {v : Value} {l : List (BitVec 256)} (h : OwnC w base v l) : IsRow l v w := by
 rcases h.cases with ⟨hv, hl⟩ | ⟨g, cap, hv, _, hr⟩
 ·subst hl; exact ⟨none, 0, hv, LRow.nil _ _⟩
 ·refine ⟨_, cap, hv, hr.lrow ?_⟩
  apply List.ext_getElem
  ·simp
  ·intro i h1 h2; simp [h2]
theorem infoCls : (Try.prog.info? 35).map (fun i => (i.zero, i.size, i.bytes)) = some (some (.agg #[.int .u64 0, .int .u64 0, .int .u64 0, .int .u64 0]), 4, 32) := by kernel_rfl
section
variable {base g : Nat} {l cur : List (BitVec 256)} {a : BitVec 256} {w0 : World} {k : Nat} {v : Value} {w w' : World}
end
def bytesV (l : List Nat) : List Value := l.map fun c : Nat => Value.int .u8 (c : Int)
theorem bytesV_snoc (l : List Nat) (c : Nat) : bytesV (l ++ [c]) = bytesV l ++ [.int .u8 (c : Int)] := by simp [bytesV]
def Own8 (w : World) (base : Nat) (v : Value) (l : List Nat) : Prop := w.ownsRow base 5 1 v l.length (bytesV l)
theorem Own8.later {w w' : World} {base : Nat} {v : Value} {l : List Nat} (h : Own8 w base v l) (hb : Below w.heap.size w w') : Own8 w' base v l := ownsRow_later h hb
theorem infoU8 : (Try.prog.info? 5).map (fun i => (i.zero, i.size, i.bytes)) = some (some (.int .u8 0), 1, 1) := by kernel_rfl
theorem wp_append_u8 {w : World} {o : Oper} {a : Act} {K : Act -> World -> Prop} {Q : Exit -> Act -> World -> Prop} (s x : Operand)
 (ho : o.op = .call { callee := .builtin .append, args := #[s, x], argTypes := #[48, 48] })
 (base : Nat) (v : Value) (l : List Nat) (hs : a.eval s = v) (hown : Own8 w base v l)
 (b : Nat) (c : Nat) (hx : a.eval x = .slice (some ⟨b, 0, none⟩) 1 1) (hnew : Blk w b #[.int .u8 (c : Int)] 5) (hlen : l.length < 1073741824) (hbase : base <= w.heap.size)
 (h : ∀ v' w', Own8 w' base v' (l ++ [c]) -> (∀ B, B <= base -> Below B w w') -> K (a.put o.dst v') w') : o.wp Try.prog a w K Q := by
 obtain ⟨ib, hib, hz0, hz1, hz2⟩ := info_parts infoU8
 have hnews : ∀ (j : Nat) (u : Value), [Value.int .u8 (c : Int)][j]? = some u -> w.cell? ((⟨b, 0, none⟩ : Addr).add j) = some u := by
  intro j u hu
  cases j with
  | zero => simp at hu; subst hu; exact hnew.cell 0
  | succ j => simp at hu
 refine wp_append_own w s x 48 ho base 5 ib _ 1 1 Try.underlying48 hib hz0 hz1 hz2 rfl (by decide) v l.length (bytesV l) hs hown ⟨b, 0, none⟩ 1 1 [.int .u8 (c : Int)] hx rfl hnews (by simp [Value.oneCell']) (by unfold maxLen; omega) (by omega) hbase ?_
 intro v' w' h1 h2 _
 refine h v' w' (by unfold Own8; rw [List.length_append, bytesV_snoc]; exact h1) fun B hB => ?_
 exact (Below.refl B w).grown h2 (Nat.le_trans hB hbase) fun k hk => Nat.le_trans hB ((World.ownsRow.lt hown k hk).1)
theorem wpList_append_u8 {w : World} {ops : Array Oper} {rest : List Oper} {o : Oper} {a : Act} {Q : Exit -> Act -> World -> Prop} (hgd : o.guard = none) (s x : Operand)
 (ho : o.op = .call { callee := .builtin .append, args := #[s, x], argTypes := #[48, 48] })
 (base : Nat) (v : Value) (l : List Nat) (hs : a.eval s = v) (hown : Own8 w base v l)
 (b : Nat) (c : Nat) (hx : a.eval x = .slice (some ⟨b, 0, none⟩) 1 1) (hnew : Blk w b #[.int .u8 (c : Int)] 5) (hlen : l.length < 1073741824) (hbase : base <= w.heap.size)
 (h : ∀ v' w', Own8 w' base v' (l ++ [c]) -> (∀ B, B <= base -> Below B w w') -> wpList Try.prog ops Q rest (a.put o.dst v') w') : wpList Try.prog ops Q (o :: rest) a w :=
 wpList_plain hgd fun K hK => wp_append_u8 s x ho base v l hs hown b c hx hnew hlen hbase fun v' w' h1 h2 => hK _ _ (h v' w' h1 h2)
set_option linter.unusedSimpArgs false
def nats (W : List UInt8) : List Nat := W.map UInt8.toNat
theorem nats_length (W : List UInt8) : (nats W).length = W.length := List.length_map _
theorem nats_append (W V : List UInt8) : nats (W ++ V) = nats W ++ nats V := List.map_append
def IsW (W : List UInt8) (v : Value) (w : World) : Prop := (v = .slice none 0 0 /\ W = []) \/ ∃ b off cap, v = .slice (some ⟨b, off, none⟩) W.length cap /\ W.length <= cap /\ W.length <= 1073741824 /\ b < w.heap.size /\ ∀ i, i < W.length -> w.cell? ⟨b, off + i, none⟩ = some (.int .u8 (((W.getD i 0).toNat : Nat) : Int))
theorem IsW.later {W : List UInt8} {v : Value} {w w' : World} (h : IsW W v w) (hb : Below w.heap.size w w') : IsW W v w' := by
 rcases h with h | ⟨b, off, cap, h1, h2, h5, h3, h4⟩
 ·exact .inl h
 ·exact .inr ⟨b, off, cap, h1, h2, h5, Nat.lt_of_lt_of_le h3 hb.size, fun i hi => (hb.cell (p := ⟨b, off + i, none⟩) h3).trans (h4 i hi)⟩
theorem IsW.len {W : List UInt8} {v : Value} {w : World} (h : IsW W v w) : ∃ A cap, v = .slice A W.length cap /\ W.length <= cap := by
 rcases h with ⟨rfl, rfl⟩ | ⟨b, off, cap, rfl, h2, -⟩
 ·exact ⟨none, 0, rfl, Nat.le_refl _⟩
 ·exact ⟨_, cap, rfl, h2⟩
theorem own_isW {w : World} {base : Nat} {v : Value} {W : List UInt8} (h : Own8 w base v (nats W)) (hm : W.length <= 1073741824) : IsW W v w := by
 obtain ⟨_, ⟨hv, hn⟩ | ⟨g, cap, cur, hv, hb, hg, hc, hm2, hs, ht⟩⟩ := h
 ·rw [nats_length] at hn
  exact .inl ⟨hv, List.length_eq_zero_iff.1 hn⟩
 ·rw [nats_length] at hv hc ht
  refine .inr ⟨g, 0, cap, hv, hc, hm, Blk.lt (w := w) (b := g) (vs := cur) (t := 5) hg, fun i hi => ?_⟩
  rw [Blk.cell (w := w) (b := g) (vs := cur) (t := 5) hg]
  have : (bytesV (nats W))[i]? = some (.int .u8 (((W.getD i 0).toNat : Nat) : Int)) := by unfold bytesV nats; simp [hi]
  rw [<- this, <- ht, List.getElem?_take, if_pos (by omega)]
  simp
end Go.Proofs.Ytidoofdofdhjpaa
