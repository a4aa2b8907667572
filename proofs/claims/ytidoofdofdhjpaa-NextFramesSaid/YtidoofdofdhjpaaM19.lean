/- A map whose keys are numbers: what a look-up finds, what a new key leaves. -/
import Derived.Test.YtidoofdofdhjpaaM18
import Derived.Test.YtidoofdofdhjpaaM17
import Derived.Test.YtidoofdofdhjpaaProg
import Derived.WalkKit
import Derived.Carry
import Derived.Below
import Derived.Laws.EntriesVeiled
namespace Go.Proofs.Ytidoofdofdhjpaa
open Go Go.RowKit
set_option linter.unusedVariables false
set_option linter.unusedSimpArgs false
def mapEsK : List (Int × Value) -> Nat -> List MapEntry
 | [], _ => []
 | p :: l, i => { key := .int .i64 p.1, val := p.2, born := i } :: mapEsK l (i + 1)
theorem mapEsK_append : ∀ (l : List (Int × Value)) (k : Int) (v : Value) (i : Nat), mapEsK (l ++ [(k, v)]) i = mapEsK l i ++ [{ key := .int .i64 k, val := v, born := i + l.length }]
 | [], k, v, i => rfl
 | p :: l, k, v, i => by
  show _ :: mapEsK (l ++ [(k, v)]) (i + 1) = _
  rw [mapEsK_append l k v (i + 1)]
  simp [mapEsK]; omega
def IsMapK (w : World) (m : Nat) (l : List (Int × Value)) : Prop := w.heap[m]? = some (.map (mapEsK l 0).toArray l.length)
theorem IsMapK.lt {w : World} {m : Nat} {l : List (Int × Value)} (h : IsMapK w m l) : m < w.heap.size := (Array.getElem?_eq_some_iff.1 h).1
theorem IsMapK.later {w w' : World} {m : Nat} {l : List (Int × Value)} (h : IsMapK w m l) (hb : Below w.heap.size w w') : IsMapK w' m l := (hb.block m h.lt).trans h
def putMapK (w : World) (m : Nat) (l : List (Int × Value)) : World := { w with heap := w.heap.setIfInBounds m (.map (mapEsK l 0).toArray l.length) }
theorem putMapK_is {w : World} {m : Nat} (h : m < w.heap.size) (l' : List (Int × Value)) : IsMapK (putMapK w m l') m l' := by
 unfold IsMapK putMapK; simp [h]
theorem putMapK_other {w : World} {m b : Nat} (hb : b ≠ m) (l : List (Int × Value)) : (putMapK w m l).heap[b]? = w.heap[b]? := by
 unfold putMapK; simp [Ne.symm hb]
theorem putMapK_size (w : World) (m : Nat) (l : List (Int × Value)) : (putMapK w m l).heap.size = w.heap.size := by simp [putMapK]
theorem putMapK_below {B : Nat} {a w : World} {m : Nat} (h : Below B a w) (hm : B <= m) (l : List (Int × Value)) : Below B a (putMapK w m l) :=
 h.trans ⟨rfl, rfl, rfl, by rw [putMapK_size]; exact Nat.le_refl _, fun i hi => putMapK_other (by omega) l⟩
def findEK : List (Int × Value) -> Int -> Nat -> Option (Nat × Value)
 | [], _, _ => none
 | p :: l, k, i => if p.1 = k then some (i, p.2) else findEK l k (i + 1)
theorem findNow_mapEsK (k : Int) : ∀ (l : List (Int × Value)) (i : Nat), Instr.findNow (.int .i64) (.int .i64 k) (mapEsK l i) i = some (findEK l k i)
 | [], i => rfl
 | p :: l, i => by
  unfold mapEsK Instr.findNow findEK
  simp only [Instr.sameNow, if_true]
  by_cases h : p.1 = k
  ·have : (k == p.1) = true := by rw [beq_iff_eq]; exact h.symm
   rw [this, if_pos h]
  ·have : (k == p.1) = false := by rw [beq_eq_false_iff_ne]; exact fun e => h e.symm
   rw [this, if_neg h]
   exact findNow_mapEsK k l (i + 1)
theorem keysK_free {e : Bool} {k : Int} (w : World) : (Instr.checkKey e 10000 3 (.int .i64 k)).run Try.prog w = .ok () w := by
 rw [show (10000 : Nat) = 9999 + 1 from rfl]
 unfold Instr.checkKey
 simp [run_underlying Try.underlying3, Result.andThen]
set_option maxRecDepth 100000
end Go.Proofs.Ytidoofdofdhjpaa
namespace Go.Proofs.Ytidoofdofdhjpaa
open Go Go.RowKit
set_option linter.unusedVariables false
set_option linter.unusedSimpArgs false
theorem okN.kind9 {l : List Nd} {i : Nat} {n : Nd} (h : okN l i n) : n.kind <= 9 := by
 obtain ⟨_, h⟩ := h; omega
def OwnB (base : Nat) (l : List Nd) (v : Value) (w : World) : Prop := OwnN w base v l /\ base <= w.heap.size
theorem OwnB.later (base : Nat) (l : List Nd) (v : Value) (w w' : World) (h : OwnB base l v w) (hb : Below w.heap.size w w') : OwnB base l v w' := ⟨h.1.later hb, Nat.le_trans h.2 hb.size⟩
def New10 (n : Nd) (v : Value) (w : World) : Prop := ∃ b, v = .slice (some ⟨b, 0, none⟩) 1 1 /\ Blk w b (ndC n) 58
theorem New10.later (n : Nd) (v : Value) (w w' : World) (h : New10 n v w) (hb : Below w.heap.size w w') : New10 n v w' := by obtain ⟨b, h1, h2⟩ := h; exact ⟨b, h1, h2.later hb⟩
theorem OwnN.base {w : World} {b b' : Nat} {v : Value} {l : List Nd} (h : OwnN w b v l) (hb : b' <= b) : OwnN w b' v l := by
 obtain ⟨h0, ⟨hv, hn⟩ | ⟨g, cap, cur, hv, hg, hr⟩⟩ := h
 ·exact ⟨h0, .inl ⟨hv, hn⟩⟩
 ·exact ⟨h0, .inr ⟨g, cap, cur, hv, Nat.le_trans hb hg, hr⟩⟩
end Go.Proofs.Ytidoofdofdhjpaa
