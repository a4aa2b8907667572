/- A map whose keys are runes: what a look-up finds, what a new key leaves. -/
import Derived.Test.YtgehepiphdphjaaDoorProg
import Derived.WalkKit
import Derived.Carry
import Derived.Below
namespace Go.Proofs.YtgehepiphdphjaaDoor
open Go Go.RowKit
set_option linter.unusedVariables false
set_option linter.unusedSimpArgs false

def mapEs : List (Int × Value) → Nat → List MapEntry
  | [], _ => []
  | p :: l, i => { key := .int .i32 p.1, val := p.2, born := i } :: mapEs l (i + 1)
theorem mapEs_append : ∀ (l : List (Int × Value)) (k : Int) (v : Value) (i : Nat), mapEs (l ++ [(k, v)]) i = mapEs l i ++ [{ key := .int .i32 k, val := v, born := i + l.length }]
  | [], k, v, i => rfl
  | p :: l, k, v, i => by
    show _ :: mapEs (l ++ [(k, v)]) (i + 1) = _
    rw [mapEs_append l k v (i + 1)]
    simp [mapEs]; omega
/-- What a map holds, in the order in which it was put in. -/
def IsMap (w : World) (m : Nat) (l : List (Int × Value)) : Prop := w.heap[m]? = some (.map (mapEs l 0).toArray l.length)
theorem IsMap.lt {w : World} {m : Nat} {l : List (Int × Value)} (h : IsMap w m l) : m < w.heap.size := (Array.getElem?_eq_some_iff.1 h).1
theorem IsMap.later {w w' : World} {m : Nat} {l : List (Int × Value)} (h : IsMap w m l) (hb : Below w.heap.size w w') : IsMap w' m l := (hb.block m h.lt).trans h
/-- The world with a map's block turned. -/
def putMap (w : World) (m : Nat) (l : List (Int × Value)) : World := { w with heap := w.heap.setIfInBounds m (.map (mapEs l 0).toArray l.length) }
theorem putMap_is {w : World} {m : Nat} (h : m < w.heap.size) (l' : List (Int × Value)) : IsMap (putMap w m l') m l' := by
  unfold IsMap putMap; simp [h]
theorem putMap_other {w : World} {m b : Nat} (hb : b ≠ m) (l : List (Int × Value)) : (putMap w m l).heap[b]? = w.heap[b]? := by
  unfold putMap; simp [Ne.symm hb]
theorem putMap_size (w : World) (m : Nat) (l : List (Int × Value)) : (putMap w m l).heap.size = w.heap.size := by simp [putMap]
theorem putMap_below {B : Nat} {a w : World} {m : Nat} (h : Below B a w) (hm : B ≤ m) (l : List (Int × Value)) : Below B a (putMap w m l) :=
  h.trans ⟨rfl, rfl, rfl, by rw [putMap_size]; exact Nat.le_refl _, fun i hi => putMap_other (by omega) l⟩
/-- What a look-up finds. -/
def findE : List (Int × Value) → Int → Nat → Option (Nat × Value)
  | [], _, _ => none
  | p :: l, k, i => if p.1 = k then some (i, p.2) else findE l k (i + 1)
theorem findNow_mapEs (k : Int) : ∀ (l : List (Int × Value)) (i : Nat), Instr.findNow (.int .i32) (.int .i32 k) (mapEs l i) i = some (findE l k i)
  | [], i => rfl
  | p :: l, i => by
    unfold mapEs Instr.findNow findE
    simp only [Instr.sameNow, if_true]
    by_cases h : p.1 = k
    · have : (k == p.1) = true := by rw [beq_iff_eq]; exact h.symm
      rw [this, if_pos h]
    · have : (k == p.1) = false := by rw [beq_eq_false_iff_ne]; exact fun e => h e.symm
      rw [this, if_neg h]
      exact findNow_mapEs k l (i + 1)
theorem keys_free {e : Bool} {k : Int} (w : World) : (Instr.checkKey e 10000 21 (.int .i32 k)).run Tryd.prog w = .ok () w := by
  rw [show (10000 : Nat) = 9999 + 1 from rfl]
  unfold Instr.checkKey
  simp [run_underlying Tryd.underlying21, Result.andThen]
theorem run_lookup_rune (w : World) (m : Nat) (l : List (Int × Value)) (k : Int) (hm : IsMap w m l) :
    (Instr.lookup 72 (.map (some m)) (.int .i32 k) true).run Tryd.prog w = .ok (match findE l k 0 with | some (_, v) => .tuple #[v, .bool true] | none => .tuple #[.agg #[.string ⟨#[]⟩, .int .i64 0, .nilFunc], .bool false]) w := by
  unfold IsMap at hm
  have hf := findNow_mapEs k l 0
  have hz := Tryd.zeroValue76
  simp only [Instr.lookup, Sem.run_bind, run_underlying Tryd.underlying72, Result.andThen, getObj, Sem.run, hm, keys_free, Instr.findKey, run_underlying Tryd.underlying21, hf]
  rw [show (Sem.run Tryd.prog (pure (mapEs l 0).toArray) w) = .ok (mapEs l 0).toArray w from rfl]
  simp only [hf]
  cases h : findE l k 0 with
  | none => simp [Sem.run_bind, hz, Result.andThen]
  | some p => obtain ⟨i, v⟩ := p; rfl
theorem run_update_rune (w : World) (m : Nat) (l : List (Int × Value)) (k : Int) (v : Value) (hm : IsMap w m l) (hk : findE l k 0 = none) :
    (Instr.mapUpdate 72 (.map (some m)) (.int .i32 k) v).run Tryd.prog w = .ok () (putMap w m (l ++ [(k, v)])) := by
  have hlt := hm.lt
  unfold IsMap at hm
  have hf := findNow_mapEs k l 0
  rw [hk] at hf
  simp only [Instr.mapUpdate, Sem.run_bind, run_underlying Tryd.underlying72, Result.andThen, getObj, Sem.run, hm, keys_free, Instr.findKey, run_underlying Tryd.underlying21, hf]
  simp only [setObj, Sem.run, hm]
  unfold putMap
  rw [mapEs_append]
  simp [Sem.run, hm]
end Go.Proofs.YtgehepiphdphjaaDoor
