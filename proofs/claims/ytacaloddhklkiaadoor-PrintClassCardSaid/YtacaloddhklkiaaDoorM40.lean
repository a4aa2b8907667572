/- A map whose keys are runes: what a look-up finds, what a new key leaves. -/
import Derived.Test.YtacaloddhklkiaaDoorM07
import Derived.Test.YtacaloddhklkiaaDoorM03
import Derived.Test.YtacaloddhklkiaaDoorM13
import Derived.Test.YtacaloddhklkiaaDoorProg
import Derived.WalkKit
import Derived.Carry
import Derived.Below
import Derived.Laws.EntriesVeiled
import Derived.Deep.RegionHeld3
namespace Go.Proofs.YtacaloddhklkiaaDoor
open Go Go.RowKit
set_option linter.unusedVariables false
set_option linter.unusedSimpArgs false

def mapEs : List (Int × Value) → Nat → List MapEntry
  | [], _ => []
  | p :: l, i => { key := .int .i32 p.1, val := p.2, born := i } :: mapEs l (i + 1)
theorem mapEs_append : ∀ (l : List (Int × Value)) (k : Int) (v : Value) (i : Nat), mapEs (l ++ [(k, v)]) i = mapEs l i ++ [{ key := .int .i32 k, val := v, born := i + l.length }]
  | [], k, v, i => rfl
  | p :: l, k, v, i => by
    show _ :: mapEs (l ++ [(k, v)]) (i + 1) = _
    rw [mapEs_append l k v (i + 1)]
    simp [mapEs]; omega
/-- What a map holds, in the order in which it was put in. -/
def IsMap (w : World) (m : Nat) (l : List (Int × Value)) : Prop := w.heap[m]? = some (.map (mapEs l 0).toArray l.length)
theorem IsMap.lt {w : World} {m : Nat} {l : List (Int × Value)} (h : IsMap w m l) : m < w.heap.size := (Array.getElem?_eq_some_iff.1 h).1
theorem IsMap.later {w w' : World} {m : Nat} {l : List (Int × Value)} (h : IsMap w m l) (hb : Below w.heap.size w w') : IsMap w' m l := (hb.block m h.lt).trans h
/-- The world with a map's block turned. -/
def putMap (w : World) (m : Nat) (l : List (Int × Value)) : World := { w with heap := w.heap.setIfInBounds m (.map (mapEs l 0).toArray l.length) }
theorem putMap_is {w : World} {m : Nat} (h : m < w.heap.size) (l' : List (Int × Value)) : IsMap (putMap w m l') m l' := by
  unfold IsMap putMap; simp [h]
theorem putMap_other {w : World} {m b : Nat} (hb : b ≠ m) (l : List (Int × Value)) : (putMap w m l).heap[b]? = w.heap[b]? := by
  unfold putMap; simp [Ne.symm hb]
theorem putMap_size (w : World) (m : Nat) (l : List (Int × Value)) : (putMap w m l).heap.size = w.heap.size := by simp [putMap]
theorem putMap_below {B : Nat} {a w : World} {m : Nat} (h : Below B a w) (hm : B ≤ m) (l : List (Int × Value)) : Below B a (putMap w m l) :=
  h.trans ⟨rfl, rfl, rfl, by rw [putMap_size]; exact Nat.le_refl _, fun i hi => putMap_other (by omega) l⟩
/-- What a look-up finds. -/
def findE : List (Int × Value) → Int → Nat → Option (Nat × Value)
  | [], _, _ => none
  | p :: l, k, i => if p.1 = k then some (i, p.2) else findE l k (i + 1)
theorem findNow_mapEs (k : Int) : ∀ (l : List (Int × Value)) (i : Nat), Instr.findNow (.int .i32) (.int .i32 k) (mapEs l i) i = some (findE l k i)
  | [], i => rfl
  | p :: l, i => by
    unfold mapEs Instr.findNow findE
    simp only [Instr.sameNow, if_true]
    by_cases h : p.1 = k
    · have : (k == p.1) = true := by rw [beq_iff_eq]; exact h.symm
      rw [this, if_pos h]
    · have : (k == p.1) = false := by rw [beq_eq_false_iff_ne]; exact fun e => h e.symm
      rw [this, if_neg h]
      exact findNow_mapEs k l (i + 1)
theorem keys_free {e : Bool} {k : Int} (w : World) : (Instr.checkKey e 10000 21 (.int .i32 k)).run Tryd.prog w = .ok () w := by
  rw [show (10000 : Nat) = 9999 + 1 from rfl]
  unfold Instr.checkKey
  simp [run_underlying Tryd.underlying21, Result.andThen]
end Go.Proofs.YtacaloddhklkiaaDoor
/- What a byte begins: the table of beginnings, walked. -/
namespace Go.Proofs.YtacaloddhklkiaaDoor
open Go Go.RowKit
set_option linter.unusedVariables false

def kTok (k : Nat) : Array Value := #[.int .i64 (k : Int), .int .i64 0, .int .u64 0, .int .u64 0, .int .u64 0, .int .u64 0, .string ⟨#[]⟩, .int .i64 0, .int .i64 0]
def dotTok : Array Value := #[.int .i64 1, .int .i64 0, .int .u64 (wd (rowB 0 255) 0), .int .u64 (wd (rowB 0 255) 1), .int .u64 (wd (rowB 0 255) 2), .int .u64 (wd (rowB 0 255) 3), .string ⟨#[]⟩, .int .i64 0, .int .i64 0]
/-- The map as it grows, and the boxes so far. -/
structure Grw (w0 : World) (m : Nat) (l : List (Int × Value)) (bs : List (Nat × Array Value)) (w : World) : Prop where
  bel : Below w0.heap.size w0 w
  low : w0.heap.size ≤ m
  map : IsMap w m l
  box : ∀ p ∈ bs, Blk w p.1 p.2 38
theorem Grw.later {w0 : World} {m : Nat} {l : List (Int × Value)} {bs : List (Nat × Array Value)} {w w' : World} (h : Grw w0 m l bs w) (hb : Below w.heap.size w w') : Grw w0 m l bs w' :=
  ⟨h.bel.trans (hb.mono h.bel.size), h.low, h.map.later hb, fun p hp => (h.box p hp).later hb⟩
theorem Grw.put {w0 : World} {m : Nat} {l : List (Int × Value)} {bs : List (Nat × Array Value)} {w : World} (h : Grw w0 m l bs w) (l' : List (Int × Value)) : Grw w0 m l' bs (putMap w m l') :=
  ⟨putMap_below h.bel h.low l', h.low, putMap_is h.map.lt l', fun p hp => by
    have hne : p.1 ≠ m := fun e => by
      have h1 := h.box p hp
      have h2 := h.map
      unfold Blk at h1; unfold IsMap at h2
      rw [e, h2] at h1; cases h1
    exact (putMap_other hne l').trans (h.box p hp)⟩
theorem Grw.add {w0 : World} {m : Nat} {l : List (Int × Value)} {bs : List (Nat × Array Value)} {w : World} (h : Grw w0 m l bs w) {b : Nat} {cs : Array Value} (hk : Blk w b cs 38) : Grw w0 m l ((b, cs) :: bs) w :=
  ⟨h.bel, h.low, h.map, fun p hp => by rcases List.mem_cons.1 hp with rfl | hp; exact hk; exact h.box p hp⟩

end Go.Proofs.YtacaloddhklkiaaDoor
/- One token, or its fault: walked. -/
namespace Go.Proofs.YtacaloddhklkiaaDoor
open Go Go.RowKit
set_option linter.unusedVariables false

def oneR : One → Value
  | .tok t n => .tuple #[.agg (tokC t), .int .i64 ((n : Int) + 1), .int .i64 0]
  | .bad e => .tuple #[.agg z9, .int .i64 0, .int .i64 (e : Int)]
theorem box_cells {w : World} {b : Nat} {t : TypeId} {x y z : Value} (h : Blk w b #[x, y, z] t) : w.cell? ⟨b, 0, none⟩ = some x ∧ w.cell? ⟨b, 1, none⟩ = some y ∧ w.cell? ⟨b, 2, none⟩ = some z := ⟨h.cell 0, h.cell 1, h.cell 2⟩

end Go.Proofs.YtacaloddhklkiaaDoor
/- A token of one byte: walked. -/
namespace Go.Proofs.YtacaloddhklkiaaDoor
open Go Go.RowKit
set_option linter.unusedVariables false

end Go.Proofs.YtacaloddhklkiaaDoor
