/- A map whose keys are numbers: what a look-up finds, what a new key leaves. -/
import Derived.Test.YtpbadglfegcdjaaGreatDoorM21
import Derived.Test.YtpbadglfegcdjaaGreatDoorM16
import Derived.Test.YtpbadglfegcdjaaGreatDoorProg
import Derived.WalkKit
import Derived.Carry
import Derived.Below
import Derived.Laws.EntriesVeiled
namespace Go.Proofs.YtpbadglfegcdjaaGreatDoor
open Go Go.RowKit
set_option linter.unusedVariables false
set_option linter.unusedSimpArgs false

def mapEsK : List (Int × Value) → Nat → List MapEntry
  | [], _ => []
  | p :: l, i => { key := .int .i64 p.1, val := p.2, born := i } :: mapEsK l (i + 1)
theorem mapEsK_append : ∀ (l : List (Int × Value)) (k : Int) (v : Value) (i : Nat), mapEsK (l ++ [(k, v)]) i = mapEsK l i ++ [{ key := .int .i64 k, val := v, born := i + l.length }]
  | [], k, v, i => rfl
  | p :: l, k, v, i => by
    show _ :: mapEsK (l ++ [(k, v)]) (i + 1) = _
    rw [mapEsK_append l k v (i + 1)]
    simp [mapEsK]; omega
/-- What a map holds, in the order in which it was put in. -/
def IsMapK (w : World) (m : Nat) (l : List (Int × Value)) : Prop := w.heap[m]? = some (.map (mapEsK l 0).toArray l.length)
theorem IsMapK.lt {w : World} {m : Nat} {l : List (Int × Value)} (h : IsMapK w m l) : m < w.heap.size := (Array.getElem?_eq_some_iff.1 h).1
theorem IsMapK.later {w w' : World} {m : Nat} {l : List (Int × Value)} (h : IsMapK w m l) (hb : Below w.heap.size w w') : IsMapK w' m l := (hb.block m h.lt).trans h
/-- The world with a map's block turned. -/
def putMapK (w : World) (m : Nat) (l : List (Int × Value)) : World := { w with heap := w.heap.setIfInBounds m (.map (mapEsK l 0).toArray l.length) }
theorem putMapK_is {w : World} {m : Nat} (h : m < w.heap.size) (l' : List (Int × Value)) : IsMapK (putMapK w m l') m l' := by
  unfold IsMapK putMapK; simp [h]
theorem putMapK_other {w : World} {m b : Nat} (hb : b ≠ m) (l : List (Int × Value)) : (putMapK w m l).heap[b]? = w.heap[b]? := by
  unfold putMapK; simp [Ne.symm hb]
theorem putMapK_size (w : World) (m : Nat) (l : List (Int × Value)) : (putMapK w m l).heap.size = w.heap.size := by simp [putMapK]
theorem putMapK_below {B : Nat} {a w : World} {m : Nat} (h : Below B a w) (hm : B ≤ m) (l : List (Int × Value)) : Below B a (putMapK w m l) :=
  h.trans ⟨rfl, rfl, rfl, by rw [putMapK_size]; exact Nat.le_refl _, fun i hi => putMapK_other (by omega) l⟩
/-- What a look-up finds. -/
def findEK : List (Int × Value) → Int → Nat → Option (Nat × Value)
  | [], _, _ => none
  | p :: l, k, i => if p.1 = k then some (i, p.2) else findEK l k (i + 1)
theorem findNow_mapEsK (k : Int) : ∀ (l : List (Int × Value)) (i : Nat), Instr.findNow (.int .i64) (.int .i64 k) (mapEsK l i) i = some (findEK l k i)
  | [], i => rfl
  | p :: l, i => by
    unfold mapEsK Instr.findNow findEK
    simp only [Instr.sameNow, if_true]
    by_cases h : p.1 = k
    · have : (k == p.1) = true := by rw [beq_iff_eq]; exact h.symm
      rw [this, if_pos h]
    · have : (k == p.1) = false := by rw [beq_eq_false_iff_ne]; exact fun e => h e.symm
      rw [this, if_neg h]
      exact findNow_mapEsK k l (i + 1)
theorem keysK_free {e : Bool} {k : Int} (w : World) : (Instr.checkKey e 10000 3 (.int .i64 k)).run Tryz.prog w = .ok () w := by
  rw [show (10000 : Nat) = 9999 + 1 from rfl]
  unfold Instr.checkKey
  simp [run_underlying Tryz.underlying3, Result.andThen]
theorem run_lookup_int (w : World) (m : Nat) (l : List (Int × Value)) (k : Int) (hm : IsMapK w m l) :
    (Instr.lookup 87 (.map (some m)) (.int .i64 k) true).run Tryz.prog w = .ok (match findEK l k 0 with | some (_, v) => .tuple #[v, .bool true] | none => .tuple #[.agg #[.int .i64 0, .nilFunc], .bool false]) w := by
  unfold IsMapK at hm
  have hf := findNow_mapEsK k l 0
  have hz := Tryz.zeroValue95
  simp only [Instr.lookup, Sem.run_bind, run_underlying Tryz.underlying87, Result.andThen, getObj, Sem.run, hm, keysK_free, Instr.findKey, run_underlying Tryz.underlying3, hf]
  rw [show (Sem.run Tryz.prog (pure (mapEsK l 0).toArray) w) = .ok (mapEsK l 0).toArray w from rfl]
  simp only [hf]
  cases h : findEK l k 0 with
  | none => simp [Sem.run_bind, hz, Result.andThen]
  | some p => obtain ⟨i, v⟩ := p; rfl
theorem run_update_int (w : World) (m : Nat) (l : List (Int × Value)) (k : Int) (v : Value) (hm : IsMapK w m l) (hk : findEK l k 0 = none) :
    (Instr.mapUpdate 87 (.map (some m)) (.int .i64 k) v).run Tryz.prog w = .ok () (putMapK w m (l ++ [(k, v)])) := by
  have hlt := hm.lt
  unfold IsMapK at hm
  have hf := findNow_mapEsK k l 0
  rw [hk] at hf
  simp only [Instr.mapUpdate, Sem.run_bind, run_underlying Tryz.underlying87, Result.andThen, getObj, Sem.run, hm, keysK_free, Instr.findKey, run_underlying Tryz.underlying3, hf]
  simp only [setObj, Sem.run, hm]
  unfold putMapK
  rw [mapEsK_append]
  simp [Sem.run, hm]
end Go.Proofs.YtpbadglfegcdjaaGreatDoor
/- The table of kinds: walked. -/
namespace Go.Proofs.YtpbadglfegcdjaaGreatDoor
open Go Go.RowKit
set_option linter.unusedVariables false
set_option linter.unusedSimpArgs false
set_option maxRecDepth 100000

def kV (l : Int) (f : FuncId) : Value := .agg #[.int .i64 l, .func (.func f) #[] #[]]
def fV (b : Nat) : Value := .agg #[.int .i64 3, frV b]
def kL7 : List (Int × Value) := [(1, kV 3 61), (2, kV 3 62), (3, kV 3 64), (4, kV 1 65), (5, kV 0 66), (6, kV 2 67), (7, kV 2 68)]
def kL9 (b8 b9 : Nat) : List (Int × Value) := kL7 ++ [(8, fV b8), (9, fV b9)]
/-- The table of kinds. -/
def KnM (m : Nat) (w : World) : Prop := ∃ b8 b9, IsMapK w m (kL9 b8 b9) ∧ Blk w b8 #[.string (bs [98])] 9 ∧ Blk w b9 #[.string (bs [119])] 9
theorem blk_put {w : World} {m b : Nat} {vs : Array Value} {t : TypeId} {l l' : List (Int × Value)} (hm : IsMapK w m l) (h : Blk w b vs t) : Blk (putMapK w m l') b vs t := by
  have hne : b ≠ m := fun e => by
    unfold Blk at h; unfold IsMapK at hm
    rw [e, hm] at h; cases h
  exact (putMapK_other hne l').trans h
theorem put_step {w0 w : World} {m : Nat} {l l' : List (Int × Value)} (hb : Below w0.heap.size w0 w) (hlow : w0.heap.size ≤ m) (hm : IsMapK w m l) : Below w0.heap.size w0 (putMapK w m l') ∧ IsMapK (putMapK w m l') m l' := ⟨putMapK_below hb hlow l', putMapK_is hm.lt l'⟩
set_option maxHeartbeats 16000000 in
theorem kinds_any (w : World) : Calls Tryz.prog 40 #[] w (fun e w' => ∃ m, e = .returned (.map (some m)) ∧ KnM m w' ∧ Below w.heap.size w w') := by
  have hmm := @run_makeMap Tryz.prog
  have HB0 : Hid (Below w.heap.size w (w.alloc (.map #[] 0))) := (Below.refl _ _).alloc (Nat.le_refl _) _
  have HM0 : Hid (IsMapK (w.alloc (.map #[] 0)) w.heap.size []) := by unfold Hid IsMapK mapEsK; show (w.heap.push _)[w.heap.size]? = _; simp
  have hlow : w.heap.size ≤ w.heap.size := Nat.le_refl _
  obtain ⟨w1, hw1⟩ : ∃ w1, w1 = putMapK (w.alloc (.map #[] 0)) w.heap.size [(1, kV 3 61)] := ⟨_, rfl⟩
  have hu1 : (Instr.mapUpdate 87 (.map (some w.heap.size)) (.int .i64 1) (.agg #[.int .i64 3, .func (.func 61) #[] #[]])).run Tryz.prog (w.alloc (.map #[] 0)) = .ok () w1 := by
    rw [hw1]; exact run_update_int (w.alloc (.map #[] 0)) w.heap.size [] 1 (kV 3 61) HM0.out rfl
  have HB1 : Hid (Below w.heap.size w w1) := by rw [hw1]; exact (put_step HB0.out hlow HM0.out).1
  have HM1 : Hid (IsMapK w1 w.heap.size [(1, kV 3 61)]) := by rw [hw1]; exact (put_step HB0.out hlow HM0.out).2
  clear hw1
  obtain ⟨w2, hw2⟩ : ∃ w2, w2 = putMapK w1 w.heap.size [(1, kV 3 61), (2, kV 3 62)] := ⟨_, rfl⟩
  have hu2 : (Instr.mapUpdate 87 (.map (some w.heap.size)) (.int .i64 2) (.agg #[.int .i64 3, .func (.func 62) #[] #[]])).run Tryz.prog w1 = .ok () w2 := by
    rw [hw2]; exact run_update_int w1 w.heap.size [(1, kV 3 61)] 2 (kV 3 62) HM1.out rfl
  have HB2 : Hid (Below w.heap.size w w2) := by rw [hw2]; exact (put_step HB1.out hlow HM1.out).1
  have HM2 : Hid (IsMapK w2 w.heap.size [(1, kV 3 61), (2, kV 3 62)]) := by rw [hw2]; exact (put_step HB1.out hlow HM1.out).2
  clear hw2
  obtain ⟨w3, hw3⟩ : ∃ w3, w3 = putMapK w2 w.heap.size [(1, kV 3 61), (2, kV 3 62), (3, kV 3 64)] := ⟨_, rfl⟩
  have hu3 : (Instr.mapUpdate 87 (.map (some w.heap.size)) (.int .i64 3) (.agg #[.int .i64 3, .func (.func 64) #[] #[]])).run Tryz.prog w2 = .ok () w3 := by
    rw [hw3]; exact run_update_int w2 w.heap.size [(1, kV 3 61), (2, kV 3 62)] 3 (kV 3 64) HM2.out rfl
  have HB3 : Hid (Below w.heap.size w w3) := by rw [hw3]; exact (put_step HB2.out hlow HM2.out).1
  have HM3 : Hid (IsMapK w3 w.heap.size [(1, kV 3 61), (2, kV 3 62), (3, kV 3 64)]) := by rw [hw3]; exact (put_step HB2.out hlow HM2.out).2
  clear hw3
  obtain ⟨w4, hw4⟩ : ∃ w4, w4 = putMapK w3 w.heap.size [(1, kV 3 61), (2, kV 3 62), (3, kV 3 64), (4, kV 1 65)] := ⟨_, rfl⟩
  have hu4 : (Instr.mapUpdate 87 (.map (some w.heap.size)) (.int .i64 4) (.agg #[.int .i64 1, .func (.func 65) #[] #[]])).run Tryz.prog w3 = .ok () w4 := by
    rw [hw4]; exact run_update_int w3 w.heap.size [(1, kV 3 61), (2, kV 3 62), (3, kV 3 64)] 4 (kV 1 65) HM3.out rfl
  have HB4 : Hid (Below w.heap.size w w4) := by rw [hw4]; exact (put_step HB3.out hlow HM3.out).1
  have HM4 : Hid (IsMapK w4 w.heap.size [(1, kV 3 61), (2, kV 3 62), (3, kV 3 64), (4, kV 1 65)]) := by rw [hw4]; exact (put_step HB3.out hlow HM3.out).2
  clear hw4
  obtain ⟨w5, hw5⟩ : ∃ w5, w5 = putMapK w4 w.heap.size [(1, kV 3 61), (2, kV 3 62), (3, kV 3 64), (4, kV 1 65), (5, kV 0 66)] := ⟨_, rfl⟩
  have hu5 : (Instr.mapUpdate 87 (.map (some w.heap.size)) (.int .i64 5) (.agg #[.int .i64 0, .func (.func 66) #[] #[]])).run Tryz.prog w4 = .ok () w5 := by
    rw [hw5]; exact run_update_int w4 w.heap.size [(1, kV 3 61), (2, kV 3 62), (3, kV 3 64), (4, kV 1 65)] 5 (kV 0 66) HM4.out rfl
  have HB5 : Hid (Below w.heap.size w w5) := by rw [hw5]; exact (put_step HB4.out hlow HM4.out).1
  have HM5 : Hid (IsMapK w5 w.heap.size [(1, kV 3 61), (2, kV 3 62), (3, kV 3 64), (4, kV 1 65), (5, kV 0 66)]) := by rw [hw5]; exact (put_step HB4.out hlow HM4.out).2
  clear hw5
  obtain ⟨w6, hw6⟩ : ∃ w6, w6 = putMapK w5 w.heap.size [(1, kV 3 61), (2, kV 3 62), (3, kV 3 64), (4, kV 1 65), (5, kV 0 66), (6, kV 2 67)] := ⟨_, rfl⟩
  have hu6 : (Instr.mapUpdate 87 (.map (some w.heap.size)) (.int .i64 6) (.agg #[.int .i64 2, .func (.func 67) #[] #[]])).run Tryz.prog w5 = .ok () w6 := by
    rw [hw6]; exact run_update_int w5 w.heap.size [(1, kV 3 61), (2, kV 3 62), (3, kV 3 64), (4, kV 1 65), (5, kV 0 66)] 6 (kV 2 67) HM5.out rfl
  have HB6 : Hid (Below w.heap.size w w6) := by rw [hw6]; exact (put_step HB5.out hlow HM5.out).1
  have HM6 : Hid (IsMapK w6 w.heap.size [(1, kV 3 61), (2, kV 3 62), (3, kV 3 64), (4, kV 1 65), (5, kV 0 66), (6, kV 2 67)]) := by rw [hw6]; exact (put_step HB5.out hlow HM5.out).2
  clear hw6
  obtain ⟨w7, hw7⟩ : ∃ w7, w7 = putMapK w6 w.heap.size [(1, kV 3 61), (2, kV 3 62), (3, kV 3 64), (4, kV 1 65), (5, kV 0 66), (6, kV 2 67), (7, kV 2 68)] := ⟨_, rfl⟩
  have hu7 : (Instr.mapUpdate 87 (.map (some w.heap.size)) (.int .i64 7) (.agg #[.int .i64 2, .func (.func 68) #[] #[]])).run Tryz.prog w6 = .ok () w7 := by
    rw [hw7]; exact run_update_int w6 w.heap.size [(1, kV 3 61), (2, kV 3 62), (3, kV 3 64), (4, kV 1 65), (5, kV 0 66), (6, kV 2 67)] 7 (kV 2 68) HM6.out rfl
  have HB7 : Hid (Below w.heap.size w w7) := by rw [hw7]; exact (put_step HB6.out hlow HM6.out).1
  have HM7 : Hid (IsMapK w7 w.heap.size [(1, kV 3 61), (2, kV 3 62), (3, kV 3 64), (4, kV 1 65), (5, kV 0 66), (6, kV 2 67), (7, kV 2 68)]) := by rw [hw7]; exact (put_step HB6.out hlow HM6.out).2
  clear hw7
  go_enter Tryz.func40, Tryz.ntmps40
  go_upto_region 1 with (fail)
  go_upto_region 2 with (fail)
  clear hu1 hu2 hu3 hu4 hu5 hu6 hu7 HB1 HB2 HB3 HB4 HB5 HB6 HM1 HM2 HM3 HM4 HM5 HM6 HB0 HM0 hmm
  go_wp2_with fail
  refine (framed_any _ _).mono ?_; rintro e w8 ⟨rfl, hk, hb⟩
  have HK8 : Hid (Blk w8 w7.heap.size #[.string (bs [98])] 9) := hk
  have HB8 := Lib.hid (HB7.out.trans (hb.mono HB7.out.size))
  have HM8 : Hid (IsMapK w8 w.heap.size kL7) := HM7.out.later hb
  clear hk hb HB7 HM7
  unfold frV
  generalize w7.heap.size = b8 at *
  obtain ⟨w9, hw9⟩ : ∃ w9, w9 = putMapK w8 w.heap.size (kL7 ++ [(8, fV b8)]) := ⟨_, rfl⟩
  have hu8 : (Instr.mapUpdate 87 (.map (some w.heap.size)) (.int .i64 8) (.agg #[.int .i64 3, .func (.func 87) #[] #[.pointer (some ⟨b8, 0, none⟩)]])).run Tryz.prog w8 = .ok () w9 := by
    rw [hw9]; exact run_update_int w8 w.heap.size kL7 8 (fV b8) HM8.out rfl
  have HB9 : Hid (Below w.heap.size w w9) := by rw [hw9]; exact (put_step HB8.out hlow HM8.out).1
  have HM9 : Hid (IsMapK w9 w.heap.size (kL7 ++ [(8, fV b8)])) := by rw [hw9]; exact (put_step HB8.out hlow HM8.out).2
  have HK9 : Hid (Blk w9 b8 #[.string (bs [98])] 9) := by rw [hw9]; exact blk_put HM8.out HK8.out
  clear hw9
  go_upto_region 4 with (fail)
  clear hu8 HB8 HM8 HK8
  go_wp2_with fail
  refine (framed_any _ _).mono ?_; rintro e wA ⟨rfl, hk, hb⟩
  have HKA : Hid (Blk wA w9.heap.size #[.string (bs [119])] 9) := hk
  have HKB := Lib.hid (HK9.out.later hb)
  have HBA := Lib.hid (HB9.out.trans (hb.mono HB9.out.size))
  have HMA : Hid (IsMapK wA w.heap.size (kL7 ++ [(8, fV b8)])) := HM9.out.later hb
  clear hk hb HB9 HM9 HK9
  unfold frV
  generalize w9.heap.size = b9 at *
  obtain ⟨wB, hwB⟩ : ∃ wB, wB = putMapK wA w.heap.size (kL9 b8 b9) := ⟨_, rfl⟩
  have hu9 : (Instr.mapUpdate 87 (.map (some w.heap.size)) (.int .i64 9) (.agg #[.int .i64 3, .func (.func 87) #[] #[.pointer (some ⟨b9, 0, none⟩)]])).run Tryz.prog wA = .ok () wB := by
    rw [hwB]; exact run_update_int wA w.heap.size (kL7 ++ [(8, fV b8)]) 9 (fV b9) HMA.out rfl
  have HBB : Hid (Below w.heap.size w wB) := by rw [hwB]; exact (put_step HBA.out hlow HMA.out).1
  have HMB : Hid (KnM w.heap.size wB) := by
    rw [hwB]; exact ⟨b8, b9, (put_step HBA.out hlow HMA.out).2, blk_put HMA.out HKB.out, blk_put HMA.out HKA.out⟩
  clear hwB HBA HMA HKB HKA
  go_wp2
  go_ret
  exact ⟨_, rfl, HMB.out, HBB.out⟩
end Go.Proofs.YtpbadglfegcdjaaGreatDoor
/- What each calls: a kind's pieces out of the table, the one who says. -/
namespace Go.Proofs.YtpbadglfegcdjaaGreatDoor
open Go Go.RowKit
set_option linter.unusedVariables false
set_option linter.unusedSimpArgs false
set_option maxRecDepth 100000

/-- The one who says keeps all but rows of bytes, numbers, builders. -/
def OthK (w w' : World) : Prop := ∀ (k : Nat) (o : Obj), w.heap[k]? = some o → (∀ c fz, o ≠ Obj.cells c 5 fz) → (∀ c fz, o ≠ Obj.cells c 3 fz) → (∀ c fz, o ≠ Obj.cells c 61 fz) → w'.heap[k]? = some o
/-- .. these are kept by the one who tells. -/
def MineK (w w' : World) : Prop := w.heap.size ≤ w'.heap.size ∧ ∀ (k : Nat) (c : Array Value) (t : TypeId) (fz : Nat × Nat), w.heap[k]? = some (Obj.cells c t fz) → (t = 5 ∨ t = 3 ∨ t = 61) → w'.heap[k]? = some (Obj.cells c t fz)
theorem MineK.of {w w' : World} (h : Below w.heap.size w w') : MineK w w' := ⟨h.size, fun k c t fz hk _ => (h.block k (Array.getElem?_eq_some_iff.1 hk).1).trans hk⟩
theorem MineK.trans {a b c : World} (h : MineK a b) (k : MineK b c) : MineK a c := ⟨Nat.le_trans h.1 k.1, fun i x t fz hi ht => k.2 i x t fz (h.2 i x t fz hi ht) ht⟩
theorem MineK.set {w : World} {g : Nat} {vs : Array Value} {t : TypeId} (h : Blk w g vs t) (ht : t ≠ 5 ∧ t ≠ 3 ∧ t ≠ 61) (o : Nat) (v : Value) : MineK w (w.setCell ⟨g, o, none⟩ v) := by
  have hs : w.heap.size ≤ (w.setCell ⟨g, o, none⟩ v).heap.size := ((Below.refl 0 w).setCell (p := ⟨g, o, none⟩) (Nat.zero_le _) v).size
  refine ⟨hs, fun k c t' fz hk ht' => ?_⟩
  have hne : g ≠ k := fun e => by
    subst e
    unfold Blk at h
    rw [h] at hk
    have := Option.some.inj hk
    injection this with _ h2
    subst h2
    rcases ht' with e | e | e
    · exact ht.1 e
    · exact ht.2.1 e
    · exact ht.2.2 e
  rw [Below.heap_setCell _ _ _ _ (Ne.symm hne)]
  exact hk
theorem MineK.grown {w w' : World} {row : Option Nat} (hg : w.grownBy w' row) (hr : ∀ g, row = some g → ∃ vs t fz, w.heap[g]? = some (.cells vs t fz) ∧ t ≠ 5 ∧ t ≠ 3 ∧ t ≠ 61) : MineK w w' := by
  refine ⟨hg.size, fun k c t' fz hk ht' => ?_⟩
  rw [hg.block k (Array.getElem?_eq_some_iff.1 hk).1 (fun e => ?_)]
  · exact hk
  · obtain ⟨vs, t, fz2, h1, h2⟩ := hr k e.symm
    rw [hk] at h1
    have := Option.some.inj h1
    injection this with _ h3
    subst h3
    rcases ht' with e | e | e
    · exact h2.1 e
    · exact h2.2.1 e
    · exact h2.2.2 e
theorem OthK.blk {w w' : World} (h : OthK w w') {b : Nat} {vs : Array Value} {t : TypeId} (k : Blk w b vs t) (ht : t ≠ 5 ∧ t ≠ 3 ∧ t ≠ 61) : Blk w' b vs t :=
  h b _ k (fun c fz e => by injection e with _ h2; exact ht.1 h2) (fun c fz e => by injection e with _ h2; exact ht.2.1 h2) (fun c fz e => by injection e with _ h2; exact ht.2.2 h2)
theorem OthK.map {w w' : World} (h : OthK w w') {m : Nat} {l : List (Int × Value)} (k : IsMapK w m l) : IsMapK w' m l :=
  h m _ k (fun c fz e => by cases e) (fun c fz e => by cases e) (fun c fz e => by cases e)
theorem OthK.kn {w w' : World} (h : OthK w w') {m : Nat} (k : KnM m w) : KnM m w' := by
  obtain ⟨b8, b9, h1, h2, h3⟩ := k
  exact ⟨b8, b9, h.map h1, h.blk h2 (by decide), h.blk h3 (by decide)⟩
theorem KnM.later {m : Nat} {w w' : World} (k : KnM m w) (hb : Below w.heap.size w w') : KnM m w' := by
  obtain ⟨b8, b9, h1, h2, h3⟩ := k
  exact ⟨b8, b9, h1.later hb, h2.later hb, h3.later hb⟩
theorem KnM.set {m : Nat} {w : World} (k : KnM m w) {g : Nat} {vs : Array Value} {t : TypeId} (h : Blk w g vs t) (ht : t ≠ 9) (o : Nat) (v : Value) : KnM m (w.setCell ⟨g, o, none⟩ v) := by
  obtain ⟨b8, b9, h1, h2, h3⟩ := k
  have hm : g ≠ m := fun e => by
    subst e
    unfold Blk at h; unfold IsMapK at h1
    rw [h] at h1; cases h1
  have hs : ∀ {b : Nat} {cs : Array Value}, Blk w b cs 9 → Blk (w.setCell ⟨g, o, none⟩ v) b cs 9 := fun {b cs} hb => hb.setCell_ne (a := ⟨g, o, none⟩) (fun e => by
    subst e
    unfold Blk at h hb
    rw [h] at hb
    have := Option.some.inj hb
    injection this with _ h3
    exact ht h3) v
  exact ⟨b8, b9, (Below.heap_setCell _ _ _ _ (Ne.symm hm)).trans h1, hs h2, hs h3⟩
/-- One who says: what was said stands in S. -/
structure Sayer (B0 : Nat) (fid : FuncId) (binds : Array Value) (S : List (List UInt8) → World → Prop) : Prop where
  ent : ∀ args w, (callFunc fid args).run Tryz.prog w = .ok (.enter fid args) w
  call : ∀ out s w, S out w → B0 ≤ w.heap.size → lenO (out ++ [s]) ≤ 1000000000 → (out ++ [s]).length ≤ 1000000000 → Calls Tryz.prog fid (#[.string (bs s)] ++ binds) w (fun e w' => e = .returned (.tuple #[]) ∧ S (out ++ [s]) w' ∧ Below B0 w w' ∧ OthK w w')
  keep : ∀ out w w', S out w → MineK w w' → S out w'
/-- A node whose pieces are told. -/
structure TeOk (n : Nd) : Prop where
  kind : 1 ≤ n.kind ∧ n.kind ≤ 9
  text : n.text.length ≤ 281474976710656
  rep : n.kind = 7 → 0 ≤ n.lo ∧ n.lo ≤ 255 ∧ 0 ≤ n.hi ∧ n.hi ≤ 255
theorem findK (k : Int) (h : 1 ≤ k ∧ k ≤ 9) (b8 b9 : Nat) : ∃ i fK binds, findEK (kL9 b8 b9) k 0 = some (i, .agg #[.int .i64 (levK k), .func (.func fK) #[] binds]) ∧ (∀ args w, (callFunc fK args).run Tryz.prog w = .ok (.enter fK args) w) ∧
    ∀ n : Nd, n.kind = k → TeOk n → ∀ w, T10 w → Blk w b8 #[.string (bs [98])] 9 → Blk w b9 #[.string (bs [119])] 9 → Calls Tryz.prog fK (#[.agg (ndC n)] ++ binds) w (PcPost w (pcsN clsT bndT n)) := by
  have hk : k = 1 ∨ k = 2 ∨ k = 3 ∨ k = 4 ∨ k = 5 ∨ k = 6 ∨ k = 7 ∨ k = 8 ∨ k = 9 := by omega
  rcases hk with rfl | rfl | rfl | rfl | rfl | rfl | rfl | rfl | rfl
  · exact ⟨_, _, #[], rfl, enters_of Tryz.func61 (by kernel_rfl) rfl, fun n hn ht w h10 h8 h9 => by
      have e : pcsN clsT bndT n = brk [] := by unfold pcsN; rw [if_pos hn]
      rw [e]; exact kinds1_any n w⟩
  · exact ⟨_, _, #[], rfl, enters_of Tryz.func62 (by kernel_rfl) rfl, fun n hn ht w h10 h8 h9 => by
      have e : pcsN clsT bndT n = [.sg (clsT n.cls)] := by unfold pcsN; rw [if_neg (by rw [hn]; decide), if_pos hn]
      rw [e]; exact kinds2_any n w⟩
  · exact ⟨_, _, #[], rfl, enters_of Tryz.func64 (by kernel_rfl) rfl, fun n hn ht w h10 h8 h9 => by
      have e : pcsN clsT bndT n = [.sg (34 :: (n.text ++ [34]))] := by unfold pcsN; rw [if_neg (by rw [hn]; decide), if_neg (by rw [hn]; decide), if_pos hn]
      rw [e]; exact kinds3_any n ht.text w⟩
  · exact ⟨_, _, #[], rfl, enters_of Tryz.func65 (by kernel_rfl) rfl, fun n hn ht w h10 h8 h9 => by
      have e : pcsN clsT bndT n = [.nd n.a 1, .nd n.b 2] := by simp [pcsN, hn]
      rw [e]; exact kinds4_any n w⟩
  · exact ⟨_, _, #[], rfl, enters_of Tryz.func66 (by kernel_rfl) rfl, fun n hn ht w h10 h8 h9 => by
      have e : pcsN clsT bndT n = [.nd n.a 0, .sg [124], .nd n.b 1] := by simp [pcsN, hn]
      rw [e]; exact kinds5_any n w⟩
  · exact ⟨_, _, #[], rfl, enters_of Tryz.func67 (by kernel_rfl) rfl, fun n hn ht w h10 h8 h9 => by
      have e : pcsN clsT bndT n = [.nd n.a 2, .sg [42]] := by simp [pcsN, hn]
      rw [e]; exact kinds6_any n w⟩
  · exact ⟨_, _, #[], rfl, enters_of Tryz.func68 (by kernel_rfl) rfl, fun n hn ht w h10 h8 h9 => by
      have e : pcsN clsT bndT n = [.nd n.a 2, .sg (bndT n.lo n.hi)] := by simp [pcsN, hn]
      obtain ⟨r1, r2, r3, r4⟩ := ht.rep hn
      rw [e]; exact kinds7_any n r1 r2 r3 r4 w h10⟩
  · exact ⟨_, _, #[.pointer (some ⟨b8, 0, none⟩)], rfl, enters_of Tryz.func87 (by kernel_rfl) rfl, fun n hn ht w h10 h8 h9 => by
      have e : pcsN clsT bndT n = .sg [98] :: brk [.nd n.a 0] := by simp [pcsN, hn]
      rw [e]; exact framed1_any n b8 [98] w h8⟩
  · exact ⟨_, _, #[.pointer (some ⟨b9, 0, none⟩)], rfl, enters_of Tryz.func87 (by kernel_rfl) rfl, fun n hn ht w h10 h8 h9 => by
      have e : pcsN clsT bndT n = .sg [119] :: brk [.nd n.a 0] := by simp [pcsN, hn]
      rw [e]; exact framed1_any n b9 [119] w h9⟩
/-- A node's kind, looked up: its level, and who makes its pieces. -/
theorem kind_at (n : Nd) (hn : TeOk n) (m : Nat) (w : World) (hK : KnM m w) : ∃ fK binds, (Instr.lookup 87 (.map (some m)) (.int .i64 n.kind) true).run Tryz.prog w = .ok (.tuple #[.agg #[.int .i64 (levK n.kind), .func (.func fK) #[] binds], .bool true]) w ∧
    (∀ args w, (callFunc fK args).run Tryz.prog w = .ok (.enter fK args) w) ∧ ∀ w', Below w.heap.size w w' → T10 w' → Calls Tryz.prog fK (#[.agg (ndC n)] ++ binds) w' (PcPost w' (pcsN clsT bndT n)) := by
  obtain ⟨b8, b9, h1, h2, h3⟩ := hK
  obtain ⟨i, fK, binds, hf, he, hc⟩ := findK n.kind hn.kind b8 b9
  refine ⟨fK, binds, ?_, he, fun w' hb h10 => hc n rfl hn w' h10 (h2.later hb) (h3.later hb)⟩
  have := run_lookup_int w m _ n.kind h1
  rw [hf] at this
  exact this
end Go.Proofs.YtpbadglfegcdjaaGreatDoor
/- Pieces turned round: slices.Reverse at a row of pieces. -/
namespace Go.Proofs.YtpbadglfegcdjaaGreatDoor
open Go Go.RowKit Go.Sort
set_option linter.unusedVariables false
set_option linter.unusedSimpArgs false
set_option maxRecDepth 100000

instance : Inhabited Pc := ⟨pc0⟩
def encP (p : Pc) : List Value := (pcC p).toList
theorem encP_len (p : Pc) : (encP p).length = 3 := pcC_size p
theorem flatK_eq (l : List Pc) : (Go.Sort.flatK encP 3 l.toArray).toList = flat3 l := by
  apply List.ext_getElem?
  intro t
  have hsz : (Go.Sort.flatK encP 3 l.toArray).size = l.length * 3 := by rw [size_flatK]; simp
  by_cases ht : t < l.length * 3
  · have hd : t / 3 < l.length := by omega
    have hm : t % 3 < 3 := Nat.mod_lt _ (by decide)
    have h1 := flat3_get l (t / 3) (t % 3) hd hm
    rw [show t / 3 * 3 + t % 3 = t by omega] at h1
    rw [h1]
    have hs : t < (Go.Sort.flatK encP 3 l.toArray).size := by rw [hsz]; exact ht
    rw [Array.getElem?_toList, Array.getElem?_eq_getElem hs]
    have h2 := Go.Sort.get_flatK encP 3 l.toArray t (by simpa using ht)
    rw [getElem!_pos _ t hs] at h2
    rw [h2]
    have e1 : l.toArray[t / 3]! = l.getD (t / 3) pc0 := by
      rw [getElem!_pos _ _ (by simpa using hd), List.getD_eq_getElem?_getD, List.getElem?_eq_getElem hd]; rfl
    rw [e1]
    unfold encP
    have hl : t % 3 < (pcC (l.getD (t / 3) pc0)).toList.length := by rw [pcC_size]; exact hm
    rw [getElem!_pos (pcC (l.getD (t / 3) pc0)).toList (t % 3) hl, ← Array.getElem?_toList, List.getElem?_eq_getElem hl]
  · rw [List.getElem?_eq_none (by rw [Array.length_toList, hsz]; omega), List.getElem?_eq_none (by rw [flat3_length]; omega)]
theorem rev_any {w : World} {base : Nat} {v : Value} {l : List Pc} (h : OwnP w base v l) (hl : 0 < l.length) (hm : l.length ≤ 1000) :
    Calls Tryz.prog 43 #[v] w (fun e w' => e = .returned (.tuple #[]) ∧ OwnP w' base v l.reverse ∧ w.grownBy w' v.ownBlock) := by
  obtain ⟨g, cap, cur, rfl, hg, hblk, hcap, hmax, hsz, htake⟩ := h.blk hl
  have hF : (Go.Sort.flatK encP 3 l.toArray).size = l.length * 3 := by rw [size_flatK]; simp
  have hH : HoldsK encP 3 w g 0 l.toArray := fun j hj => by
    rw [hF] at hj
    refine ⟨?_, hblk.frozen _⟩
    have hs : j < (Go.Sort.flatK encP 3 l.toArray).size := by rw [hF]; exact hj
    rw [Nat.zero_add, hblk.cell, getElem!_pos _ j hs]
    have e : cur.toList[j]? = (Go.Sort.flatK encP 3 l.toArray).toList[j]? := by
      rw [flatK_eq, ← htake, List.getElem?_take, if_pos hj]
    rw [Array.getElem?_toList, Array.getElem?_toList, Array.getElem?_eq_getElem hs] at e
    exact e
  have hc := AnyQ.slices_Reverse laysRev 3 (fun w => Tryz.isAgg90 w) (fun w => Tryz.sizeOf90 w) encP encP_len (fun p u hu => flat3_ones [p] u (by unfold flat3; exact List.mem_append_left _ hu)) g 0 cap l.toArray w hH (by simp; omega)
  rw [show l.toArray.size = l.length from by simp] at hc
  refine hc.mono ?_
  rintro e w' ⟨rfl, n, rfl⟩
  have hrev : l.toArray.reverse = l.reverse.toArray := by simp
  rw [hrev]
  have hF2 : (Go.Sort.flatK encP 3 l.reverse.toArray).size = l.length * 3 := by rw [size_flatK]; simp
  obtain ⟨F, hFe⟩ : ∃ F, F = Go.Sort.flatK encP 3 l.reverse.toArray := ⟨_, rfl⟩
  have hheap : (putRowK encP 3 (Go.Sort.ahead w n) g 0 l.reverse.toArray).heap[g]? = some (Obj.cells (putCells id 0 F cur) 90) := by
    unfold putRowK putRow mapBlock Go.Sort.ahead
    simp only [Array.getElem?_modify]
    have hb : w.heap[g]? = some (Obj.cells cur 90) := hblk
    rw [hb, ← hFe]; rfl
  refine ⟨rfl, ⟨flat3_length _, .inr ⟨g, cap, putCells id 0 F cur, by rw [List.length_reverse], hg, hheap, by rw [List.length_reverse]; exact hcap, hmax, by unfold putCells; rw [Array.size_mapIdx]; exact hsz, ?_⟩⟩, ?_⟩
  · rw [List.length_reverse]
    apply List.ext_getElem?
    intro t
    by_cases ht : t < l.length * 3
    · rw [List.getElem?_take, if_pos ht, Array.getElem?_toList]
      unfold putCells
      have htc : t < cur.size := by have := Nat.mul_le_mul_right 3 hcap; omega
      rw [Array.getElem?_mapIdx, Array.getElem?_eq_getElem htc, Option.map_some, if_pos ⟨Nat.zero_le _, by rw [hFe, hF2]; omega⟩, Nat.sub_zero, ← flatK_eq, Array.getElem?_toList, ← hFe, Array.getElem?_eq_getElem (by rw [hFe, hF2]; exact ht), getElem!_pos _ t (by rw [hFe, hF2]; exact ht)]; rfl
    · rw [List.getElem?_take, if_neg ht, List.getElem?_eq_none (by rw [flat3_length, List.length_reverse]; omega)]
  · refine ⟨rfl, rfl, rfl, ?_, fun k hk hne => ?_⟩
    · unfold putRowK putRow mapBlock Go.Sort.ahead; simp
    · unfold putRowK putRow mapBlock Go.Sort.ahead
      simp only [Array.getElem?_modify]
      rw [if_neg (fun e => hne (by rw [e]; rfl))]
end Go.Proofs.YtpbadglfegcdjaaGreatDoor
