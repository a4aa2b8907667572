/- The document's one token: walked. -/
import Derived.Test.YtcgjmnhmhiddkaaGreatDoorM32
import Derived.Test.YtcgjmnhmhiddkaaGreatDoorM33
import Derived.Test.YtcgjmnhmhiddkaaGreatDoorM06
import Derived.Test.YtcgjmnhmhiddkaaGreatDoorM03
import Derived.Test.YtcgjmnhmhiddkaaGreatDoorM09
import Derived.Test.YtcgjmnhmhiddkaaGreatDoorProg
import Derived.WalkKit
import Derived.Carry
import Derived.Below
import Derived.Laws.EntriesVeiled
import Derived.Deep.RegionHeld3
namespace Go.Proofs.YtcgjmnhmhiddkaaGreatDoor
open Go Go.RowKit
theorem rone_any (l : List UInt8) (i : Nat) (hl : l.length ≤ 1073741800) (hi : i < l.length) (w : World) : Calls Tryz.prog 37 #[.string (bs l), .int .i64 (i : Int)] w (Ans w (roneV l i)) := by
  by_cases h : l[i]'hi = 123
  · exact rone_rep l i hl hi h w
  · exact rone_most l i hl hi h w
set_option linter.unusedVariables false
set_option linter.unusedSimpArgs false
def mapEs : List (Int × Value) → Nat → List MapEntry
  | [], _ => []
  | p :: l, i => { key := .int .i32 p.1, val := p.2, born := i } :: mapEs l (i + 1)
theorem mapEs_append : ∀ (l : List (Int × Value)) (k : Int) (v : Value) (i : Nat), mapEs (l ++ [(k, v)]) i = mapEs l i ++ [{ key := .int .i32 k, val := v, born := i + l.length }]
  | [], k, v, i => rfl
  | p :: l, k, v, i => by
    show _ :: mapEs (l ++ [(k, v)]) (i + 1) = _
    rw [mapEs_append l k v (i + 1)]
    simp [mapEs]; omega
def IsMap (w : World) (m : Nat) (l : List (Int × Value)) : Prop := w.heap[m]? = some (.map (mapEs l 0).toArray l.length)
theorem IsMap.lt {w : World} {m : Nat} {l : List (Int × Value)} (h : IsMap w m l) : m < w.heap.size := (Array.getElem?_eq_some_iff.1 h).1
theorem IsMap.later {w w' : World} {m : Nat} {l : List (Int × Value)} (h : IsMap w m l) (hb : Below w.heap.size w w') : IsMap w' m l := (hb.block m h.lt).trans h
def putMap (w : World) (m : Nat) (l : List (Int × Value)) : World := { w with heap := w.heap.setIfInBounds m (.map (mapEs l 0).toArray l.length) }
theorem putMap_is {w : World} {m : Nat} (h : m < w.heap.size) (l' : List (Int × Value)) : IsMap (putMap w m l') m l' := by
  unfold IsMap putMap; simp [h]
theorem putMap_other {w : World} {m b : Nat} (hb : b ≠ m) (l : List (Int × Value)) : (putMap w m l).heap[b]? = w.heap[b]? := by
  unfold putMap; simp [Ne.symm hb]
theorem putMap_size (w : World) (m : Nat) (l : List (Int × Value)) : (putMap w m l).heap.size = w.heap.size := by simp [putMap]
theorem putMap_below {B : Nat} {a w : World} {m : Nat} (h : Below B a w) (hm : B ≤ m) (l : List (Int × Value)) : Below B a (putMap w m l) :=
  h.trans ⟨rfl, rfl, rfl, by rw [putMap_size]; exact Nat.le_refl _, fun i hi => putMap_other (by omega) l⟩
def findE : List (Int × Value) → Int → Nat → Option (Nat × Value)
  | [], _, _ => none
  | p :: l, k, i => if p.1 = k then some (i, p.2) else findE l k (i + 1)
theorem findNow_mapEs (k : Int) : ∀ (l : List (Int × Value)) (i : Nat), Instr.findNow (.int .i32) (.int .i32 k) (mapEs l i) i = some (findE l k i)
  | [], i => rfl
  | p :: l, i => by
    unfold mapEs Instr.findNow findE
    simp only [Instr.sameNow, if_true]
    by_cases h : p.1 = k
    · have : (k == p.1) = true := by rw [beq_iff_eq]; exact h.symm
      rw [this, if_pos h]
    · have : (k == p.1) = false := by rw [beq_eq_false_iff_ne]; exact fun e => h e.symm
      rw [this, if_neg h]
      exact findNow_mapEs k l (i + 1)
theorem keys_free {e : Bool} {k : Int} (w : World) : (Instr.checkKey e 10000 21 (.int .i32 k)).run Tryz.prog w = .ok () w := by
  rw [show (10000 : Nat) = 9999 + 1 from rfl]
  unfold Instr.checkKey
  simp [run_underlying Tryz.underlying21, Result.andThen]
theorem run_lookup_rune (w : World) (m : Nat) (l : List (Int × Value)) (k : Int) (hm : IsMap w m l) :
    (Instr.lookup 142 (.map (some m)) (.int .i32 k) true).run Tryz.prog w = .ok (match findE l k 0 with | some (_, v) => .tuple #[v, .bool true] | none => .tuple #[.agg #[.string ⟨#[]⟩, .int .i64 0, .nilFunc], .bool false]) w := by
  unfold IsMap at hm
  have hf := findNow_mapEs k l 0
  have hz := Tryz.zeroValue146
  simp only [Instr.lookup, Sem.run_bind, run_underlying Tryz.underlying142, Result.andThen, getObj, Sem.run, hm, keys_free, Instr.findKey, run_underlying Tryz.underlying21, hf]
  rw [show (Sem.run Tryz.prog (pure (mapEs l 0).toArray) w) = .ok (mapEs l 0).toArray w from rfl]
  simp only [hf]
  cases h : findE l k 0 with
  | none => simp [Sem.run_bind, hz, Result.andThen]
  | some p => obtain ⟨i, v⟩ := p; rfl
theorem run_update_rune (w : World) (m : Nat) (l : List (Int × Value)) (k : Int) (v : Value) (hm : IsMap w m l) (hk : findE l k 0 = none) :
    (Instr.mapUpdate 142 (.map (some m)) (.int .i32 k) v).run Tryz.prog w = .ok () (putMap w m (l ++ [(k, v)])) := by
  have hlt := hm.lt
  unfold IsMap at hm
  have hf := findNow_mapEs k l 0
  rw [hk] at hf
  simp only [Instr.mapUpdate, Sem.run_bind, run_underlying Tryz.underlying142, Result.andThen, getObj, Sem.run, hm, keys_free, Instr.findKey, run_underlying Tryz.underlying21, hf]
  simp only [setObj, Sem.run, hm]
  unfold putMap
  rw [mapEs_append]
  simp [Sem.run, hm]
def alV (b : Nat) : Value := .agg #[.string ⟨#[]⟩, .int .i64 0, .func (.func 130) #[] #[.pointer (some ⟨b, 0, none⟩)]]
set_option maxHeartbeats 1000000 in
set_option maxRecDepth 100000 in
theorem alone_any (c0 c1 c2 c3 c4 c5 c6 c7 c8 : Value) (w : World) : Calls Tryz.prog 110 #[.agg #[c0, c1, c2, c3, c4, c5, c6, c7, c8]] w
    (fun e w' => e = .returned (alV w.heap.size) ∧ Blk w' w.heap.size #[c0, c1, c2, c3, c4, c5, c6, c7, c8] 76 ∧ Below w.heap.size w w') := by
  have HB := Lib.hid (Blk.new w #[c0, c1, c2, c3, c4, c5, c6, c7, c8] 76)
  go_enter Tryz.func110, Tryz.ntmps110
  go_wp2
  exact bodyPost_ret (v := alV w.heap.size) (by simp [results, Tryz.results110, go_sem, alV]) rfl ⟨rfl, HB.out.alloc _, by go_grown⟩
set_option maxHeartbeats 1000000 in
set_option maxRecDepth 100000 in
theorem alone1_any (k x0 x1 x2 x3 : Int) (b : Nat) (s : ByteArray) (w : World) (hb : Blk w b #[.int .i64 k, .int .i64 0, .int .u64 x0, .int .u64 x1, .int .u64 x2, .int .u64 x3, .string ⟨#[]⟩, .int .i64 0, .int .i64 0] 76) :
    Calls Tryz.prog 130 #[.string s, .pointer (some ⟨b, 0, none⟩)] w (Ans w (.tuple #[.agg #[.int .i64 k, .int .i64 0, .int .u64 x0, .int .u64 x1, .int .u64 x2, .int .u64 x3, .string ⟨#[]⟩, .int .i64 0, .int .i64 0], .bool true])) := by
  have hlt := hb.lt
  obtain ⟨e0, e1, e2, e3, e4, e5, e6, e7, e8⟩ := nine_cells hb
  have HB := Lib.hid hb
  clear hb
  go_enter Tryz.func130, Tryz.ntmps130
  go_wp2
  exact bodyPost_ret (v := .tuple #[.agg #[.int .i64 k, .int .i64 0, .int .u64 x0, .int .u64 x1, .int .u64 x2, .int .u64 x3, .string ⟨#[]⟩, .int .i64 0, .int .i64 0], .bool true]) (by simp [results, Tryz.results130, go_sem]) rfl ⟨rfl, by go_grown⟩
def begL (b1 b2 b3 b4 b5 b6 b7 : Nat) : List (Int × Value) := [(46, alV b1), (40, alV b2), (41, alV b3), (124, alV b4), (42, alV b5), (98, alV b6), (119, alV b7),
  (60, .agg #[.string ⟨#[62]⟩, .int .i64 2, .func (.func 112) #[] #[]]), (34, .agg #[.string ⟨#[34]⟩, .int .i64 3, .func (.func 113) #[] #[]]), (123, .agg #[.string ⟨#[125]⟩, .int .i64 4, .func (.func 114) #[] #[]])]
def kTok (k : Nat) : Array Value := #[.int .i64 (k : Int), .int .i64 0, .int .u64 0, .int .u64 0, .int .u64 0, .int .u64 0, .string ⟨#[]⟩, .int .i64 0, .int .i64 0]
def dotTok : Array Value := #[.int .i64 1, .int .i64 0, .int .u64 (wd (rowB 0 255) 0), .int .u64 (wd (rowB 0 255) 1), .int .u64 (wd (rowB 0 255) 2), .int .u64 (wd (rowB 0 255) 3), .string ⟨#[]⟩, .int .i64 0, .int .i64 0]
structure BegS (m b1 b2 b3 b4 b5 b6 b7 : Nat) (w : World) : Prop where
  map : IsMap w m (begL b1 b2 b3 b4 b5 b6 b7)
  t1 : Blk w b1 dotTok 76
  t2 : Blk w b2 (kTok 3) 76
  t3 : Blk w b3 (kTok 4) 76
  t4 : Blk w b4 (kTok 5) 76
  t5 : Blk w b5 (kTok 6) 76
  t6 : Blk w b6 (kTok 8) 76
  t7 : Blk w b7 (kTok 9) 76
def Known (m : Nat) (w : World) : Prop := ∃ b1 b2 b3 b4 b5 b6 b7, BegS m b1 b2 b3 b4 b5 b6 b7 w
structure Grw (w0 : World) (m : Nat) (l : List (Int × Value)) (bs : List (Nat × Array Value)) (w : World) : Prop where
  bel : Below w0.heap.size w0 w
  low : w0.heap.size ≤ m
  map : IsMap w m l
  box : ∀ p ∈ bs, Blk w p.1 p.2 76
theorem Grw.later {w0 : World} {m : Nat} {l : List (Int × Value)} {bs : List (Nat × Array Value)} {w w' : World} (h : Grw w0 m l bs w) (hb : Below w.heap.size w w') : Grw w0 m l bs w' :=
  ⟨h.bel.trans (hb.mono h.bel.size), h.low, h.map.later hb, fun p hp => (h.box p hp).later hb⟩
theorem Grw.put {w0 : World} {m : Nat} {l : List (Int × Value)} {bs : List (Nat × Array Value)} {w : World} (h : Grw w0 m l bs w) (l' : List (Int × Value)) : Grw w0 m l' bs (putMap w m l') :=
  ⟨putMap_below h.bel h.low l', h.low, putMap_is h.map.lt l', fun p hp => by
    have hne : p.1 ≠ m := fun e => by
      have h1 := h.box p hp
      have h2 := h.map
      unfold Blk at h1; unfold IsMap at h2
      rw [e, h2] at h1; cases h1
    exact (putMap_other hne l').trans (h.box p hp)⟩
theorem Grw.add {w0 : World} {m : Nat} {l : List (Int × Value)} {bs : List (Nat × Array Value)} {w : World} (h : Grw w0 m l bs w) {b : Nat} {cs : Array Value} (hk : Blk w b cs 76) : Grw w0 m l ((b, cs) :: bs) w :=
  ⟨h.bel, h.low, h.map, fun p hp => by rcases List.mem_cons.1 hp with rfl | hp; exact hk; exact h.box p hp⟩
set_option maxHeartbeats 8000000 in
set_option maxRecDepth 100000 in
theorem begin_any (w : World) : Calls Tryz.prog 84 #[] w (fun e w' => ∃ m, e = .returned (.map (some m)) ∧ Known m w' ∧ Below w.heap.size w w') := by
  have hmm := @run_makeMap Tryz.prog
  have H0 : Hid (Grw w w.heap.size [] [] (w.alloc (.map #[] 0))) := ⟨(Below.refl _ _).alloc (Nat.le_refl _) _, Nat.le_refl _, by unfold IsMap mapEs; show (w.heap.push _)[w.heap.size]? = _; simp, by simp⟩
  go_enter Tryz.func84, Tryz.ntmps84
  go_wp2_with fail
  generalize w.alloc (.map #[] 0) = w0 at *
  refine (of_any 0 255 (by decide) (by decide) _).mono ?_; rintro e wa ⟨rfl, hba⟩
  have H1 := Lib.hid (H0.out.later hba)
  clear hba
  unfold cls
  go_wp2_with fail
  generalize hb1 : wa.heap.size = b1 at *
  refine (alone_any _ _ _ _ _ _ _ _ _ _).mono ?_; rintro e wb1 ⟨rfl, hk, hb⟩
  rw [hb1] at hk
  have HN := Lib.hid ((H1.out.later hb).add hk)
  clear hk hb H1
  have hu := run_update_rune wb1 w.heap.size [] 46 (alV b1) HN.out.map rfl
  have P1 := Lib.hid (HN.out.put ([(46, alV b1)]))
  rw [hb1]
  clear hb1 HN
  go_wp2_with fail
  (try simp only [List.nil_append, List.cons_append] at P1 ⊢)
  generalize putMap wb1 w.heap.size [(46, alV b1)] = wc1 at *
  clear hu
  generalize hb2 : wc1.heap.size = b2 at *
  refine (alone_any _ _ _ _ _ _ _ _ _ _).mono ?_; rintro e wb2 ⟨rfl, hk, hb⟩
  rw [hb2] at hk
  have HN := Lib.hid ((P1.out.later hb).add hk)
  clear hk hb P1
  have hu := run_update_rune wb2 w.heap.size [(46, alV b1)] 40 (alV b2) HN.out.map rfl
  have P2 := Lib.hid (HN.out.put ([(46, alV b1), (40, alV b2)]))
  rw [hb2]
  clear hb2 HN
  go_wp2_with fail
  (try simp only [List.nil_append, List.cons_append] at P2 ⊢)
  generalize putMap wb2 w.heap.size [(46, alV b1), (40, alV b2)] = wc2 at *
  clear hu
  generalize hb3 : wc2.heap.size = b3 at *
  refine (alone_any _ _ _ _ _ _ _ _ _ _).mono ?_; rintro e wb3 ⟨rfl, hk, hb⟩
  rw [hb3] at hk
  have HN := Lib.hid ((P2.out.later hb).add hk)
  clear hk hb P2
  have hu := run_update_rune wb3 w.heap.size [(46, alV b1), (40, alV b2)] 41 (alV b3) HN.out.map rfl
  have P3 := Lib.hid (HN.out.put ([(46, alV b1), (40, alV b2), (41, alV b3)]))
  rw [hb3]
  clear hb3 HN
  go_wp2_with fail
  (try simp only [List.nil_append, List.cons_append] at P3 ⊢)
  generalize putMap wb3 w.heap.size [(46, alV b1), (40, alV b2), (41, alV b3)] = wc3 at *
  clear hu
  generalize hb4 : wc3.heap.size = b4 at *
  refine (alone_any _ _ _ _ _ _ _ _ _ _).mono ?_; rintro e wb4 ⟨rfl, hk, hb⟩
  rw [hb4] at hk
  have HN := Lib.hid ((P3.out.later hb).add hk)
  clear hk hb P3
  have hu := run_update_rune wb4 w.heap.size [(46, alV b1), (40, alV b2), (41, alV b3)] 124 (alV b4) HN.out.map rfl
  have P4 := Lib.hid (HN.out.put ([(46, alV b1), (40, alV b2), (41, alV b3), (124, alV b4)]))
  rw [hb4]
  clear hb4 HN
  go_wp2_with fail
  (try simp only [List.nil_append, List.cons_append] at P4 ⊢)
  generalize putMap wb4 w.heap.size [(46, alV b1), (40, alV b2), (41, alV b3), (124, alV b4)] = wc4 at *
  clear hu
  generalize hb5 : wc4.heap.size = b5 at *
  refine (alone_any _ _ _ _ _ _ _ _ _ _).mono ?_; rintro e wb5 ⟨rfl, hk, hb⟩
  rw [hb5] at hk
  have HN := Lib.hid ((P4.out.later hb).add hk)
  clear hk hb P4
  have hu := run_update_rune wb5 w.heap.size [(46, alV b1), (40, alV b2), (41, alV b3), (124, alV b4)] 42 (alV b5) HN.out.map rfl
  have P5 := Lib.hid (HN.out.put ([(46, alV b1), (40, alV b2), (41, alV b3), (124, alV b4), (42, alV b5)]))
  rw [hb5]
  clear hb5 HN
  go_wp2_with fail
  (try simp only [List.nil_append, List.cons_append] at P5 ⊢)
  generalize putMap wb5 w.heap.size [(46, alV b1), (40, alV b2), (41, alV b3), (124, alV b4), (42, alV b5)] = wc5 at *
  clear hu
  generalize hb6 : wc5.heap.size = b6 at *
  refine (alone_any _ _ _ _ _ _ _ _ _ _).mono ?_; rintro e wb6 ⟨rfl, hk, hb⟩
  rw [hb6] at hk
  have HN := Lib.hid ((P5.out.later hb).add hk)
  clear hk hb P5
  have hu := run_update_rune wb6 w.heap.size [(46, alV b1), (40, alV b2), (41, alV b3), (124, alV b4), (42, alV b5)] 98 (alV b6) HN.out.map rfl
  have P6 := Lib.hid (HN.out.put ([(46, alV b1), (40, alV b2), (41, alV b3), (124, alV b4), (42, alV b5), (98, alV b6)]))
  rw [hb6]
  clear hb6 HN
  go_wp2_with fail
  (try simp only [List.nil_append, List.cons_append] at P6 ⊢)
  generalize putMap wb6 w.heap.size [(46, alV b1), (40, alV b2), (41, alV b3), (124, alV b4), (42, alV b5), (98, alV b6)] = wc6 at *
  clear hu
  generalize hb7 : wc6.heap.size = b7 at *
  refine (alone_any _ _ _ _ _ _ _ _ _ _).mono ?_; rintro e wb7 ⟨rfl, hk, hb⟩
  rw [hb7] at hk
  have HN := Lib.hid ((P6.out.later hb).add hk)
  clear hk hb P6
  have hu := run_update_rune wb7 w.heap.size [(46, alV b1), (40, alV b2), (41, alV b3), (124, alV b4), (42, alV b5), (98, alV b6)] 119 (alV b7) HN.out.map rfl
  have P7 := Lib.hid (HN.out.put ([(46, alV b1), (40, alV b2), (41, alV b3), (124, alV b4), (42, alV b5), (98, alV b6), (119, alV b7)]))
  rw [hb7]
  clear hb7 HN
  have hv0 := run_update_rune (putMap wb7 w.heap.size [(46, alV b1), (40, alV b2), (41, alV b3), (124, alV b4), (42, alV b5), (98, alV b6), (119, alV b7)]) w.heap.size [(46, alV b1), (40, alV b2), (41, alV b3), (124, alV b4), (42, alV b5), (98, alV b6), (119, alV b7)] 60 (.agg #[.string ⟨#[62]⟩, .int .i64 2, .func (.func 112) #[] #[]]) P7.out.map rfl
  have P8 := Lib.hid (P7.out.put ([(46, alV b1), (40, alV b2), (41, alV b3), (124, alV b4), (42, alV b5), (98, alV b6), (119, alV b7), (60, .agg #[.string ⟨#[62]⟩, .int .i64 2, .func (.func 112) #[] #[]])]))
  (try simp only [List.nil_append, List.cons_append] at hv0)
  have hv1 := run_update_rune (putMap (putMap wb7 w.heap.size [(46, alV b1), (40, alV b2), (41, alV b3), (124, alV b4), (42, alV b5), (98, alV b6), (119, alV b7)]) w.heap.size [(46, alV b1), (40, alV b2), (41, alV b3), (124, alV b4), (42, alV b5), (98, alV b6), (119, alV b7), (60, .agg #[.string ⟨#[62]⟩, .int .i64 2, .func (.func 112) #[] #[]])]) w.heap.size [(46, alV b1), (40, alV b2), (41, alV b3), (124, alV b4), (42, alV b5), (98, alV b6), (119, alV b7), (60, .agg #[.string ⟨#[62]⟩, .int .i64 2, .func (.func 112) #[] #[]])] 34 (.agg #[.string ⟨#[34]⟩, .int .i64 3, .func (.func 113) #[] #[]]) P8.out.map rfl
  have P9 := Lib.hid (P8.out.put ([(46, alV b1), (40, alV b2), (41, alV b3), (124, alV b4), (42, alV b5), (98, alV b6), (119, alV b7), (60, .agg #[.string ⟨#[62]⟩, .int .i64 2, .func (.func 112) #[] #[]]), (34, .agg #[.string ⟨#[34]⟩, .int .i64 3, .func (.func 113) #[] #[]])]))
  (try simp only [List.nil_append, List.cons_append] at hv1)
  have hv2 := run_update_rune (putMap (putMap (putMap wb7 w.heap.size [(46, alV b1), (40, alV b2), (41, alV b3), (124, alV b4), (42, alV b5), (98, alV b6), (119, alV b7)]) w.heap.size [(46, alV b1), (40, alV b2), (41, alV b3), (124, alV b4), (42, alV b5), (98, alV b6), (119, alV b7), (60, .agg #[.string ⟨#[62]⟩, .int .i64 2, .func (.func 112) #[] #[]])]) w.heap.size [(46, alV b1), (40, alV b2), (41, alV b3), (124, alV b4), (42, alV b5), (98, alV b6), (119, alV b7), (60, .agg #[.string ⟨#[62]⟩, .int .i64 2, .func (.func 112) #[] #[]]), (34, .agg #[.string ⟨#[34]⟩, .int .i64 3, .func (.func 113) #[] #[]])]) w.heap.size [(46, alV b1), (40, alV b2), (41, alV b3), (124, alV b4), (42, alV b5), (98, alV b6), (119, alV b7), (60, .agg #[.string ⟨#[62]⟩, .int .i64 2, .func (.func 112) #[] #[]]), (34, .agg #[.string ⟨#[34]⟩, .int .i64 3, .func (.func 113) #[] #[]])] 123 (.agg #[.string ⟨#[125]⟩, .int .i64 4, .func (.func 114) #[] #[]]) P9.out.map rfl
  have P10 := Lib.hid (P9.out.put ([(46, alV b1), (40, alV b2), (41, alV b3), (124, alV b4), (42, alV b5), (98, alV b6), (119, alV b7), (60, .agg #[.string ⟨#[62]⟩, .int .i64 2, .func (.func 112) #[] #[]]), (34, .agg #[.string ⟨#[34]⟩, .int .i64 3, .func (.func 113) #[] #[]]), (123, .agg #[.string ⟨#[125]⟩, .int .i64 4, .func (.func 114) #[] #[]])]))
  (try simp only [List.nil_append, List.cons_append] at hv2)
  (try simp only [List.nil_append, List.cons_append] at hu)
  go_wp2
  go_ret
  have hG := P10.out
  refine ⟨w.heap.size, rfl, ⟨b1, b2, b3, b4, b5, b6, b7, hG.map, ?_, ?_, ?_, ?_, ?_, ?_, ?_⟩, hG.bel⟩
  · exact hG.box (b1, _) (by simp; done)
  · exact hG.box (b2, _) (by simp; done)
  · exact hG.box (b3, _) (by simp; done)
  · exact hG.box (b4, _) (by simp; done)
  · exact hG.box (b5, _) (by simp; done)
  · exact hG.box (b6, _) (by simp; done)
  · exact hG.box (b7, _) (by simp; done)
def oneR : One → Value
  | .tok t n => .tuple #[.agg (tokC t), .int .i64 ((n : Int) + 1), .int .i64 0]
  | .bad e => .tuple #[.agg z9, .int .i64 0, .int .i64 (e : Int)]
structure RdS (w : World) (cl : ByteArray) (fl : Int) (fn : Value) (w' : World) : Prop where
  bel : Below w.heap.size w w'
  box : Blk w' w.heap.size #[.string cl, .int .i64 fl, fn] 146
  res : Blk w' (w.heap.size + 1) z9 76
  u8 : U8T w'
theorem RdS.later {w : World} {cl : ByteArray} {fl : Int} {fn : Value} {w1 w2 : World} (h : RdS w cl fl fn w1) (hb : Below w1.heap.size w1 w2) : RdS w cl fl fn w2 :=
  ⟨h.bel.trans (hb.mono h.bel.size), h.box.later hb, h.res.later hb, h.u8.later hb⟩
theorem RdS.new (w : World) (cl : ByteArray) (fl : Int) (fn : Value) (hT : U8T w) :
    RdS w cl fl fn ((w.alloc (.cells #[.string cl, .int .i64 fl, fn] 146)).alloc (.cells #[.int .i64 0, .int .i64 0, .int .u64 0, .int .u64 0, .int .u64 0, .int .u64 0, .string ⟨#[]⟩, .int .i64 0, .int .i64 0] 76)) := by
  have hb : Below w.heap.size w ((w.alloc (.cells #[.string cl, .int .i64 fl, fn] 146)).alloc (.cells #[.int .i64 0, .int .i64 0, .int .u64 0, .int .u64 0, .int .u64 0, .int .u64 0, .string ⟨#[]⟩, .int .i64 0, .int .i64 0] 76)) := by go_grown
  exact ⟨hb, (Blk.new _ _ _).alloc _, Blk.new' (by simp) _ _, hT.later hb⟩
theorem box_cells {w : World} {b : Nat} {t : TypeId} {x y z : Value} (h : Blk w b #[x, y, z] t) : w.cell? ⟨b, 0, none⟩ = some x ∧ w.cell? ⟨b, 1, none⟩ = some y ∧ w.cell? ⟨b, 2, none⟩ = some z := ⟨h.cell 0, h.cell 1, h.cell 2⟩
set_option maxHeartbeats 8000000 in
set_option maxRecDepth 100000 in
theorem read_cls (s : ByteArray) (rest : List UInt8) (w : World) (hT : U8T w) (hl : rest.length ≤ 1073741824) (h1 : (1 : Int) ≤ (s.size : Int)) (hx : s.extract 1 s.size = bs rest) :
    Calls Tryz.prog 85 #[.agg #[.string ⟨#[62]⟩, .int .i64 2, (.func (.func 112) #[] #[])], .string s] w (Ans w (oneR (closed 62 2 rest clsF))) := by
  have hsz : (bs rest).size ≤ 4294967296 := by rw [bs_size]; omega
  have HX := Lib.hid hx
  have HR := Lib.hid (RdS.new w ⟨#[62]⟩ 2 (.func (.func 112) #[] #[]) hT)
  clear hx hT
  cases hc : cutAt 62 rest with
  | none =>
    have HC : Hid (cutAt 62 (bs rest).data.toList = none) := hc
    have HV : Hid (oneR (closed 62 2 rest clsF) = .tuple #[.agg z9, .int .i64 0, .int .i64 2]) := by unfold Hid closed; rw [hc]; rfl
    clear hc
    generalize oneR (closed 62 2 rest clsF) = v at *
    go_enter Tryz.func85, Tryz.ntmps85
    go_upto_region 1 with (fail)
    refine wp_region_stable (S := (RdS w ⟨#[62]⟩ 2 (.func (.func 112) #[] #[]))) (hSt := fun _ _ h hb => h.later hb) (plan := [[(1, none)], [(13, some 0)], [(2, none)], [(15, some 2)], [(14, some 1), (16, some 3)], [(17, some 4)], [(12, some 5)], [(12, some 5)], [(12, some 5)], [(18, some 6)], [(19, some 7)], [(20, some 8)]]) (by kernel_rfl) (by kernel_rfl) (by kernel_rfl) ?hS ?_
    rotate_left
    iterate 12 first
      | (refine chain_skip (by rfl) (by rfl) ?_)
      | (apply chain_want (by rfl)
         · intro act wx hS hr
           simp at hr
           have hx := HX.out
           obtain ⟨b0, b1, b2⟩ := box_cells hS.box
           go_simp
           (try go_ints)
           first
             | ((with_reducible refine (cut_miss _ _ _ HC.out).mono ?_); rintro e w' ⟨rfl, hb⟩; exact Done.mk hb)
             | exact Done.same
        )
    show ∀ w', _ → _
    intro wz hz
    simp [Act.put]
    case hS => exact HR.out
    obtain ⟨b0, b1, b2⟩ := box_cells hz.box
    have HZ := Lib.hid hz
    clear hz
    go_upto_region 3 with (fail)
    have hk := HZ.out.res
    unfold z9 at hk
    have ef := hk.frozen
    obtain ⟨e0, e1, e2, e3, e4, e5, e6, e7, e8⟩ := nine_cells hk
    obtain ⟨s0, s1, s2, s3, s4, s5, s6, s7, s8⟩ := nine hk
    clear hk
    have S0 := Lib.hid s0
    have S1 := Lib.hid s1
    have S2 := Lib.hid s2
    have S3 := Lib.hid s3
    have S4 := Lib.hid s4
    have S5 := Lib.hid s5
    have S6 := Lib.hid s6
    have S7 := Lib.hid s7
    have S8 := Lib.hid s8
    clear s0 s1 s2 s3 s4 s5 s6 s7 s8
    go_region_held3 (fun w' => w'.cell? ⟨w.heap.size, 1, none⟩ = some (.int .i64 2)) (go_keep) (fail)
    go_wp2
    exact bodyPost_ret (v := .tuple #[.agg #[.int .i64 0, .int .i64 0, .int .u64 0, .int .u64 0, .int .u64 0, .int .u64 0, .string ⟨#[]⟩, .int .i64 0, .int .i64 0], .int .i64 0, .int .i64 2]) (by simp [results, Tryz.results85, go_sem, S0.out, S1.out, S2.out, S3.out, S4.out, S5.out, S6.out, S7.out, S8.out]) rfl ⟨by rw [HV.out]; rfl, (below9 HZ.out.bel (Nat.le_succ _) _ _ _ _ _ _ _ _ _).drew⟩
  | some p =>
    obtain ⟨x, y⟩ := p
    have HC : Hid (cutAt 62 (bs rest).data.toList = some (x, y)) := hc
    have hxl : x.length ≤ 1073741824 := by have := congrArg List.length (cutAt_some hc).1; simp at this; omega
    have hcl : closed 62 2 rest clsF = clsF x := by unfold closed; rw [hc]
    clear hc
    cases hv : classV x with
    | none =>
      have HN : Hid (tokR ((classV x).map clsTok) = .tuple #[.agg #[.int .i64 0, .int .i64 0, .int .u64 0, .int .u64 0, .int .u64 0, .int .u64 0, .string ⟨#[]⟩, .int .i64 0, .int .i64 0], .bool false]) := by unfold Hid; rw [hv]; rfl
      have HV : Hid (oneR (closed 62 2 rest clsF) = .tuple #[.agg z9, .int .i64 0, .int .i64 2]) := by unfold Hid; rw [hcl]; unfold clsF; rw [hv]; rfl
      clear hv hcl
      generalize oneR (closed 62 2 rest clsF) = v at *
      go_enter Tryz.func85, Tryz.ntmps85
      go_upto_region 1 with (fail)
      refine wp_region_stable (S := (RdS w ⟨#[62]⟩ 2 (.func (.func 112) #[] #[]))) (hSt := fun _ _ h hb => h.later hb) (plan := [[(1, none)], [(13, some 0)], [(2, none)], [(15, some 2)], [(14, some 1), (16, some 3)], [(17, some 4)], [(12, some 5)], [(12, some 5)], [(12, some 5)], [(18, some 6)], [(19, some 7)], [(20, some 8)]]) (by kernel_rfl) (by kernel_rfl) (by kernel_rfl) ?hS ?_
      rotate_left
      iterate 12 first
        | (refine chain_skip (by rfl) (by rfl) ?_)
        | (apply chain_want (by rfl)
           · intro act wx hS hr
             simp at hr
             have hx := HX.out
             obtain ⟨b0, b1, b2⟩ := box_cells hS.box
             go_simp
             (try go_ints)
             first
               | ((with_reducible refine (cut_hit _ _ _ _ _ HC.out hsz).mono ?_); rintro e w' ⟨rfl, hb⟩; exact Done.mk hb)
               | exact Done.same
          )
      show ∀ w', _ → _
      intro wz hz
      simp [Act.put]
      case hS => exact HR.out
      obtain ⟨b0, b1, b2⟩ := box_cells hz.box
      have HZ := Lib.hid hz
      clear hz
      go_wp2_with fail
      refine (clstok_any x _ hxl).mono ?_; rintro e w3 ⟨rfl, hb3⟩
      rw [HN.out]
      have HZ3 := Lib.hid ((HZ.out.later hb3).later ((Below.refl _ _).alloc (Nat.le_refl _) (.cells #[.int .i64 0, .int .i64 0, .int .u64 0, .int .u64 0, .int .u64 0, .int .u64 0, .string ⟨#[]⟩, .int .i64 0, .int .i64 0] 76)))
      clear hb3 HN b0 b1 b2
      go_upto_region 6 with (fail)
      generalize w3.alloc (.cells #[.int .i64 0, .int .i64 0, .int .u64 0, .int .u64 0, .int .u64 0, .int .u64 0, .string ⟨#[]⟩, .int .i64 0, .int .i64 0] 76) = w4 at *
      obtain ⟨b0, b1, b2⟩ := box_cells HZ3.out.box
      have hk := HZ3.out.res
      unfold z9 at hk
      have ef := hk.frozen
      obtain ⟨e0, e1, e2, e3, e4, e5, e6, e7, e8⟩ := nine_cells hk
      obtain ⟨s0, s1, s2, s3, s4, s5, s6, s7, s8⟩ := nine hk
      clear hk
      have S0 := Lib.hid s0
      have S1 := Lib.hid s1
      have S2 := Lib.hid s2
      have S3 := Lib.hid s3
      have S4 := Lib.hid s4
      have S5 := Lib.hid s5
      have S6 := Lib.hid s6
      have S7 := Lib.hid s7
      have S8 := Lib.hid s8
      clear s0 s1 s2 s3 s4 s5 s6 s7 s8
      go_region_held3 (fun w' => w'.cell? ⟨w.heap.size, 1, none⟩ = some (.int .i64 2)) (go_keep) (fail)
      go_wp2
      exact bodyPost_ret (v := .tuple #[.agg #[.int .i64 0, .int .i64 0, .int .u64 0, .int .u64 0, .int .u64 0, .int .u64 0, .string ⟨#[]⟩, .int .i64 0, .int .i64 0], .int .i64 0, .int .i64 2]) (by simp [results, Tryz.results85, go_sem, S0.out, S1.out, S2.out, S3.out, S4.out, S5.out, S6.out, S7.out, S8.out]) rfl ⟨by rw [HV.out]; rfl, (below9 HZ3.out.bel (Nat.le_succ _) _ _ _ _ _ _ _ _ _).drew⟩
    | some t =>
      have HN : Hid (tokR ((classV x).map clsTok) = .tuple #[.agg (tokC (clsTok t)), .bool true]) := by unfold Hid; rw [hv]; rfl
      have HV : Hid (oneR (closed 62 2 rest clsF) = .tuple #[.agg (tokC (clsTok t)), .int .i64 (((x.length + 1 : Nat) : Int) + 1), .int .i64 0]) := by unfold Hid; rw [hcl]; unfold clsF; rw [hv]; rfl
      clear hv hcl
      generalize oneR (closed 62 2 rest clsF) = v at *
      have hxs : ((bs x).size : Int) = (x.length : Int) := by rw [bs_size]
      have HXS := Lib.hid hxs
      have hxs0 : (0 : Int) ≤ ((bs x).size : Int) := by omega
      have hxs1 : ((bs x).size : Int) ≤ 1073741824 := by omega
      clear hxs
      go_enter Tryz.func85, Tryz.ntmps85
      go_upto_region 1 with (fail)
      refine wp_region_stable (S := (RdS w ⟨#[62]⟩ 2 (.func (.func 112) #[] #[]))) (hSt := fun _ _ h hb => h.later hb) (plan := [[(1, none)], [(13, some 0)], [(2, none)], [(15, some 2)], [(14, some 1), (16, some 3)], [(17, some 4)], [(12, some 5)], [(12, some 5)], [(12, some 5)], [(18, some 6)], [(19, some 7)], [(20, some 8)]]) (by kernel_rfl) (by kernel_rfl) (by kernel_rfl) ?hS ?_
      rotate_left
      iterate 12 first
        | (refine chain_skip (by rfl) (by rfl) ?_)
        | (apply chain_want (by rfl)
           · intro act wx hS hr
             simp at hr
             have hx := HX.out
             obtain ⟨b0, b1, b2⟩ := box_cells hS.box
             go_simp
             (try go_ints)
             first
               | ((with_reducible refine (cut_hit _ _ _ _ _ HC.out hsz).mono ?_); rintro e w' ⟨rfl, hb⟩; exact Done.mk hb)
               | exact Done.same
          )
      show ∀ w', _ → _
      intro wz hz
      simp [Act.put]
      case hS => exact HR.out
      obtain ⟨b0, b1, b2⟩ := box_cells hz.box
      have HZ := Lib.hid hz
      clear hz
      go_wp2_with fail
      refine (clstok_any x _ hxl).mono ?_; rintro e w3 ⟨rfl, hb3⟩
      rw [HN.out]
      have HZ3 := Lib.hid ((HZ.out.later hb3).later ((Below.refl _ _).alloc (Nat.le_refl _) (.cells (tokC (clsTok t)) 76)))
      have HT3 := Lib.hid (Blk.new w3 (tokC (clsTok t)) 76)
      have hlt3 := (HZ.out.later hb3).res.lt
      clear hb3 HN b0 b1 b2
      have h255 : ¬ (((clsTok t).hi : Nat) : Int) > 255 := by show ¬ ((0 : Nat) : Int) > 255; decide
      have hlh : ¬ (((clsTok t).lo : Nat) : Int) > (((clsTok t).hi : Nat) : Int) := by show ¬ ((0 : Nat) : Int) > ((0 : Nat) : Int); decide
      have h255' : ¬ (255 : Int) < (((clsTok t).hi : Nat) : Int) := h255
      have hlh' : ¬ (((clsTok t).hi : Nat) : Int) < (((clsTok t).lo : Nat) : Int) := hlh
      unfold tokC at HZ3 HT3 ⊢
      (try unfold tokC at HV)
      go_upto_region 7 with (fail)
      generalize ((clsTok t).kind : Int) = K at *
      generalize ((clsTok t).at_ : Int) = A at *
      generalize ((clsTok t).lo : Int) = L at *
      generalize ((clsTok t).hi : Int) = H at *
      generalize (wd (clsTok t).cls 0 : Int) = c0 at *
      generalize (wd (clsTok t).cls 1 : Int) = c1 at *
      generalize (wd (clsTok t).cls 2 : Int) = c2 at *
      generalize (wd (clsTok t).cls 3 : Int) = c3 at *
      generalize bs (clsTok t).text = T at *
      generalize w3.alloc (.cells #[.int .i64 K, .int .i64 A, .int .u64 c0, .int .u64 c1, .int .u64 c2, .int .u64 c3, .string T, .int .i64 L, .int .i64 H] 76) = w4 at *
      generalize w3.heap.size = bt at *
      have hft := HT3.out.frozen
      obtain ⟨d0, d1, d2, d3, d4, d5, d6, d7, d8⟩ := nine_cells HT3.out
      obtain ⟨b0, b1, b2⟩ := box_cells HZ3.out.box
      have hbne : bt ≠ w.heap.size + 1 := by omega
      have hbne' : ¬ (w.heap.size + 1 = bt) := by omega
      go_upto_region 9 with (fail)
      have hk := HZ3.out.res
      unfold z9 at hk
      have ef := hk.frozen
      obtain ⟨e0, e1, e2, e3, e4, e5, e6, e7, e8⟩ := nine_cells hk
      obtain ⟨s0, s1, s2, s3, s4, s5, s6, s7, s8⟩ := nine hk
      clear hk
      have S0 := Lib.hid s0
      have S1 := Lib.hid s1
      have S2 := Lib.hid s2
      have S3 := Lib.hid s3
      have S4 := Lib.hid s4
      have S5 := Lib.hid s5
      have S6 := Lib.hid s6
      have S7 := Lib.hid s7
      have S8 := Lib.hid s8
      clear s0 s1 s2 s3 s4 s5 s6 s7 s8
      go_region_held3 (fun w' => w'.cell? ⟨bt, 0, none⟩ = some (.int .i64 K) ∧ w'.cell? ⟨bt, 1, none⟩ = some (.int .i64 A) ∧ w'.cell? ⟨bt, 2, none⟩ = some (.int .u64 c0) ∧ w'.cell? ⟨bt, 3, none⟩ = some (.int .u64 c1) ∧ w'.cell? ⟨bt, 4, none⟩ = some (.int .u64 c2) ∧ w'.cell? ⟨bt, 5, none⟩ = some (.int .u64 c3) ∧ w'.cell? ⟨bt, 6, none⟩ = some (.string T) ∧ w'.cell? ⟨bt, 7, none⟩ = some (.int .i64 L) ∧ w'.cell? ⟨bt, 8, none⟩ = some (.int .i64 H) ∧ w'.cell? ⟨w.heap.size, 0, none⟩ = some (.string ⟨#[62]⟩)) (go_keep) (fail)
      go_wp2
      have e : (((x.length + 1 : Nat) : Int) + 1) = 1 + ((bs x).size : Int) + 1 := by rw [bs_size]; omega
      have hw1 : IntKind.i64.wrap (1 + ((bs x).size : Int)) = 1 + ((bs x).size : Int) := IntWalk.i64_in _ (by omega)
      have hw2 : IntKind.i64.wrap (1 + ((bs x).size : Int) + 1) = 1 + ((bs x).size : Int) + 1 := IntWalk.i64_in _ (by omega)
      exact bodyPost_ret (v := .tuple #[.agg #[.int .i64 K, .int .i64 A, .int .u64 c0, .int .u64 c1, .int .u64 c2, .int .u64 c3, .string T, .int .i64 L, .int .i64 H], .int .i64 (1 + ((bs x).size : Int) + 1), .int .i64 0]) (by simp [results, Tryz.results85, go_sem, S0.out, S1.out, S2.out, S3.out, S4.out, S5.out, S6.out, S7.out, S8.out, hw1, hw2]) rfl ⟨by rw [HV.out, e], (below9 HZ3.out.bel (Nat.le_succ _) _ _ _ _ _ _ _ _ _).drew⟩
set_option maxHeartbeats 8000000 in
set_option maxRecDepth 100000 in
theorem read_txt (s : ByteArray) (rest : List UInt8) (w : World) (hT : U8T w) (hl : rest.length ≤ 1073741824) (h1 : (1 : Int) ≤ (s.size : Int)) (hx : s.extract 1 s.size = bs rest) :
    Calls Tryz.prog 85 #[.agg #[.string ⟨#[34]⟩, .int .i64 3, (.func (.func 113) #[] #[])], .string s] w (Ans w (oneR (closed 34 3 rest txtF))) := by
  have hsz : (bs rest).size ≤ 4294967296 := by rw [bs_size]; omega
  have HX := Lib.hid hx
  have HR := Lib.hid (RdS.new w ⟨#[34]⟩ 3 (.func (.func 113) #[] #[]) hT)
  clear hx hT
  cases hc : cutAt 34 rest with
  | none =>
    have HC : Hid (cutAt 34 (bs rest).data.toList = none) := hc
    have HV : Hid (oneR (closed 34 3 rest txtF) = .tuple #[.agg z9, .int .i64 0, .int .i64 3]) := by unfold Hid closed; rw [hc]; rfl
    clear hc
    generalize oneR (closed 34 3 rest txtF) = v at *
    go_enter Tryz.func85, Tryz.ntmps85
    go_upto_region 1 with (fail)
    refine wp_region_stable (S := (RdS w ⟨#[34]⟩ 3 (.func (.func 113) #[] #[]))) (hSt := fun _ _ h hb => h.later hb) (plan := [[(1, none)], [(13, some 0)], [(2, none)], [(15, some 2)], [(14, some 1), (16, some 3)], [(17, some 4)], [(12, some 5)], [(12, some 5)], [(12, some 5)], [(18, some 6)], [(19, some 7)], [(20, some 8)]]) (by kernel_rfl) (by kernel_rfl) (by kernel_rfl) ?hS ?_
    rotate_left
    iterate 12 first
      | (refine chain_skip (by rfl) (by rfl) ?_)
      | (apply chain_want (by rfl)
         · intro act wx hS hr
           simp at hr
           have hx := HX.out
           obtain ⟨b0, b1, b2⟩ := box_cells hS.box
           go_simp
           (try go_ints)
           first
             | ((with_reducible refine (cut_miss _ _ _ HC.out).mono ?_); rintro e w' ⟨rfl, hb⟩; exact Done.mk hb)
             | exact Done.same
        )
    show ∀ w', _ → _
    intro wz hz
    simp [Act.put]
    case hS => exact HR.out
    obtain ⟨b0, b1, b2⟩ := box_cells hz.box
    have HZ := Lib.hid hz
    clear hz
    go_upto_region 3 with (fail)
    have hk := HZ.out.res
    unfold z9 at hk
    have ef := hk.frozen
    obtain ⟨e0, e1, e2, e3, e4, e5, e6, e7, e8⟩ := nine_cells hk
    obtain ⟨s0, s1, s2, s3, s4, s5, s6, s7, s8⟩ := nine hk
    clear hk
    have S0 := Lib.hid s0
    have S1 := Lib.hid s1
    have S2 := Lib.hid s2
    have S3 := Lib.hid s3
    have S4 := Lib.hid s4
    have S5 := Lib.hid s5
    have S6 := Lib.hid s6
    have S7 := Lib.hid s7
    have S8 := Lib.hid s8
    clear s0 s1 s2 s3 s4 s5 s6 s7 s8
    go_region_held3 (fun w' => w'.cell? ⟨w.heap.size, 1, none⟩ = some (.int .i64 3)) (go_keep) (fail)
    go_wp2
    exact bodyPost_ret (v := .tuple #[.agg #[.int .i64 0, .int .i64 0, .int .u64 0, .int .u64 0, .int .u64 0, .int .u64 0, .string ⟨#[]⟩, .int .i64 0, .int .i64 0], .int .i64 0, .int .i64 3]) (by simp [results, Tryz.results85, go_sem, S0.out, S1.out, S2.out, S3.out, S4.out, S5.out, S6.out, S7.out, S8.out]) rfl ⟨by rw [HV.out]; rfl, (below9 HZ.out.bel (Nat.le_succ _) _ _ _ _ _ _ _ _ _).drew⟩
  | some p =>
    obtain ⟨x, y⟩ := p
    have HC : Hid (cutAt 34 (bs rest).data.toList = some (x, y)) := hc
    have hxl : x.length ≤ 1073741824 := by have := congrArg List.length (cutAt_some hc).1; simp at this; omega
    have hcl : closed 34 3 rest txtF = txtF x := by unfold closed; rw [hc]
    clear hc
    cases hv : textV x with
    | none =>
      have HN : Hid (tokR ((textV x).map txtTok) = .tuple #[.agg #[.int .i64 0, .int .i64 0, .int .u64 0, .int .u64 0, .int .u64 0, .int .u64 0, .string ⟨#[]⟩, .int .i64 0, .int .i64 0], .bool false]) := by unfold Hid; rw [hv]; rfl
      have HV : Hid (oneR (closed 34 3 rest txtF) = .tuple #[.agg z9, .int .i64 0, .int .i64 3]) := by unfold Hid; rw [hcl]; unfold txtF; rw [hv]; rfl
      clear hv hcl
      generalize oneR (closed 34 3 rest txtF) = v at *
      go_enter Tryz.func85, Tryz.ntmps85
      go_upto_region 1 with (fail)
      refine wp_region_stable (S := (RdS w ⟨#[34]⟩ 3 (.func (.func 113) #[] #[]))) (hSt := fun _ _ h hb => h.later hb) (plan := [[(1, none)], [(13, some 0)], [(2, none)], [(15, some 2)], [(14, some 1), (16, some 3)], [(17, some 4)], [(12, some 5)], [(12, some 5)], [(12, some 5)], [(18, some 6)], [(19, some 7)], [(20, some 8)]]) (by kernel_rfl) (by kernel_rfl) (by kernel_rfl) ?hS ?_
      rotate_left
      iterate 12 first
        | (refine chain_skip (by rfl) (by rfl) ?_)
        | (apply chain_want (by rfl)
           · intro act wx hS hr
             simp at hr
             have hx := HX.out
             obtain ⟨b0, b1, b2⟩ := box_cells hS.box
             go_simp
             (try go_ints)
             first
               | ((with_reducible refine (cut_hit _ _ _ _ _ HC.out hsz).mono ?_); rintro e w' ⟨rfl, hb⟩; exact Done.mk hb)
               | exact Done.same
          )
      show ∀ w', _ → _
      intro wz hz
      simp [Act.put]
      case hS => exact HR.out
      obtain ⟨b0, b1, b2⟩ := box_cells hz.box
      have HZ := Lib.hid hz
      clear hz
      go_wp2_with fail
      refine (txttok_any x _ hxl HZ.out.u8).mono ?_; rintro e w3 ⟨rfl, hb3⟩
      rw [HN.out]
      have HZ3 := Lib.hid ((HZ.out.later hb3).later ((Below.refl _ _).alloc (Nat.le_refl _) (.cells #[.int .i64 0, .int .i64 0, .int .u64 0, .int .u64 0, .int .u64 0, .int .u64 0, .string ⟨#[]⟩, .int .i64 0, .int .i64 0] 76)))
      clear hb3 HN b0 b1 b2
      go_upto_region 6 with (fail)
      generalize w3.alloc (.cells #[.int .i64 0, .int .i64 0, .int .u64 0, .int .u64 0, .int .u64 0, .int .u64 0, .string ⟨#[]⟩, .int .i64 0, .int .i64 0] 76) = w4 at *
      obtain ⟨b0, b1, b2⟩ := box_cells HZ3.out.box
      have hk := HZ3.out.res
      unfold z9 at hk
      have ef := hk.frozen
      obtain ⟨e0, e1, e2, e3, e4, e5, e6, e7, e8⟩ := nine_cells hk
      obtain ⟨s0, s1, s2, s3, s4, s5, s6, s7, s8⟩ := nine hk
      clear hk
      have S0 := Lib.hid s0
      have S1 := Lib.hid s1
      have S2 := Lib.hid s2
      have S3 := Lib.hid s3
      have S4 := Lib.hid s4
      have S5 := Lib.hid s5
      have S6 := Lib.hid s6
      have S7 := Lib.hid s7
      have S8 := Lib.hid s8
      clear s0 s1 s2 s3 s4 s5 s6 s7 s8
      go_region_held3 (fun w' => w'.cell? ⟨w.heap.size, 1, none⟩ = some (.int .i64 3)) (go_keep) (fail)
      go_wp2
      exact bodyPost_ret (v := .tuple #[.agg #[.int .i64 0, .int .i64 0, .int .u64 0, .int .u64 0, .int .u64 0, .int .u64 0, .string ⟨#[]⟩, .int .i64 0, .int .i64 0], .int .i64 0, .int .i64 3]) (by simp [results, Tryz.results85, go_sem, S0.out, S1.out, S2.out, S3.out, S4.out, S5.out, S6.out, S7.out, S8.out]) rfl ⟨by rw [HV.out]; rfl, (below9 HZ3.out.bel (Nat.le_succ _) _ _ _ _ _ _ _ _ _).drew⟩
    | some t =>
      have HN : Hid (tokR ((textV x).map txtTok) = .tuple #[.agg (tokC (txtTok t)), .bool true]) := by unfold Hid; rw [hv]; rfl
      have HV : Hid (oneR (closed 34 3 rest txtF) = .tuple #[.agg (tokC (txtTok t)), .int .i64 (((x.length + 1 : Nat) : Int) + 1), .int .i64 0]) := by unfold Hid; rw [hcl]; unfold txtF; rw [hv]; rfl
      clear hv hcl
      generalize oneR (closed 34 3 rest txtF) = v at *
      have hxs : ((bs x).size : Int) = (x.length : Int) := by rw [bs_size]
      have HXS := Lib.hid hxs
      have hxs0 : (0 : Int) ≤ ((bs x).size : Int) := by omega
      have hxs1 : ((bs x).size : Int) ≤ 1073741824 := by omega
      clear hxs
      go_enter Tryz.func85, Tryz.ntmps85
      go_upto_region 1 with (fail)
      refine wp_region_stable (S := (RdS w ⟨#[34]⟩ 3 (.func (.func 113) #[] #[]))) (hSt := fun _ _ h hb => h.later hb) (plan := [[(1, none)], [(13, some 0)], [(2, none)], [(15, some 2)], [(14, some 1), (16, some 3)], [(17, some 4)], [(12, some 5)], [(12, some 5)], [(12, some 5)], [(18, some 6)], [(19, some 7)], [(20, some 8)]]) (by kernel_rfl) (by kernel_rfl) (by kernel_rfl) ?hS ?_
      rotate_left
      iterate 12 first
        | (refine chain_skip (by rfl) (by rfl) ?_)
        | (apply chain_want (by rfl)
           · intro act wx hS hr
             simp at hr
             have hx := HX.out
             obtain ⟨b0, b1, b2⟩ := box_cells hS.box
             go_simp
             (try go_ints)
             first
               | ((with_reducible refine (cut_hit _ _ _ _ _ HC.out hsz).mono ?_); rintro e w' ⟨rfl, hb⟩; exact Done.mk hb)
               | exact Done.same
          )
      show ∀ w', _ → _
      intro wz hz
      simp [Act.put]
      case hS => exact HR.out
      obtain ⟨b0, b1, b2⟩ := box_cells hz.box
      have HZ := Lib.hid hz
      clear hz
      go_wp2_with fail
      refine (txttok_any x _ hxl HZ.out.u8).mono ?_; rintro e w3 ⟨rfl, hb3⟩
      rw [HN.out]
      have HZ3 := Lib.hid ((HZ.out.later hb3).later ((Below.refl _ _).alloc (Nat.le_refl _) (.cells (tokC (txtTok t)) 76)))
      have HT3 := Lib.hid (Blk.new w3 (tokC (txtTok t)) 76)
      have hlt3 := (HZ.out.later hb3).res.lt
      clear hb3 HN b0 b1 b2
      have h255 : ¬ (((txtTok t).hi : Nat) : Int) > 255 := by show ¬ ((0 : Nat) : Int) > 255; decide
      have hlh : ¬ (((txtTok t).lo : Nat) : Int) > (((txtTok t).hi : Nat) : Int) := by show ¬ ((0 : Nat) : Int) > ((0 : Nat) : Int); decide
      have h255' : ¬ (255 : Int) < (((txtTok t).hi : Nat) : Int) := h255
      have hlh' : ¬ (((txtTok t).hi : Nat) : Int) < (((txtTok t).lo : Nat) : Int) := hlh
      unfold tokC at HZ3 HT3 ⊢
      (try unfold tokC at HV)
      go_upto_region 7 with (fail)
      generalize ((txtTok t).kind : Int) = K at *
      generalize ((txtTok t).at_ : Int) = A at *
      generalize ((txtTok t).lo : Int) = L at *
      generalize ((txtTok t).hi : Int) = H at *
      generalize (wd (txtTok t).cls 0 : Int) = c0 at *
      generalize (wd (txtTok t).cls 1 : Int) = c1 at *
      generalize (wd (txtTok t).cls 2 : Int) = c2 at *
      generalize (wd (txtTok t).cls 3 : Int) = c3 at *
      generalize bs (txtTok t).text = T at *
      generalize w3.alloc (.cells #[.int .i64 K, .int .i64 A, .int .u64 c0, .int .u64 c1, .int .u64 c2, .int .u64 c3, .string T, .int .i64 L, .int .i64 H] 76) = w4 at *
      generalize w3.heap.size = bt at *
      have hft := HT3.out.frozen
      obtain ⟨d0, d1, d2, d3, d4, d5, d6, d7, d8⟩ := nine_cells HT3.out
      obtain ⟨b0, b1, b2⟩ := box_cells HZ3.out.box
      have hbne : bt ≠ w.heap.size + 1 := by omega
      have hbne' : ¬ (w.heap.size + 1 = bt) := by omega
      go_upto_region 9 with (fail)
      have hk := HZ3.out.res
      unfold z9 at hk
      have ef := hk.frozen
      obtain ⟨e0, e1, e2, e3, e4, e5, e6, e7, e8⟩ := nine_cells hk
      obtain ⟨s0, s1, s2, s3, s4, s5, s6, s7, s8⟩ := nine hk
      clear hk
      have S0 := Lib.hid s0
      have S1 := Lib.hid s1
      have S2 := Lib.hid s2
      have S3 := Lib.hid s3
      have S4 := Lib.hid s4
      have S5 := Lib.hid s5
      have S6 := Lib.hid s6
      have S7 := Lib.hid s7
      have S8 := Lib.hid s8
      clear s0 s1 s2 s3 s4 s5 s6 s7 s8
      go_region_held3 (fun w' => w'.cell? ⟨bt, 0, none⟩ = some (.int .i64 K) ∧ w'.cell? ⟨bt, 1, none⟩ = some (.int .i64 A) ∧ w'.cell? ⟨bt, 2, none⟩ = some (.int .u64 c0) ∧ w'.cell? ⟨bt, 3, none⟩ = some (.int .u64 c1) ∧ w'.cell? ⟨bt, 4, none⟩ = some (.int .u64 c2) ∧ w'.cell? ⟨bt, 5, none⟩ = some (.int .u64 c3) ∧ w'.cell? ⟨bt, 6, none⟩ = some (.string T) ∧ w'.cell? ⟨bt, 7, none⟩ = some (.int .i64 L) ∧ w'.cell? ⟨bt, 8, none⟩ = some (.int .i64 H) ∧ w'.cell? ⟨w.heap.size, 0, none⟩ = some (.string ⟨#[34]⟩)) (go_keep) (fail)
      go_wp2
      have e : (((x.length + 1 : Nat) : Int) + 1) = 1 + ((bs x).size : Int) + 1 := by rw [bs_size]; omega
      have hw1 : IntKind.i64.wrap (1 + ((bs x).size : Int)) = 1 + ((bs x).size : Int) := IntWalk.i64_in _ (by omega)
      have hw2 : IntKind.i64.wrap (1 + ((bs x).size : Int) + 1) = 1 + ((bs x).size : Int) + 1 := IntWalk.i64_in _ (by omega)
      exact bodyPost_ret (v := .tuple #[.agg #[.int .i64 K, .int .i64 A, .int .u64 c0, .int .u64 c1, .int .u64 c2, .int .u64 c3, .string T, .int .i64 L, .int .i64 H], .int .i64 (1 + ((bs x).size : Int) + 1), .int .i64 0]) (by simp [results, Tryz.results85, go_sem, S0.out, S1.out, S2.out, S3.out, S4.out, S5.out, S6.out, S7.out, S8.out, hw1, hw2]) rfl ⟨by rw [HV.out, e], (below9 HZ3.out.bel (Nat.le_succ _) _ _ _ _ _ _ _ _ _).drew⟩
set_option maxHeartbeats 8000000 in
set_option maxRecDepth 100000 in
theorem read_rep (s : ByteArray) (rest : List UInt8) (w : World) (hT : U8T w) (hl : rest.length ≤ 1073741824) (h1 : (1 : Int) ≤ (s.size : Int)) (hx : s.extract 1 s.size = bs rest) :
    Calls Tryz.prog 85 #[.agg #[.string ⟨#[125]⟩, .int .i64 4, (.func (.func 114) #[] #[])], .string s] w (Ans w (oneR (closed 125 4 rest repF))) := by
  have hsz : (bs rest).size ≤ 4294967296 := by rw [bs_size]; omega
  have HX := Lib.hid hx
  have HR := Lib.hid (RdS.new w ⟨#[125]⟩ 4 (.func (.func 114) #[] #[]) hT)
  clear hx hT
  cases hc : cutAt 125 rest with
  | none =>
    have HC : Hid (cutAt 125 (bs rest).data.toList = none) := hc
    have HV : Hid (oneR (closed 125 4 rest repF) = .tuple #[.agg z9, .int .i64 0, .int .i64 4]) := by unfold Hid closed; rw [hc]; rfl
    clear hc
    generalize oneR (closed 125 4 rest repF) = v at *
    go_enter Tryz.func85, Tryz.ntmps85
    go_upto_region 1 with (fail)
    refine wp_region_stable (S := (RdS w ⟨#[125]⟩ 4 (.func (.func 114) #[] #[]))) (hSt := fun _ _ h hb => h.later hb) (plan := [[(1, none)], [(13, some 0)], [(2, none)], [(15, some 2)], [(14, some 1), (16, some 3)], [(17, some 4)], [(12, some 5)], [(12, some 5)], [(12, some 5)], [(18, some 6)], [(19, some 7)], [(20, some 8)]]) (by kernel_rfl) (by kernel_rfl) (by kernel_rfl) ?hS ?_
    rotate_left
    iterate 12 first
      | (refine chain_skip (by rfl) (by rfl) ?_)
      | (apply chain_want (by rfl)
         · intro act wx hS hr
           simp at hr
           have hx := HX.out
           obtain ⟨b0, b1, b2⟩ := box_cells hS.box
           go_simp
           (try go_ints)
           first
             | ((with_reducible refine (cut_miss _ _ _ HC.out).mono ?_); rintro e w' ⟨rfl, hb⟩; exact Done.mk hb)
             | exact Done.same
        )
    show ∀ w', _ → _
    intro wz hz
    simp [Act.put]
    case hS => exact HR.out
    obtain ⟨b0, b1, b2⟩ := box_cells hz.box
    have HZ := Lib.hid hz
    clear hz
    go_upto_region 3 with (fail)
    have hk := HZ.out.res
    unfold z9 at hk
    have ef := hk.frozen
    obtain ⟨e0, e1, e2, e3, e4, e5, e6, e7, e8⟩ := nine_cells hk
    obtain ⟨s0, s1, s2, s3, s4, s5, s6, s7, s8⟩ := nine hk
    clear hk
    have S0 := Lib.hid s0
    have S1 := Lib.hid s1
    have S2 := Lib.hid s2
    have S3 := Lib.hid s3
    have S4 := Lib.hid s4
    have S5 := Lib.hid s5
    have S6 := Lib.hid s6
    have S7 := Lib.hid s7
    have S8 := Lib.hid s8
    clear s0 s1 s2 s3 s4 s5 s6 s7 s8
    go_region_held3 (fun w' => w'.cell? ⟨w.heap.size, 1, none⟩ = some (.int .i64 4)) (go_keep) (fail)
    go_wp2
    exact bodyPost_ret (v := .tuple #[.agg #[.int .i64 0, .int .i64 0, .int .u64 0, .int .u64 0, .int .u64 0, .int .u64 0, .string ⟨#[]⟩, .int .i64 0, .int .i64 0], .int .i64 0, .int .i64 4]) (by simp [results, Tryz.results85, go_sem, S0.out, S1.out, S2.out, S3.out, S4.out, S5.out, S6.out, S7.out, S8.out]) rfl ⟨by rw [HV.out]; rfl, (below9 HZ.out.bel (Nat.le_succ _) _ _ _ _ _ _ _ _ _).drew⟩
  | some p =>
    obtain ⟨x, y⟩ := p
    have HC : Hid (cutAt 125 (bs rest).data.toList = some (x, y)) := hc
    have hxl : x.length ≤ 1073741824 := by have := congrArg List.length (cutAt_some hc).1; simp at this; omega
    have hcl : closed 125 4 rest repF = repF x := by unfold closed; rw [hc]
    clear hc
    cases hv : repV x with
    | none =>
      have HN : Hid (tokR ((repV x).map repTok) = .tuple #[.agg #[.int .i64 0, .int .i64 0, .int .u64 0, .int .u64 0, .int .u64 0, .int .u64 0, .string ⟨#[]⟩, .int .i64 0, .int .i64 0], .bool false]) := by unfold Hid; rw [hv]; rfl
      have HV : Hid (oneR (closed 125 4 rest repF) = .tuple #[.agg z9, .int .i64 0, .int .i64 4]) := by unfold Hid; rw [hcl]; unfold repF; rw [hv]; rfl
      clear hv hcl
      generalize oneR (closed 125 4 rest repF) = v at *
      go_enter Tryz.func85, Tryz.ntmps85
      go_upto_region 1 with (fail)
      refine wp_region_stable (S := (RdS w ⟨#[125]⟩ 4 (.func (.func 114) #[] #[]))) (hSt := fun _ _ h hb => h.later hb) (plan := [[(1, none)], [(13, some 0)], [(2, none)], [(15, some 2)], [(14, some 1), (16, some 3)], [(17, some 4)], [(12, some 5)], [(12, some 5)], [(12, some 5)], [(18, some 6)], [(19, some 7)], [(20, some 8)]]) (by kernel_rfl) (by kernel_rfl) (by kernel_rfl) ?hS ?_
      rotate_left
      iterate 12 first
        | (refine chain_skip (by rfl) (by rfl) ?_)
        | (apply chain_want (by rfl)
           · intro act wx hS hr
             simp at hr
             have hx := HX.out
             obtain ⟨b0, b1, b2⟩ := box_cells hS.box
             go_simp
             (try go_ints)
             first
               | ((with_reducible refine (cut_hit _ _ _ _ _ HC.out hsz).mono ?_); rintro e w' ⟨rfl, hb⟩; exact Done.mk hb)
               | exact Done.same
          )
      show ∀ w', _ → _
      intro wz hz
      simp [Act.put]
      case hS => exact HR.out
      obtain ⟨b0, b1, b2⟩ := box_cells hz.box
      have HZ := Lib.hid hz
      clear hz
      go_wp2_with fail
      refine (reptok_any x _ hxl).mono ?_; rintro e w3 ⟨rfl, hb3⟩
      rw [HN.out]
      have HZ3 := Lib.hid ((HZ.out.later hb3).later ((Below.refl _ _).alloc (Nat.le_refl _) (.cells #[.int .i64 0, .int .i64 0, .int .u64 0, .int .u64 0, .int .u64 0, .int .u64 0, .string ⟨#[]⟩, .int .i64 0, .int .i64 0] 76)))
      clear hb3 HN b0 b1 b2
      go_upto_region 6 with (fail)
      generalize w3.alloc (.cells #[.int .i64 0, .int .i64 0, .int .u64 0, .int .u64 0, .int .u64 0, .int .u64 0, .string ⟨#[]⟩, .int .i64 0, .int .i64 0] 76) = w4 at *
      obtain ⟨b0, b1, b2⟩ := box_cells HZ3.out.box
      have hk := HZ3.out.res
      unfold z9 at hk
      have ef := hk.frozen
      obtain ⟨e0, e1, e2, e3, e4, e5, e6, e7, e8⟩ := nine_cells hk
      obtain ⟨s0, s1, s2, s3, s4, s5, s6, s7, s8⟩ := nine hk
      clear hk
      have S0 := Lib.hid s0
      have S1 := Lib.hid s1
      have S2 := Lib.hid s2
      have S3 := Lib.hid s3
      have S4 := Lib.hid s4
      have S5 := Lib.hid s5
      have S6 := Lib.hid s6
      have S7 := Lib.hid s7
      have S8 := Lib.hid s8
      clear s0 s1 s2 s3 s4 s5 s6 s7 s8
      go_region_held3 (fun w' => w'.cell? ⟨w.heap.size, 1, none⟩ = some (.int .i64 4)) (go_keep) (fail)
      go_wp2
      exact bodyPost_ret (v := .tuple #[.agg #[.int .i64 0, .int .i64 0, .int .u64 0, .int .u64 0, .int .u64 0, .int .u64 0, .string ⟨#[]⟩, .int .i64 0, .int .i64 0], .int .i64 0, .int .i64 4]) (by simp [results, Tryz.results85, go_sem, S0.out, S1.out, S2.out, S3.out, S4.out, S5.out, S6.out, S7.out, S8.out]) rfl ⟨by rw [HV.out]; rfl, (below9 HZ3.out.bel (Nat.le_succ _) _ _ _ _ _ _ _ _ _).drew⟩
    | some t =>
      have HN : Hid (tokR ((repV x).map repTok) = .tuple #[.agg (tokC (repTok t)), .bool true]) := by unfold Hid; rw [hv]; rfl
      by_cases hcond : 255 < t.2 ∨ t.2 < t.1
      · have HV : Hid (oneR (closed 125 4 rest repF) = .tuple #[.agg z9, .int .i64 0, .int .i64 5]) := by unfold Hid; rw [hcl]; unfold repF; rw [hv]; simp only; rw [if_pos hcond]; rfl
        clear hv hcl
        generalize oneR (closed 125 4 rest repF) = v at *
        have hxs : ((bs x).size : Int) = (x.length : Int) := by rw [bs_size]
        have HXS := Lib.hid hxs
        have hxs0 : (0 : Int) ≤ ((bs x).size : Int) := by omega
        have hxs1 : ((bs x).size : Int) ≤ 1073741824 := by omega
        clear hxs
        go_enter Tryz.func85, Tryz.ntmps85
        go_upto_region 1 with (fail)
        refine wp_region_stable (S := (RdS w ⟨#[125]⟩ 4 (.func (.func 114) #[] #[]))) (hSt := fun _ _ h hb => h.later hb) (plan := [[(1, none)], [(13, some 0)], [(2, none)], [(15, some 2)], [(14, some 1), (16, some 3)], [(17, some 4)], [(12, some 5)], [(12, some 5)], [(12, some 5)], [(18, some 6)], [(19, some 7)], [(20, some 8)]]) (by kernel_rfl) (by kernel_rfl) (by kernel_rfl) ?hS ?_
        rotate_left
        iterate 12 first
          | (refine chain_skip (by rfl) (by rfl) ?_)
          | (apply chain_want (by rfl)
             · intro act wx hS hr
               simp at hr
               have hx := HX.out
               obtain ⟨b0, b1, b2⟩ := box_cells hS.box
               go_simp
               (try go_ints)
               first
                 | ((with_reducible refine (cut_hit _ _ _ _ _ HC.out hsz).mono ?_); rintro e w' ⟨rfl, hb⟩; exact Done.mk hb)
                 | exact Done.same
            )
        show ∀ w', _ → _
        intro wz hz
        simp [Act.put]
        case hS => exact HR.out
        obtain ⟨b0, b1, b2⟩ := box_cells hz.box
        have HZ := Lib.hid hz
        clear hz
        go_wp2_with fail
        refine (reptok_any x _ hxl).mono ?_; rintro e w3 ⟨rfl, hb3⟩
        rw [HN.out]
        have HZ3 := Lib.hid ((HZ.out.later hb3).later ((Below.refl _ _).alloc (Nat.le_refl _) (.cells (tokC (repTok t)) 76)))
        have HT3 := Lib.hid (Blk.new w3 (tokC (repTok t)) 76)
        have hlt3 := (HZ.out.later hb3).res.lt
        clear hb3 HN b0 b1 b2
        by_cases h2 : 255 < t.2
        · have h255 : (((repTok t).hi : Nat) : Int) > 255 := by show ((t.2 : Nat) : Int) > 255; omega
          have h255' : (255 : Int) < (((repTok t).hi : Nat) : Int) := h255
          unfold tokC at HZ3 HT3 ⊢
          (try unfold tokC at HV)
          go_upto_region 7 with (fail)
          generalize ((repTok t).kind : Int) = K at *
          generalize ((repTok t).at_ : Int) = A at *
          generalize ((repTok t).lo : Int) = L at *
          generalize ((repTok t).hi : Int) = H at *
          generalize (wd (repTok t).cls 0 : Int) = c0 at *
          generalize (wd (repTok t).cls 1 : Int) = c1 at *
          generalize (wd (repTok t).cls 2 : Int) = c2 at *
          generalize (wd (repTok t).cls 3 : Int) = c3 at *
          generalize bs (repTok t).text = T at *
          generalize w3.alloc (.cells #[.int .i64 K, .int .i64 A, .int .u64 c0, .int .u64 c1, .int .u64 c2, .int .u64 c3, .string T, .int .i64 L, .int .i64 H] 76) = w4 at *
          generalize w3.heap.size = bt at *
          have hft := HT3.out.frozen
          obtain ⟨d0, d1, d2, d3, d4, d5, d6, d7, d8⟩ := nine_cells HT3.out
          obtain ⟨b0, b1, b2⟩ := box_cells HZ3.out.box
          have hbne : bt ≠ w.heap.size + 1 := by omega
          have hbne' : ¬ (w.heap.size + 1 = bt) := by omega
          go_upto_region 8 with (fail)
          have hk := HZ3.out.res
          unfold z9 at hk
          have ef := hk.frozen
          obtain ⟨e0, e1, e2, e3, e4, e5, e6, e7, e8⟩ := nine_cells hk
          obtain ⟨s0, s1, s2, s3, s4, s5, s6, s7, s8⟩ := nine hk
          clear hk
          have S0 := Lib.hid s0
          have S1 := Lib.hid s1
          have S2 := Lib.hid s2
          have S3 := Lib.hid s3
          have S4 := Lib.hid s4
          have S5 := Lib.hid s5
          have S6 := Lib.hid s6
          have S7 := Lib.hid s7
          have S8 := Lib.hid s8
          clear s0 s1 s2 s3 s4 s5 s6 s7 s8
          go_wp2
          exact bodyPost_ret (v := .tuple #[.agg #[.int .i64 0, .int .i64 0, .int .u64 0, .int .u64 0, .int .u64 0, .int .u64 0, .string ⟨#[]⟩, .int .i64 0, .int .i64 0], .int .i64 0, .int .i64 5]) (by simp [results, Tryz.results85, go_sem, S0.out, S1.out, S2.out, S3.out, S4.out, S5.out, S6.out, S7.out, S8.out]) rfl ⟨by rw [HV.out]; rfl, below9 HZ3.out.bel (Nat.le_succ _) _ _ _ _ _ _ _ _ _⟩
        · have h255 : ¬ (((repTok t).hi : Nat) : Int) > 255 := by show ¬ ((t.2 : Nat) : Int) > 255; omega
          have h255' : ¬ (255 : Int) < (((repTok t).hi : Nat) : Int) := h255
          have hlh : (((repTok t).lo : Nat) : Int) > (((repTok t).hi : Nat) : Int) := by show ((t.1 : Nat) : Int) > ((t.2 : Nat) : Int); omega
          have hlh' : (((repTok t).hi : Nat) : Int) < (((repTok t).lo : Nat) : Int) := hlh
          unfold tokC at HZ3 HT3 ⊢
          (try unfold tokC at HV)
          go_upto_region 7 with (fail)
          generalize ((repTok t).kind : Int) = K at *
          generalize ((repTok t).at_ : Int) = A at *
          generalize ((repTok t).lo : Int) = L at *
          generalize ((repTok t).hi : Int) = H at *
          generalize (wd (repTok t).cls 0 : Int) = c0 at *
          generalize (wd (repTok t).cls 1 : Int) = c1 at *
          generalize (wd (repTok t).cls 2 : Int) = c2 at *
          generalize (wd (repTok t).cls 3 : Int) = c3 at *
          generalize bs (repTok t).text = T at *
          generalize w3.alloc (.cells #[.int .i64 K, .int .i64 A, .int .u64 c0, .int .u64 c1, .int .u64 c2, .int .u64 c3, .string T, .int .i64 L, .int .i64 H] 76) = w4 at *
          generalize w3.heap.size = bt at *
          have hft := HT3.out.frozen
          obtain ⟨d0, d1, d2, d3, d4, d5, d6, d7, d8⟩ := nine_cells HT3.out
          obtain ⟨b0, b1, b2⟩ := box_cells HZ3.out.box
          have hbne : bt ≠ w.heap.size + 1 := by omega
          have hbne' : ¬ (w.heap.size + 1 = bt) := by omega
          go_upto_region 8 with (fail)
          have hk := HZ3.out.res
          unfold z9 at hk
          have ef := hk.frozen
          obtain ⟨e0, e1, e2, e3, e4, e5, e6, e7, e8⟩ := nine_cells hk
          obtain ⟨s0, s1, s2, s3, s4, s5, s6, s7, s8⟩ := nine hk
          clear hk
          have S0 := Lib.hid s0
          have S1 := Lib.hid s1
          have S2 := Lib.hid s2
          have S3 := Lib.hid s3
          have S4 := Lib.hid s4
          have S5 := Lib.hid s5
          have S6 := Lib.hid s6
          have S7 := Lib.hid s7
          have S8 := Lib.hid s8
          clear s0 s1 s2 s3 s4 s5 s6 s7 s8
          go_wp2
          exact bodyPost_ret (v := .tuple #[.agg #[.int .i64 0, .int .i64 0, .int .u64 0, .int .u64 0, .int .u64 0, .int .u64 0, .string ⟨#[]⟩, .int .i64 0, .int .i64 0], .int .i64 0, .int .i64 5]) (by simp [results, Tryz.results85, go_sem, S0.out, S1.out, S2.out, S3.out, S4.out, S5.out, S6.out, S7.out, S8.out]) rfl ⟨by rw [HV.out]; rfl, below9 HZ3.out.bel (Nat.le_succ _) _ _ _ _ _ _ _ _ _⟩
      · have HV : Hid (oneR (closed 125 4 rest repF) = .tuple #[.agg (tokC (repTok t)), .int .i64 (((x.length + 1 : Nat) : Int) + 1), .int .i64 0]) := by unfold Hid; rw [hcl]; unfold repF; rw [hv]; simp only; rw [if_neg hcond]; rfl
        clear hv hcl
        generalize oneR (closed 125 4 rest repF) = v at *
        have hxs : ((bs x).size : Int) = (x.length : Int) := by rw [bs_size]
        have HXS := Lib.hid hxs
        have hxs0 : (0 : Int) ≤ ((bs x).size : Int) := by omega
        have hxs1 : ((bs x).size : Int) ≤ 1073741824 := by omega
        clear hxs
        go_enter Tryz.func85, Tryz.ntmps85
        go_upto_region 1 with (fail)
        refine wp_region_stable (S := (RdS w ⟨#[125]⟩ 4 (.func (.func 114) #[] #[]))) (hSt := fun _ _ h hb => h.later hb) (plan := [[(1, none)], [(13, some 0)], [(2, none)], [(15, some 2)], [(14, some 1), (16, some 3)], [(17, some 4)], [(12, some 5)], [(12, some 5)], [(12, some 5)], [(18, some 6)], [(19, some 7)], [(20, some 8)]]) (by kernel_rfl) (by kernel_rfl) (by kernel_rfl) ?hS ?_
        rotate_left
        iterate 12 first
          | (refine chain_skip (by rfl) (by rfl) ?_)
          | (apply chain_want (by rfl)
             · intro act wx hS hr
               simp at hr
               have hx := HX.out
               obtain ⟨b0, b1, b2⟩ := box_cells hS.box
               go_simp
               (try go_ints)
               first
                 | ((with_reducible refine (cut_hit _ _ _ _ _ HC.out hsz).mono ?_); rintro e w' ⟨rfl, hb⟩; exact Done.mk hb)
                 | exact Done.same
            )
        show ∀ w', _ → _
        intro wz hz
        simp [Act.put]
        case hS => exact HR.out
        obtain ⟨b0, b1, b2⟩ := box_cells hz.box
        have HZ := Lib.hid hz
        clear hz
        go_wp2_with fail
        refine (reptok_any x _ hxl).mono ?_; rintro e w3 ⟨rfl, hb3⟩
        rw [HN.out]
        have HZ3 := Lib.hid ((HZ.out.later hb3).later ((Below.refl _ _).alloc (Nat.le_refl _) (.cells (tokC (repTok t)) 76)))
        have HT3 := Lib.hid (Blk.new w3 (tokC (repTok t)) 76)
        have hlt3 := (HZ.out.later hb3).res.lt
        clear hb3 HN b0 b1 b2
        have h255 : ¬ (((repTok t).hi : Nat) : Int) > 255 := by show ¬ ((t.2 : Nat) : Int) > 255; omega
        have hlh : ¬ (((repTok t).lo : Nat) : Int) > (((repTok t).hi : Nat) : Int) := by show ¬ ((t.1 : Nat) : Int) > ((t.2 : Nat) : Int); omega
        have h255' : ¬ (255 : Int) < (((repTok t).hi : Nat) : Int) := h255
        have hlh' : ¬ (((repTok t).hi : Nat) : Int) < (((repTok t).lo : Nat) : Int) := hlh
        unfold tokC at HZ3 HT3 ⊢
        (try unfold tokC at HV)
        go_upto_region 7 with (fail)
        generalize ((repTok t).kind : Int) = K at *
        generalize ((repTok t).at_ : Int) = A at *
        generalize ((repTok t).lo : Int) = L at *
        generalize ((repTok t).hi : Int) = H at *
        generalize (wd (repTok t).cls 0 : Int) = c0 at *
        generalize (wd (repTok t).cls 1 : Int) = c1 at *
        generalize (wd (repTok t).cls 2 : Int) = c2 at *
        generalize (wd (repTok t).cls 3 : Int) = c3 at *
        generalize bs (repTok t).text = T at *
        generalize w3.alloc (.cells #[.int .i64 K, .int .i64 A, .int .u64 c0, .int .u64 c1, .int .u64 c2, .int .u64 c3, .string T, .int .i64 L, .int .i64 H] 76) = w4 at *
        generalize w3.heap.size = bt at *
        have hft := HT3.out.frozen
        obtain ⟨d0, d1, d2, d3, d4, d5, d6, d7, d8⟩ := nine_cells HT3.out
        obtain ⟨b0, b1, b2⟩ := box_cells HZ3.out.box
        have hbne : bt ≠ w.heap.size + 1 := by omega
        have hbne' : ¬ (w.heap.size + 1 = bt) := by omega
        go_upto_region 9 with (fail)
        have hk := HZ3.out.res
        unfold z9 at hk
        have ef := hk.frozen
        obtain ⟨e0, e1, e2, e3, e4, e5, e6, e7, e8⟩ := nine_cells hk
        obtain ⟨s0, s1, s2, s3, s4, s5, s6, s7, s8⟩ := nine hk
        clear hk
        have S0 := Lib.hid s0
        have S1 := Lib.hid s1
        have S2 := Lib.hid s2
        have S3 := Lib.hid s3
        have S4 := Lib.hid s4
        have S5 := Lib.hid s5
        have S6 := Lib.hid s6
        have S7 := Lib.hid s7
        have S8 := Lib.hid s8
        clear s0 s1 s2 s3 s4 s5 s6 s7 s8
        go_region_held3 (fun w' => w'.cell? ⟨bt, 0, none⟩ = some (.int .i64 K) ∧ w'.cell? ⟨bt, 1, none⟩ = some (.int .i64 A) ∧ w'.cell? ⟨bt, 2, none⟩ = some (.int .u64 c0) ∧ w'.cell? ⟨bt, 3, none⟩ = some (.int .u64 c1) ∧ w'.cell? ⟨bt, 4, none⟩ = some (.int .u64 c2) ∧ w'.cell? ⟨bt, 5, none⟩ = some (.int .u64 c3) ∧ w'.cell? ⟨bt, 6, none⟩ = some (.string T) ∧ w'.cell? ⟨bt, 7, none⟩ = some (.int .i64 L) ∧ w'.cell? ⟨bt, 8, none⟩ = some (.int .i64 H) ∧ w'.cell? ⟨w.heap.size, 0, none⟩ = some (.string ⟨#[125]⟩)) (go_keep) (fail)
        go_wp2
        have e : (((x.length + 1 : Nat) : Int) + 1) = 1 + ((bs x).size : Int) + 1 := by rw [bs_size]; omega
        have hw1 : IntKind.i64.wrap (1 + ((bs x).size : Int)) = 1 + ((bs x).size : Int) := IntWalk.i64_in _ (by omega)
        have hw2 : IntKind.i64.wrap (1 + ((bs x).size : Int) + 1) = 1 + ((bs x).size : Int) + 1 := IntWalk.i64_in _ (by omega)
        exact bodyPost_ret (v := .tuple #[.agg #[.int .i64 K, .int .i64 A, .int .u64 c0, .int .u64 c1, .int .u64 c2, .int .u64 c3, .string T, .int .i64 L, .int .i64 H], .int .i64 (1 + ((bs x).size : Int) + 1), .int .i64 0]) (by simp [results, Tryz.results85, go_sem, S0.out, S1.out, S2.out, S3.out, S4.out, S5.out, S6.out, S7.out, S8.out, hw1, hw2]) rfl ⟨by rw [HV.out, e], (below9 HZ3.out.bel (Nat.le_succ _) _ _ _ _ _ _ _ _ _).drew⟩
set_option maxHeartbeats 8000000 in
set_option maxRecDepth 100000 in
theorem read_short (K c0 c1 c2 c3 : Int) (bk : Nat) (s : ByteArray) (rest : List UInt8) (w : World) (hT : U8T w) (hl : rest.length ≤ 1073741824) (h1 : (1 : Int) ≤ (s.size : Int)) (hx : s.extract 1 s.size = bs rest)
    (hbk : Blk w bk #[.int .i64 K, .int .i64 0, .int .u64 c0, .int .u64 c1, .int .u64 c2, .int .u64 c3, .string ⟨#[]⟩, .int .i64 0, .int .i64 0] 76) :
    Calls Tryz.prog 85 #[alV bk, .string s] w (Ans w (.tuple #[.agg #[.int .i64 K, .int .i64 0, .int .u64 c0, .int .u64 c1, .int .u64 c2, .int .u64 c3, .string ⟨#[]⟩, .int .i64 0, .int .i64 0], .int .i64 1, .int .i64 0])) := by
  have hsz : (bs rest).size ≤ 4294967296 := by rw [bs_size]; omega
  have HX := Lib.hid hx
  have HR := Lib.hid (RdS.new w ⟨#[]⟩ 0 (.func (.func 130) #[] #[.pointer (some ⟨bk, 0, none⟩)]) hT)
  have HBK := Lib.hid hbk
  have hbl := hbk.lt
  clear hx hT hbk
  unfold alV
  go_enter Tryz.func85, Tryz.ntmps85
  go_upto_region 1 with (fail)
  refine wp_region_stable (S := (RdS w ⟨#[]⟩ 0 (.func (.func 130) #[] #[.pointer (some ⟨bk, 0, none⟩)]))) (hSt := fun _ _ h hb => h.later hb) (plan := [[(1, none)], [(13, some 0)], [(2, none)], [(15, some 2)], [(14, some 1), (16, some 3)], [(17, some 4)], [(12, some 5)], [(12, some 5)], [(12, some 5)], [(18, some 6)], [(19, some 7)], [(20, some 8)]]) (by kernel_rfl) (by kernel_rfl) (by kernel_rfl) ?hS ?_
  rotate_left
  iterate 12 first
    | (refine chain_skip (by rfl) (by rfl) ?_)
    | (apply chain_want (by rfl)
       · intro act wx hS hr
         simp at hr
         have hx := HX.out
         obtain ⟨b0, b1, b2⟩ := box_cells hS.box
         go_simp
         (try go_ints)
         first
           | ((with_reducible refine (cut0_any _ _ hsz).mono ?_); rintro e w' ⟨rfl, hb⟩; exact Done.mk hb)
           | exact Done.same
      )
  show ∀ w', _ → _
  intro wz hz
  simp [Act.put]
  case hS => exact HR.out
  obtain ⟨b0, b1, b2⟩ := box_cells hz.box
  have HZ := Lib.hid hz
  have HB2 := Lib.hid (HBK.out.below hz.bel hbl)
  clear hz
  go_wp2_with fail
  refine (alone1_any K c0 c1 c2 c3 bk _ _ HB2.out).mono ?_; rintro e w3 ⟨rfl, hb3⟩
  have HZ3 := Lib.hid ((HZ.out.later hb3).later ((Below.refl _ _).alloc (Nat.le_refl _) (.cells #[.int .i64 K, .int .i64 0, .int .u64 c0, .int .u64 c1, .int .u64 c2, .int .u64 c3, .string ⟨#[]⟩, .int .i64 0, .int .i64 0] 76)))
  have HT3 := Lib.hid (Blk.new w3 #[.int .i64 K, .int .i64 0, .int .u64 c0, .int .u64 c1, .int .u64 c2, .int .u64 c3, .string ⟨#[]⟩, .int .i64 0, .int .i64 0] 76)
  have hlt3 := (HZ.out.later hb3).res.lt
  clear hb3 b0 b1 b2
  go_upto_region 7 with (fail)
  generalize w3.alloc (.cells #[.int .i64 K, .int .i64 0, .int .u64 c0, .int .u64 c1, .int .u64 c2, .int .u64 c3, .string ⟨#[]⟩, .int .i64 0, .int .i64 0] 76) = w4 at *
  generalize w3.heap.size = bt at *
  have hft := HT3.out.frozen
  obtain ⟨d0, d1, d2, d3, d4, d5, d6, d7, d8⟩ := nine_cells HT3.out
  obtain ⟨b0, b1, b2⟩ := box_cells HZ3.out.box
  have hbne : bt ≠ w.heap.size + 1 := by omega
  have hbne' : ¬ (w.heap.size + 1 = bt) := by omega
  go_upto_region 9 with (fail)
  have hk := HZ3.out.res
  unfold z9 at hk
  have ef := hk.frozen
  obtain ⟨e0, e1, e2, e3, e4, e5, e6, e7, e8⟩ := nine_cells hk
  obtain ⟨s0, s1, s2, s3, s4, s5, s6, s7, s8⟩ := nine hk
  clear hk
  have S0 := Lib.hid s0
  have S1 := Lib.hid s1
  have S2 := Lib.hid s2
  have S3 := Lib.hid s3
  have S4 := Lib.hid s4
  have S5 := Lib.hid s5
  have S6 := Lib.hid s6
  have S7 := Lib.hid s7
  have S8 := Lib.hid s8
  clear s0 s1 s2 s3 s4 s5 s6 s7 s8
  go_region_held3 (fun w' => w'.cell? ⟨bt, 0, none⟩ = some (.int .i64 K) ∧ w'.cell? ⟨bt, 1, none⟩ = some (.int .i64 0) ∧ w'.cell? ⟨bt, 2, none⟩ = some (.int .u64 c0) ∧ w'.cell? ⟨bt, 3, none⟩ = some (.int .u64 c1) ∧ w'.cell? ⟨bt, 4, none⟩ = some (.int .u64 c2) ∧ w'.cell? ⟨bt, 5, none⟩ = some (.int .u64 c3) ∧ w'.cell? ⟨bt, 6, none⟩ = some (.string ⟨#[]⟩) ∧ w'.cell? ⟨bt, 7, none⟩ = some (.int .i64 0) ∧ w'.cell? ⟨bt, 8, none⟩ = some (.int .i64 0) ∧ w'.cell? ⟨w.heap.size, 0, none⟩ = some (.string ⟨#[]⟩)) (go_keep) (fail)
  go_wp2
  have hw1 : IntKind.i64.wrap 1 = 1 := IntWalk.i64_in _ (by omega)
  exact bodyPost_ret (v := .tuple #[.agg #[.int .i64 K, .int .i64 0, .int .u64 c0, .int .u64 c1, .int .u64 c2, .int .u64 c3, .string ⟨#[]⟩, .int .i64 0, .int .i64 0], .int .i64 1, .int .i64 0]) (by simp [results, Tryz.results85, go_sem, S0.out, S1.out, S2.out, S3.out, S4.out, S5.out, S6.out, S7.out, S8.out, hw1]) rfl ⟨rfl, (below9 HZ3.out.bel (Nat.le_succ _) _ _ _ _ _ _ _ _ _).drew⟩
end Go.Proofs.YtcgjmnhmhiddkaaGreatDoor
