/- What a byte begins: the table of beginnings, walked. -/
import Derived.Test.YtgehepiphdphjaaDoorLexToks
import Derived.Test.YtgehepiphdphjaaDoorLexMap
import Derived.Test.YtgehepiphdphjaaDoorStable
import Derived.Laws.EntriesVeiled
namespace Go.Proofs.YtgehepiphdphjaaDoor
open Go Go.RowKit
set_option linter.unusedVariables false

/-- The beginning of a token of one byte, whose token is in such a box. -/
def alV (b : Nat) : Value := .agg #[.string ⟨#[]⟩, .int .i64 0, .func (.func 85) #[] #[.pointer (some ⟨b, 0, none⟩)]]
set_option maxHeartbeats 1000000 in
set_option maxRecDepth 100000 in
theorem alone_any (c0 c1 c2 c3 c4 c5 c6 c7 c8 : Value) (w : World) : Calls Tryd.prog 66 #[.agg #[c0, c1, c2, c3, c4, c5, c6, c7, c8]] w
    (fun e w' => e = .returned (alV w.heap.size) ∧ Blk w' w.heap.size #[c0, c1, c2, c3, c4, c5, c6, c7, c8] 71 ∧ Below w.heap.size w w') := by
  have HB := Lib.hid (Blk.new w #[c0, c1, c2, c3, c4, c5, c6, c7, c8] 71)
  go_enter Tryd.func66, Tryd.ntmps66
  go_wp2
  exact bodyPost_ret (v := alV w.heap.size) (by simp [results, Tryd.results66, go_sem, alV]) rfl ⟨rfl, HB.out.alloc _, by go_grown⟩
set_option maxHeartbeats 1000000 in
set_option maxRecDepth 100000 in
theorem alone1_any (k x0 x1 x2 x3 : Int) (b : Nat) (s : ByteArray) (w : World) (hb : Blk w b #[.int .i64 k, .int .i64 0, .int .u64 x0, .int .u64 x1, .int .u64 x2, .int .u64 x3, .string ⟨#[]⟩, .int .i64 0, .int .i64 0] 71) :
    Calls Tryd.prog 85 #[.string s, .pointer (some ⟨b, 0, none⟩)] w (Ans w (.tuple #[.agg #[.int .i64 k, .int .i64 0, .int .u64 x0, .int .u64 x1, .int .u64 x2, .int .u64 x3, .string ⟨#[]⟩, .int .i64 0, .int .i64 0], .bool true])) := by
  have hlt := hb.lt
  obtain ⟨e0, e1, e2, e3, e4, e5, e6, e7, e8⟩ := nine_cells hb
  have HB := Lib.hid hb
  clear hb
  go_enter Tryd.func85, Tryd.ntmps85
  go_wp2
  exact bodyPost_ret (v := .tuple #[.agg #[.int .i64 k, .int .i64 0, .int .u64 x0, .int .u64 x1, .int .u64 x2, .int .u64 x3, .string ⟨#[]⟩, .int .i64 0, .int .i64 0], .bool true]) (by simp [results, Tryd.results85, go_sem]) rfl ⟨rfl, by go_grown⟩

def begL (b1 b2 b3 b4 b5 b6 b7 : Nat) : List (Int × Value) := [(46, alV b1), (40, alV b2), (41, alV b3), (124, alV b4), (42, alV b5), (98, alV b6), (119, alV b7),
  (60, .agg #[.string ⟨#[62]⟩, .int .i64 2, .func (.func 67) #[] #[]]), (34, .agg #[.string ⟨#[34]⟩, .int .i64 3, .func (.func 68) #[] #[]]), (123, .agg #[.string ⟨#[125]⟩, .int .i64 4, .func (.func 69) #[] #[]])]
def kTok (k : Nat) : Array Value := #[.int .i64 (k : Int), .int .i64 0, .int .u64 0, .int .u64 0, .int .u64 0, .int .u64 0, .string ⟨#[]⟩, .int .i64 0, .int .i64 0]
def dotTok : Array Value := #[.int .i64 1, .int .i64 0, .int .u64 (wd (rowB 0 255) 0), .int .u64 (wd (rowB 0 255) 1), .int .u64 (wd (rowB 0 255) 2), .int .u64 (wd (rowB 0 255) 3), .string ⟨#[]⟩, .int .i64 0, .int .i64 0]
structure BegS (m b1 b2 b3 b4 b5 b6 b7 : Nat) (w : World) : Prop where
  map : IsMap w m (begL b1 b2 b3 b4 b5 b6 b7)
  t1 : Blk w b1 dotTok 71
  t2 : Blk w b2 (kTok 3) 71
  t3 : Blk w b3 (kTok 4) 71
  t4 : Blk w b4 (kTok 5) 71
  t5 : Blk w b5 (kTok 6) 71
  t6 : Blk w b6 (kTok 8) 71
  t7 : Blk w b7 (kTok 9) 71
/-- The table of beginnings. -/
def Known (m : Nat) (w : World) : Prop := ∃ b1 b2 b3 b4 b5 b6 b7, BegS m b1 b2 b3 b4 b5 b6 b7 w
theorem BegS.later {m b1 b2 b3 b4 b5 b6 b7 : Nat} {w w' : World} (h : BegS m b1 b2 b3 b4 b5 b6 b7 w) (hb : Below w.heap.size w w') : BegS m b1 b2 b3 b4 b5 b6 b7 w' :=
  ⟨h.map.later hb, h.t1.later hb, h.t2.later hb, h.t3.later hb, h.t4.later hb, h.t5.later hb, h.t6.later hb, h.t7.later hb⟩
theorem Known.later {m : Nat} {w w' : World} (h : Known m w) (hb : Below w.heap.size w w') : Known m w' := by
  obtain ⟨b1, b2, b3, b4, b5, b6, b7, h⟩ := h
  exact ⟨b1, b2, b3, b4, b5, b6, b7, h.later hb⟩
/-- The map as it grows, and the boxes so far. -/
structure Grw (w0 : World) (m : Nat) (l : List (Int × Value)) (bs : List (Nat × Array Value)) (w : World) : Prop where
  bel : Below w0.heap.size w0 w
  low : w0.heap.size ≤ m
  map : IsMap w m l
  box : ∀ p ∈ bs, Blk w p.1 p.2 71
theorem Grw.later {w0 : World} {m : Nat} {l : List (Int × Value)} {bs : List (Nat × Array Value)} {w w' : World} (h : Grw w0 m l bs w) (hb : Below w.heap.size w w') : Grw w0 m l bs w' :=
  ⟨h.bel.trans (hb.mono h.bel.size), h.low, h.map.later hb, fun p hp => (h.box p hp).later hb⟩
theorem Grw.put {w0 : World} {m : Nat} {l : List (Int × Value)} {bs : List (Nat × Array Value)} {w : World} (h : Grw w0 m l bs w) (l' : List (Int × Value)) : Grw w0 m l' bs (putMap w m l') :=
  ⟨putMap_below h.bel h.low l', h.low, putMap_is h.map.lt l', fun p hp => by
    have hne : p.1 ≠ m := fun e => by
      have h1 := h.box p hp
      have h2 := h.map
      unfold Blk at h1; unfold IsMap at h2
      rw [e, h2] at h1; cases h1
    exact (putMap_other hne l').trans (h.box p hp)⟩
theorem Grw.add {w0 : World} {m : Nat} {l : List (Int × Value)} {bs : List (Nat × Array Value)} {w : World} (h : Grw w0 m l bs w) {b : Nat} {cs : Array Value} (hk : Blk w b cs 71) : Grw w0 m l ((b, cs) :: bs) w :=
  ⟨h.bel, h.low, h.map, fun p hp => by rcases List.mem_cons.1 hp with rfl | hp; exact hk; exact h.box p hp⟩

set_option maxHeartbeats 8000000 in
set_option maxRecDepth 100000 in
theorem begin_any (w : World) : Calls Tryd.prog 47 #[] w (fun e w' => ∃ m, e = .returned (.map (some m)) ∧ Known m w' ∧ Below w.heap.size w w') := by
  have hmm := @run_makeMap Tryd.prog
  have H0 : Hid (Grw w w.heap.size [] [] (w.alloc (.map #[] 0))) := ⟨(Below.refl _ _).alloc (Nat.le_refl _) _, Nat.le_refl _, by unfold IsMap mapEs; show (w.heap.push _)[w.heap.size]? = _; simp, by simp⟩
  go_enter Tryd.func47, Tryd.ntmps47
  go_wp2_with fail
  generalize w.alloc (.map #[] 0) = w0 at *
  refine (of_any 0 255 (by decide) (by decide) _).mono ?_; rintro e wa ⟨rfl, hba⟩
  have H1 := Lib.hid (H0.out.later hba)
  clear hba
  unfold cls
  go_wp2_with fail
  generalize hb1 : wa.heap.size = b1 at *
  refine (alone_any _ _ _ _ _ _ _ _ _ _).mono ?_; rintro e wb1 ⟨rfl, hk, hb⟩
  rw [hb1] at hk
  have HN := Lib.hid ((H1.out.later hb).add hk)
  clear hk hb H1
  have hu := run_update_rune wb1 w.heap.size [] 46 (alV b1) HN.out.map rfl
  have P1 := Lib.hid (HN.out.put ([(46, alV b1)]))
  rw [hb1]
  clear hb1 HN
  go_wp2_with fail
  (try simp only [List.nil_append, List.cons_append] at P1 ⊢)
  generalize putMap wb1 w.heap.size [(46, alV b1)] = wc1 at *
  clear hu
  generalize hb2 : wc1.heap.size = b2 at *
  refine (alone_any _ _ _ _ _ _ _ _ _ _).mono ?_; rintro e wb2 ⟨rfl, hk, hb⟩
  rw [hb2] at hk
  have HN := Lib.hid ((P1.out.later hb).add hk)
  clear hk hb P1
  have hu := run_update_rune wb2 w.heap.size [(46, alV b1)] 40 (alV b2) HN.out.map rfl
  have P2 := Lib.hid (HN.out.put ([(46, alV b1), (40, alV b2)]))
  rw [hb2]
  clear hb2 HN
  go_wp2_with fail
  (try simp only [List.nil_append, List.cons_append] at P2 ⊢)
  generalize putMap wb2 w.heap.size [(46, alV b1), (40, alV b2)] = wc2 at *
  clear hu
  generalize hb3 : wc2.heap.size = b3 at *
  refine (alone_any _ _ _ _ _ _ _ _ _ _).mono ?_; rintro e wb3 ⟨rfl, hk, hb⟩
  rw [hb3] at hk
  have HN := Lib.hid ((P2.out.later hb).add hk)
  clear hk hb P2
  have hu := run_update_rune wb3 w.heap.size [(46, alV b1), (40, alV b2)] 41 (alV b3) HN.out.map rfl
  have P3 := Lib.hid (HN.out.put ([(46, alV b1), (40, alV b2), (41, alV b3)]))
  rw [hb3]
  clear hb3 HN
  go_wp2_with fail
  (try simp only [List.nil_append, List.cons_append] at P3 ⊢)
  generalize putMap wb3 w.heap.size [(46, alV b1), (40, alV b2), (41, alV b3)] = wc3 at *
  clear hu
  generalize hb4 : wc3.heap.size = b4 at *
  refine (alone_any _ _ _ _ _ _ _ _ _ _).mono ?_; rintro e wb4 ⟨rfl, hk, hb⟩
  rw [hb4] at hk
  have HN := Lib.hid ((P3.out.later hb).add hk)
  clear hk hb P3
  have hu := run_update_rune wb4 w.heap.size [(46, alV b1), (40, alV b2), (41, alV b3)] 124 (alV b4) HN.out.map rfl
  have P4 := Lib.hid (HN.out.put ([(46, alV b1), (40, alV b2), (41, alV b3), (124, alV b4)]))
  rw [hb4]
  clear hb4 HN
  go_wp2_with fail
  (try simp only [List.nil_append, List.cons_append] at P4 ⊢)
  generalize putMap wb4 w.heap.size [(46, alV b1), (40, alV b2), (41, alV b3), (124, alV b4)] = wc4 at *
  clear hu
  generalize hb5 : wc4.heap.size = b5 at *
  refine (alone_any _ _ _ _ _ _ _ _ _ _).mono ?_; rintro e wb5 ⟨rfl, hk, hb⟩
  rw [hb5] at hk
  have HN := Lib.hid ((P4.out.later hb).add hk)
  clear hk hb P4
  have hu := run_update_rune wb5 w.heap.size [(46, alV b1), (40, alV b2), (41, alV b3), (124, alV b4)] 42 (alV b5) HN.out.map rfl
  have P5 := Lib.hid (HN.out.put ([(46, alV b1), (40, alV b2), (41, alV b3), (124, alV b4), (42, alV b5)]))
  rw [hb5]
  clear hb5 HN
  go_wp2_with fail
  (try simp only [List.nil_append, List.cons_append] at P5 ⊢)
  generalize putMap wb5 w.heap.size [(46, alV b1), (40, alV b2), (41, alV b3), (124, alV b4), (42, alV b5)] = wc5 at *
  clear hu
  generalize hb6 : wc5.heap.size = b6 at *
  refine (alone_any _ _ _ _ _ _ _ _ _ _).mono ?_; rintro e wb6 ⟨rfl, hk, hb⟩
  rw [hb6] at hk
  have HN := Lib.hid ((P5.out.later hb).add hk)
  clear hk hb P5
  have hu := run_update_rune wb6 w.heap.size [(46, alV b1), (40, alV b2), (41, alV b3), (124, alV b4), (42, alV b5)] 98 (alV b6) HN.out.map rfl
  have P6 := Lib.hid (HN.out.put ([(46, alV b1), (40, alV b2), (41, alV b3), (124, alV b4), (42, alV b5), (98, alV b6)]))
  rw [hb6]
  clear hb6 HN
  go_wp2_with fail
  (try simp only [List.nil_append, List.cons_append] at P6 ⊢)
  generalize putMap wb6 w.heap.size [(46, alV b1), (40, alV b2), (41, alV b3), (124, alV b4), (42, alV b5), (98, alV b6)] = wc6 at *
  clear hu
  generalize hb7 : wc6.heap.size = b7 at *
  refine (alone_any _ _ _ _ _ _ _ _ _ _).mono ?_; rintro e wb7 ⟨rfl, hk, hb⟩
  rw [hb7] at hk
  have HN := Lib.hid ((P6.out.later hb).add hk)
  clear hk hb P6
  have hu := run_update_rune wb7 w.heap.size [(46, alV b1), (40, alV b2), (41, alV b3), (124, alV b4), (42, alV b5), (98, alV b6)] 119 (alV b7) HN.out.map rfl
  have P7 := Lib.hid (HN.out.put ([(46, alV b1), (40, alV b2), (41, alV b3), (124, alV b4), (42, alV b5), (98, alV b6), (119, alV b7)]))
  rw [hb7]
  clear hb7 HN
  have hv0 := run_update_rune (putMap wb7 w.heap.size [(46, alV b1), (40, alV b2), (41, alV b3), (124, alV b4), (42, alV b5), (98, alV b6), (119, alV b7)]) w.heap.size [(46, alV b1), (40, alV b2), (41, alV b3), (124, alV b4), (42, alV b5), (98, alV b6), (119, alV b7)] 60 (.agg #[.string ⟨#[62]⟩, .int .i64 2, .func (.func 67) #[] #[]]) P7.out.map rfl
  have P8 := Lib.hid (P7.out.put ([(46, alV b1), (40, alV b2), (41, alV b3), (124, alV b4), (42, alV b5), (98, alV b6), (119, alV b7), (60, .agg #[.string ⟨#[62]⟩, .int .i64 2, .func (.func 67) #[] #[]])]))
  (try simp only [List.nil_append, List.cons_append] at hv0)
  have hv1 := run_update_rune (putMap (putMap wb7 w.heap.size [(46, alV b1), (40, alV b2), (41, alV b3), (124, alV b4), (42, alV b5), (98, alV b6), (119, alV b7)]) w.heap.size [(46, alV b1), (40, alV b2), (41, alV b3), (124, alV b4), (42, alV b5), (98, alV b6), (119, alV b7), (60, .agg #[.string ⟨#[62]⟩, .int .i64 2, .func (.func 67) #[] #[]])]) w.heap.size [(46, alV b1), (40, alV b2), (41, alV b3), (124, alV b4), (42, alV b5), (98, alV b6), (119, alV b7), (60, .agg #[.string ⟨#[62]⟩, .int .i64 2, .func (.func 67) #[] #[]])] 34 (.agg #[.string ⟨#[34]⟩, .int .i64 3, .func (.func 68) #[] #[]]) P8.out.map rfl
  have P9 := Lib.hid (P8.out.put ([(46, alV b1), (40, alV b2), (41, alV b3), (124, alV b4), (42, alV b5), (98, alV b6), (119, alV b7), (60, .agg #[.string ⟨#[62]⟩, .int .i64 2, .func (.func 67) #[] #[]]), (34, .agg #[.string ⟨#[34]⟩, .int .i64 3, .func (.func 68) #[] #[]])]))
  (try simp only [List.nil_append, List.cons_append] at hv1)
  have hv2 := run_update_rune (putMap (putMap (putMap wb7 w.heap.size [(46, alV b1), (40, alV b2), (41, alV b3), (124, alV b4), (42, alV b5), (98, alV b6), (119, alV b7)]) w.heap.size [(46, alV b1), (40, alV b2), (41, alV b3), (124, alV b4), (42, alV b5), (98, alV b6), (119, alV b7), (60, .agg #[.string ⟨#[62]⟩, .int .i64 2, .func (.func 67) #[] #[]])]) w.heap.size [(46, alV b1), (40, alV b2), (41, alV b3), (124, alV b4), (42, alV b5), (98, alV b6), (119, alV b7), (60, .agg #[.string ⟨#[62]⟩, .int .i64 2, .func (.func 67) #[] #[]]), (34, .agg #[.string ⟨#[34]⟩, .int .i64 3, .func (.func 68) #[] #[]])]) w.heap.size [(46, alV b1), (40, alV b2), (41, alV b3), (124, alV b4), (42, alV b5), (98, alV b6), (119, alV b7), (60, .agg #[.string ⟨#[62]⟩, .int .i64 2, .func (.func 67) #[] #[]]), (34, .agg #[.string ⟨#[34]⟩, .int .i64 3, .func (.func 68) #[] #[]])] 123 (.agg #[.string ⟨#[125]⟩, .int .i64 4, .func (.func 69) #[] #[]]) P9.out.map rfl
  have P10 := Lib.hid (P9.out.put ([(46, alV b1), (40, alV b2), (41, alV b3), (124, alV b4), (42, alV b5), (98, alV b6), (119, alV b7), (60, .agg #[.string ⟨#[62]⟩, .int .i64 2, .func (.func 67) #[] #[]]), (34, .agg #[.string ⟨#[34]⟩, .int .i64 3, .func (.func 68) #[] #[]]), (123, .agg #[.string ⟨#[125]⟩, .int .i64 4, .func (.func 69) #[] #[]])]))
  (try simp only [List.nil_append, List.cons_append] at hv2)
  (try simp only [List.nil_append, List.cons_append] at hu)
  go_wp2
  go_ret
  have hG := P10.out
  refine ⟨w.heap.size, rfl, ⟨b1, b2, b3, b4, b5, b6, b7, hG.map, ?_, ?_, ?_, ?_, ?_, ?_, ?_⟩, hG.bel⟩
  · exact hG.box (b1, _) (by simp; done)
  · exact hG.box (b2, _) (by simp; done)
  · exact hG.box (b3, _) (by simp; done)
  · exact hG.box (b4, _) (by simp; done)
  · exact hG.box (b5, _) (by simp; done)
  · exact hG.box (b6, _) (by simp; done)
  · exact hG.box (b7, _) (by simp; done)
end Go.Proofs.YtgehepiphdphjaaDoor
