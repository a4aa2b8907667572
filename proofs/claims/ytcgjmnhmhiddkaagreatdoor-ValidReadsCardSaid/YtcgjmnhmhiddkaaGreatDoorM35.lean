/- Read: walked. -/
import Derived.Test.YtcgjmnhmhiddkaaGreatDoorM34
import Derived.Test.YtcgjmnhmhiddkaaGreatDoorM07
import Derived.Deep.DeepCutAuto
import Derived.Outline
namespace Go.Proofs.YtcgjmnhmhiddkaaGreatDoor
open Go Go.RowKit
set_option linter.unusedVariables false
theorem Blk.iter {w : World} {b k : Nat} {cs : Array Value} {t : TypeId} {s : ByteArray} {p : Nat} (h : Blk w b cs t) (hi : w.heap[k]? = some (.stringIter s p)) (p' : Nat) : Blk (w.iterAt k s p') b cs t := by
  have hne : b ≠ k := fun e => by unfold Blk at h; rw [e, hi] at h; cases h
  exact (Lib.iterAt_other w k b s p' hne).trans h
theorem IsMap.iter {w : World} {m k : Nat} {l : List (Int × Value)} {s : ByteArray} {p : Nat} (h : IsMap w m l) (hi : w.heap[k]? = some (.stringIter s p)) (p' : Nat) : IsMap (w.iterAt k s p') m l := by
  have hne : m ≠ k := fun e => by unfold IsMap at h; rw [e, hi] at h; cases h
  exact (Lib.iterAt_other w k m s p' hne).trans h
theorem OwnT.iter {w : World} {base k : Nat} {v : Value} {l : List Tok} {s : ByteArray} {p : Nat} (h : OwnT w base v l) (hi : w.heap[k]? = some (.stringIter s p)) (p' : Nat) : OwnT (w.iterAt k s p') base v l := by
  obtain ⟨h1, h2 | ⟨g, cap, cur, hv, hb, hg, hr⟩⟩ := h
  · exact ⟨h1, .inl h2⟩
  · exact ⟨h1, .inr ⟨g, cap, cur, hv, hb, Blk.iter (t := 76) hg hi p', hr⟩⟩
theorem U8T.iter {w : World} {k : Nat} {s : ByteArray} {p : Nat} (h : U8T w) (hi : w.heap[k]? = some (.stringIter s p)) (p' : Nat) (h1 : 0 ≠ k) (h2 : 1 ≠ k) : U8T (w.iterAt k s p') := by
  have e1 : ∀ b, b ≠ k → ∀ o, (w.iterAt k s p').cell? ⟨b, o, none⟩ = w.cell? ⟨b, o, none⟩ := fun b hb o => by
    have := Lib.iterAt_other w k b s p' hb
    simp [World.cell?, this]
  refine ⟨by rw [Lib.iterAt_size]; exact h.1, by rw [Lib.iterAt_size]; exact h.2.1, fun c hc => (e1 _ h1 c).trans (h.2.2.1 c hc), fun i hi => ⟨(e1 _ h2 _).trans (h.2.2.2 i hi).1, (e1 _ h2 _).trans (h.2.2.2 i hi).2⟩⟩
def KnownB (it m : Nat) (w : World) : Prop := ∃ b1 b2 b3 b4 b5 b6 b7, BegS m b1 b2 b3 b4 b5 b6 b7 w ∧ m < it ∧ b1 < it ∧ b2 < it ∧ b3 < it ∧ b4 < it ∧ b5 < it ∧ b6 < it ∧ b7 < it
theorem Known.bound {m : Nat} {w : World} (h : Known m w) : KnownB w.heap.size m w := by
  obtain ⟨b1, b2, b3, b4, b5, b6, b7, h⟩ := h
  exact ⟨b1, b2, b3, b4, b5, b6, b7, h, h.map.lt, h.t1.lt, h.t2.lt, h.t3.lt, h.t4.lt, h.t5.lt, h.t6.lt, h.t7.lt⟩
theorem KnownB.known {it m : Nat} {w : World} (h : KnownB it m w) : Known m w := by
  obtain ⟨b1, b2, b3, b4, b5, b6, b7, h, _⟩ := h
  exact ⟨b1, b2, b3, b4, b5, b6, b7, h⟩
theorem KnownB.below {it m B : Nat} {w w' : World} (h : KnownB it m w) (hb : Below B w w') (hB : it ≤ B) : KnownB it m w' := by
  obtain ⟨b1, b2, b3, b4, b5, b6, b7, h, l0, l1, l2, l3, l4, l5, l6, l7⟩ := h
  have k := fun {b : Nat} {cs : Array Value} (hk : Blk w b cs 76) (hl : b < it) => hk.below hb (Nat.lt_of_lt_of_le hl hB)
  exact ⟨b1, b2, b3, b4, b5, b6, b7, ⟨(hb.block m (Nat.lt_of_lt_of_le l0 hB)).trans h.map, k h.t1 l1, k h.t2 l2, k h.t3 l3, k h.t4 l4, k h.t5 l5, k h.t6 l6, k h.t7 l7⟩, l0, l1, l2, l3, l4, l5, l6, l7⟩
theorem KnownB.iter {it m k : Nat} {w : World} {s : ByteArray} {p : Nat} (h : KnownB it m w) (hi : w.heap[k]? = some (.stringIter s p)) (p' : Nat) : KnownB it m (w.iterAt k s p') := by
  obtain ⟨b1, b2, b3, b4, b5, b6, b7, h, hl⟩ := h
  exact ⟨b1, b2, b3, b4, b5, b6, b7, ⟨h.map.iter hi p', h.t1.iter hi p', h.t2.iter hi p', h.t3.iter hi p', h.t4.iter hi p', h.t5.iter hi p', h.t6.iter hi p', h.t7.iter hi p'⟩, hl⟩
theorem U8T.below {w w' : World} {B : Nat} (h : U8T w) (hb : Below B w w') (h1 : 0 < B) (h2 : 1 < B) (hs : w.heap.size ≤ w'.heap.size) : U8T w' :=
  ⟨Nat.lt_of_lt_of_le h.1 hs, Nat.lt_of_lt_of_le h.2.1 hs, fun c hc => (hb.cell (p := ⟨_, c, none⟩) h1).trans (h.2.2.1 c hc),
    fun i hi => ⟨(hb.cell (p := ⟨_, 2 * i, none⟩) h2).trans (h.2.2.2 i hi).1, (hb.cell (p := ⟨_, 2 * i + 1, none⟩) h2).trans (h.2.2.2 i hi).2⟩⟩
structure RdM (w0 : World) (m it : Nat) (l : List UInt8) (pos : Nat) (T : List Tok) (v : Value) (w : World) : Prop where
  bel : Below w0.heap.size w0 w
  low : w0.heap.size ≤ it
  known : KnownB it m w
  iter : w.heap[it]? = some (.stringIter (bs l) pos)
  own : OwnT w (it + 1) v T
  u8 : U8T w
  g1 : 0 < it
  g2 : 1 < it
theorem RdM.later {w0 : World} {m it : Nat} {l : List UInt8} {pos : Nat} {T : List Tok} {v : Value} {w w' : World} (h : RdM w0 m it l pos T v w) (hb : Below w.heap.size w w') : RdM w0 m it l pos T v w' := by
  have hlt : it < w.heap.size := (Array.getElem?_eq_some_iff.1 h.iter).1
  exact ⟨h.bel.trans (hb.mono h.bel.size), h.low, h.known.below hb (Nat.le_of_lt hlt), (hb.block it hlt).trans h.iter, h.own.later hb, h.u8.later hb, h.g1, h.g2⟩
theorem RdM.move {w0 : World} {m it : Nat} {l : List UInt8} {pos : Nat} {T : List Tok} {v : Value} {w : World} (h : RdM w0 m it l pos T v w) (p' : Nat) : RdM w0 m it l p' T v (w.iterAt it (bs l) p') :=
  ⟨Lib.below_iterAt h.bel h.low _ _, h.low, h.known.iter h.iter p', Lib.iterAt_heap _ _ _ _ _ h.iter, h.own.iter h.iter p', h.u8.iter h.iter p' (Nat.ne_of_lt h.g1) (Nat.ne_of_lt h.g2), h.g1, h.g2⟩
theorem RdM.grow {w0 : World} {m it : Nat} {l : List UInt8} {pos : Nat} {T T' : List Tok} {v v' : Value} {w w' : World} (h : RdM w0 m it l pos T v w) (hb : Below (it + 1) w w') (ho : OwnT w' (it + 1) v' T') : RdM w0 m it l pos T' v' w' :=
  ⟨h.bel.trans (hb.mono (Nat.le_trans h.low (Nat.le_succ _))), h.low, h.known.below hb (Nat.le_succ _), (hb.block it (Nat.lt_succ_self _)).trans h.iter, ho, h.u8.below hb (Nat.lt_succ_of_lt h.g1) (Nat.lt_succ_of_lt h.g2) hb.size, h.g1, h.g2⟩
structure RdP (l : List UInt8) (pos e : Nat) (T : List Tok) : Prop where
  inv : readL l 0 0 = (readL (l.drop pos) pos (e - pos)).map (T ++ ·)
  p1 : pos ≤ l.length
  e1 : e ≤ l.length
  asc : pos < e → (l.getD (e - 1) 0).toNat < 128
  cnt : T.length ≤ pos
theorem RdP.skip {l : List UInt8} {pos e : Nat} {T : List Tok} (h : RdP l pos e T) (hp : pos < l.length) (hlt : pos < e) : pos + (Utf8.decode (bs l) pos).2 ≤ e := by
  rcases Nat.lt_or_ge (l.getD pos 0).toNat 128 with hb | hb
  · rw [dec_small l pos hb]; show pos + 1 ≤ e; omega
  · obtain ⟨_, _, h1, h2, h3⟩ := dec_big l pos hp hb
    have ha := h.asc hlt
    rcases Nat.lt_or_ge e (pos + (Utf8.decode (bs l) pos).2) with hx | hx
    · exfalso
      by_cases h0 : e - 1 = pos
      · rw [h0] at ha; omega
      · have := h3 (e - 1 - pos) (by omega) (by omega)
        rw [show pos + (e - 1 - pos) = e - 1 by omega] at this; omega
    · exact hx
theorem RdP.skipped {l : List UInt8} {pos e : Nat} {T : List Tok} (h : RdP l pos e T) (q : Nat) (h1 : pos ≤ q) (h2 : q ≤ e) : RdP l q e T := by
  refine ⟨?_, by have := h.e1; omega, h.e1, fun hq => h.asc (by omega), by have := h.cnt; omega⟩
  rw [h.inv, readL_skip (l.drop pos) pos (e - pos) (q - pos) (by omega) (by rw [List.length_drop]; have := h.e1; omega), List.drop_drop, show pos + (q - pos) = q by omega, show e - pos - (q - pos) = e - q by omega]
theorem RdP.space {l : List UInt8} {pos e : Nat} {T : List Tok} (h : RdP l pos e T) (hp : pos < l.length) (hle : e ≤ pos) (hc : l.getD pos 0 = 32) : RdP l (pos + 1) e T := by
  refine ⟨?_, by omega, h.e1, fun hq => by omega, by have := h.cnt; omega⟩
  rw [h.inv, show e - pos = 0 by omega, show e - (pos + 1) = 0 by omega, drop_at hp, hc, readL_c0, if_pos rfl]
theorem RdP.bad {l : List UInt8} {pos e : Nat} {T : List Tok} (h : RdP l pos e T) (hp : pos < l.length) (hle : e ≤ pos) (hc : l.getD pos 0 ≠ 32) {f : Nat} (ho : oneV (l.getD pos 0) (l.drop (pos + 1)) = .bad f) : readL l 0 0 = .error (f, pos) := by
  rw [h.inv, show e - pos = 0 by omega, drop_at hp, readL_c0, if_neg hc, ho]; rfl
theorem RdP.tok {l : List UInt8} {pos e : Nat} {T : List Tok} (h : RdP l pos e T) (hp : pos < l.length) (hle : e ≤ pos) (hc : l.getD pos 0 ≠ 32) {t : Tok} {n : Nat} (ho : oneV (l.getD pos 0) (l.drop (pos + 1)) = .tok t n) :
    RdP l (pos + 1) (pos + (n + 1)) (T ++ [{ t with at_ := pos }]) := by
  obtain ⟨_, _, hn, hasc, _, _⟩ := oneV_tok ho
  rw [List.length_drop] at hn
  refine ⟨?_, by omega, by omega, fun hq => ?_, by simp; have := h.cnt; omega⟩
  · rw [h.inv, show e - pos = 0 by omega, drop_at hp, readL_c0, if_neg hc, ho, show pos + (n + 1) - (pos + 1) = n by omega]
    simp only
    cases readL (l.drop (pos + 1)) (pos + 1) n with
    | error z => rfl
    | ok r => simp [Except.map]
  · have := hasc (by omega)
    rw [show pos + (n + 1) - 1 = pos + 1 + (n - 1) by omega]
    have e2 : l.getD (pos + 1 + (n - 1)) 0 = (l.drop (pos + 1)).getD (n - 1) 0 := by
      rw [List.getD_eq_getElem?_getD, List.getD_eq_getElem?_getD, List.getElem?_drop]
    rw [e2]; exact this
theorem tokC_zero (k p : Nat) : tokC { kind := k, at_ := p } = #[.int .i64 (k : Int), .int .i64 (p : Int), .int .u64 0, .int .u64 0, .int .u64 0, .int .u64 0, .string ⟨#[]⟩, .int .i64 0, .int .i64 0] := by
  have z0 : wd 0#256 0 = 0 := by decide
  have z1 : wd 0#256 1 = 0 := by decide
  have z2 : wd 0#256 2 = 0 := by decide
  have z3 : wd 0#256 3 = 0 := by decide
  unfold tokC
  simp only [z0, z1, z2, z3]; rfl
set_option maxRecDepth 100000 in
theorem known_short {m : Nat} {w : World} (h : Known m w) {c : UInt8} {t : Tok} (hs : shortV c = some t) : ∃ (L : List (Int × Value)) (b i : Nat) (K c0 c1 c2 c3 : Int), IsMap w m L ∧ findE L (c.toNat : Int) 0 = some (i, alV b) ∧
    Blk w b #[.int .i64 K, .int .i64 0, .int .u64 c0, .int .u64 c1, .int .u64 c2, .int .u64 c3, .string ⟨#[]⟩, .int .i64 0, .int .i64 0] 76 ∧ ∀ p, tokC { t with at_ := p } = #[.int .i64 K, .int .i64 (p : Int), .int .u64 c0, .int .u64 c1, .int .u64 c2, .int .u64 c3, .string ⟨#[]⟩, .int .i64 0, .int .i64 0] := by
  obtain ⟨b1, b2, b3, b4, b5, b6, b7, h⟩ := h
  unfold shortV at hs
  split at hs
  · rename_i e; subst e; cases hs
    exact ⟨_, b1, _, 1, _, _, _, _, h.map, rfl, h.t1, fun p => rfl⟩
  split at hs
  · rename_i e; subst e; cases hs
    exact ⟨_, b2, _, 3, 0, 0, 0, 0, h.map, rfl, h.t2, fun p => tokC_zero 3 p⟩
  split at hs
  · rename_i e; subst e; cases hs
    exact ⟨_, b3, _, 4, 0, 0, 0, 0, h.map, rfl, h.t3, fun p => tokC_zero 4 p⟩
  split at hs
  · rename_i e; subst e; cases hs
    exact ⟨_, b4, _, 5, 0, 0, 0, 0, h.map, rfl, h.t4, fun p => tokC_zero 5 p⟩
  split at hs
  · rename_i e; subst e; cases hs
    exact ⟨_, b5, _, 6, 0, 0, 0, 0, h.map, rfl, h.t5, fun p => tokC_zero 6 p⟩
  split at hs
  · rename_i e; subst e; cases hs
    exact ⟨_, b6, _, 8, 0, 0, 0, 0, h.map, rfl, h.t6, fun p => tokC_zero 8 p⟩
  split at hs
  · rename_i e; subst e; cases hs
    exact ⟨_, b7, _, 9, 0, 0, 0, 0, h.map, rfl, h.t7, fun p => tokC_zero 9 p⟩
  cases hs
theorem known_cls {m : Nat} {w : World} (h : Known m w) : ∃ (L : List (Int × Value)) (i : Nat), IsMap w m L ∧ findE L 60 0 = some (i, .agg #[.string ⟨#[62]⟩, .int .i64 2, .func (.func 112) #[] #[]]) := by
  obtain ⟨b1, b2, b3, b4, b5, b6, b7, h⟩ := h; exact ⟨_, _, h.map, rfl⟩
theorem known_txt {m : Nat} {w : World} (h : Known m w) : ∃ (L : List (Int × Value)) (i : Nat), IsMap w m L ∧ findE L 34 0 = some (i, .agg #[.string ⟨#[34]⟩, .int .i64 3, .func (.func 113) #[] #[]]) := by
  obtain ⟨b1, b2, b3, b4, b5, b6, b7, h⟩ := h; exact ⟨_, _, h.map, rfl⟩
theorem known_rep {m : Nat} {w : World} (h : Known m w) : ∃ (L : List (Int × Value)) (i : Nat), IsMap w m L ∧ findE L 123 0 = some (i, .agg #[.string ⟨#[125]⟩, .int .i64 4, .func (.func 114) #[] #[]]) := by
  obtain ⟨b1, b2, b3, b4, b5, b6, b7, h⟩ := h; exact ⟨_, _, h.map, rfl⟩
theorem known_none {m : Nat} {w : World} (h : Known m w) (r : Int) (h1 : r ≠ 46) (h2 : r ≠ 40) (h3 : r ≠ 41) (h4 : r ≠ 124) (h5 : r ≠ 42) (h6 : r ≠ 98) (h7 : r ≠ 119) (h8 : r ≠ 60) (h9 : r ≠ 34) (h10 : r ≠ 123) :
    ∃ (L : List (Int × Value)), IsMap w m L ∧ findE L r 0 = none := by
  obtain ⟨b1, b2, b3, b4, b5, b6, b7, h⟩ := h
  refine ⟨_, h.map, ?_⟩
  unfold begL
  simp only [findE, if_neg (Ne.symm h1), if_neg (Ne.symm h2), if_neg (Ne.symm h3), if_neg (Ne.symm h4), if_neg (Ne.symm h5), if_neg (Ne.symm h6), if_neg (Ne.symm h7), if_neg (Ne.symm h8), if_neg (Ne.symm h9), if_neg (Ne.symm h10)]
theorem none_rune {l : List UInt8} {p : Nat} (hp : p < l.length) (hs : shortV (l.getD p 0) = none) (h60 : l.getD p 0 ≠ 60) (h34 : l.getD p 0 ≠ 34) (h123 : l.getD p 0 ≠ 123) (k : Nat) (hk : k = 46 ∨ k = 40 ∨ k = 41 ∨ k = 124 ∨ k = 42 ∨ k = 98 ∨ k = 119 ∨ k = 60 ∨ k = 34 ∨ k = 123) :
    (Utf8.decode (bs l) p).1 ≠ k := by
  rcases Nat.lt_or_ge (l.getD p 0).toNat 128 with hb | hb
  · rw [dec_small l p hb]
    show (l.getD p 0).toNat ≠ k
    intro e
    have hc : l.getD p 0 = UInt8.ofNat k := by rw [← e]; simp
    rw [hc] at hs h60 h34 h123
    rcases hk with rfl | rfl | rfl | rfl | rfl | rfl | rfl | rfl | rfl | rfl
    all_goals first | (exact h60 rfl) | (exact h34 rfl) | (exact h123 rfl) | (cases hs)
  · have := (dec_big l p hp hb).1
    omega
theorem na1 (w : World) (c : Array Value) (t : TypeId) : Blk (w.drew.alloc (.cells c t)) w.heap.size c t := heap_alloc_new w.drew _
theorem na2 (w : World) (c : Array Value) (t : TypeId) : Blk (w.alloc (.cells c t)).drew w.heap.size c t := heap_alloc_new w _
theorem na3 (w : World) (c : Array Value) (t : TypeId) : Blk (w.drew.alloc (.cells c t)).drew w.heap.size c t := heap_alloc_new w.drew _
def CutR (w3 : World) (cells : Array Value) (n f : Int) (s12 s13 s14 : Value) (wx : World) : Prop :=
  ∃ g, s12 = .pointer (some ⟨g, 0, none⟩) ∧ s13 = .int .i64 n ∧ s14 = .int .i64 f ∧ Below w3.heap.size w3 wx ∧ w3.heap.size ≤ g ∧ Blk wx g cells 76
def RdL (w0 : World) (m it : Nat) (l : List UInt8) (v5 v7 : Value) (w : World) : Prop := ∃ (pos e : Nat) (T : List Tok), v7 = .int .i64 (e : Int) ∧ RdM w0 m it l pos T v5 w ∧ RdP l pos e T
theorem OwnT.rowc {w : World} {base : Nat} {v : Value} {l : List Tok} (h : OwnT w base v l) : ∃ a cap, v = .slice a l.length cap ∧ TRow w a l ∧ l.length ≤ cap := by
  obtain ⟨a, cap, hv, hrow⟩ := h.row
  refine ⟨a, cap, hv, hrow, ?_⟩
  obtain ⟨_, ⟨_, hn⟩ | ⟨g, cap2, cur, hv2, hb, hg, hc, _⟩⟩ := h
  · omega
  · rw [hv] at hv2; cases hv2; exact hc
def RdPost (w : World) (l : List UInt8) (e : Ending) (w' : World) : Prop := match readL l 0 0 with
  | .ok r => ∃ A c, e = .returned (.tuple #[.slice A r.length c, .int .i64 0, .int .i64 0]) ∧ TRow w' A r ∧ Below w.heap.size w w' ∧ r.length ≤ c
  | .error (f, q) => e = .returned (.tuple #[.slice none 0 0, .int .i64 (f : Int), .int .i64 (q : Int)]) ∧ Below w.heap.size w w'
set_option maxHeartbeats 8000000 in
set_option maxRecDepth 100000 in
theorem lexread_any (l : List UInt8) (w : World) (hT : U8T w) (hl : l.length ≤ 1073741823) : Calls Tryz.prog 52 #[.string (bs l)] w (RdPost w l) := by
  have HT := Lib.hid hT
  clear hT
  go_enter Tryz.func52, Tryz.ntmps52
  go_wp2_with fail
  refine (begin_any _).mono ?_; rintro e w1 ⟨m, rfl, hkn, hb⟩
  have H1 : Hid (RdM w m w1.heap.size l 0 [] (.slice none 0 0) (w1.iter (bs l) 0)) := by
    have hb2 : Below w1.heap.size w1 (w1.iter (bs l) 0) := (Below.refl _ _).alloc (Nat.le_refl _) _
    have hT1 := HT.out.later hb
    exact ⟨hb.trans (hb2.mono hb.size), hb.size, hkn.bound.below hb2 (Nat.le_refl _), by have := World.iter_heap w1 (bs l) 0; simpa using this, OwnT.nil _ _, hT1.later hb2, hT1.1, hT1.2.1⟩
  clear hkn hb
  go_wp2
  generalize w1.heap.size = it at *
  go_loopw [5, 7] (RdL w m it l) (fun _ _ wr => l.length - wr.iterPos it)
  case atStart =>
    refine ⟨0, 0, [], rfl, H1.out, ?_, Nat.zero_le _, Nat.zero_le _, fun h => by omega, Nat.le_refl _⟩
    simp only [List.drop_zero, Nat.sub_self]
    cases readL l 0 0 <;> rfl
  case round =>
    obtain ⟨pos, e, T, rfl, hs, hq⟩ := hrel
    have HS := Lib.hid hs
    have HQ := Lib.hid hq
    have hit := hs.iter
    have HI := Lib.hid hit
    have hlt := (Array.getElem?_eq_some_iff.1 hit).1
    by_cases hp : pos < l.length
    · have hnx : ∀ ty, (Instr.next (.pointer (some ⟨it, 0, none⟩)) true ty).run Tryz.prog wr = _ := fun ty => Lib.run_next_any_at wr it (bs l) pos ty hit (by rw [bs_size]; exact hp)
      have hle1 := hq.e1
      by_cases hsk : pos < e
      · have hskz : (pos : Int) < (e : Int) := by omega
        have hskd : decide ((pos : Int) < (e : Int)) = true := by simp; omega
        have hw := hq.skip hp hsk
        have HM := Lib.hid (hs.move (pos + (Utf8.decode (bs l) pos).2))
        have HP := Lib.hid (hq.skipped (pos + (Utf8.decode (bs l) pos).2) (Nat.le_add_right _ _) hw)
        have hw1 : 1 ≤ (Utf8.decode (bs l) pos).2 := by
          rcases Nat.lt_or_ge (l.getD pos 0).toNat 128 with hb | hb
          · rw [dec_small l pos hb]; exact Nat.le_refl _
          · exact (dec_big l pos hp hb).2.2.1
        generalize (Utf8.decode (bs l) pos).2 = wd at *
        generalize (Utf8.decode (bs l) pos).1 = r at *
        clear hs hq hit
        go_wp2
        go_roundw
        case rel => exact ⟨pos + wd, e, T, rfl, HM.out, HP.out⟩
        case measure => simp only [World.iterPos, HM.out.iter, HI.out]; omega
      · have hskz : ¬ (pos : Int) < (e : Int) := by omega
        have hskd : decide ((pos : Int) < (e : Int)) = false := by simp; omega
        have hle : e ≤ pos := by omega
        by_cases h32 : l.getD pos 0 = 32
        · have hd : Utf8.decode (bs l) pos = (32, 1) := by rw [dec_small l pos (by rw [h32]; decide), h32]; rfl
          rw [hd] at hnx
          have HM := Lib.hid (hs.move (pos + 1))
          have HP := Lib.hid (hq.space hp hle h32)
          clear hs hq hit hd h32
          go_wp2
          go_roundw
          case rel => exact ⟨pos + 1, e, T, rfl, HM.out, HP.out⟩
          case measure => simp only [World.iterPos, HM.out.iter, HI.out]; omega
        · have hr32 : (Utf8.decode (bs l) pos).1 ≠ 32 := by
            rcases Nat.lt_or_ge (l.getD pos 0).toNat 128 with hb | hb
            · rw [dec_small l pos hb]
              intro e2
              exact h32 (UInt8.toNat_inj.1 e2)
            · have := (dec_big l pos hp hb).1; omega
          have hr32b : (((Utf8.decode (bs l) pos).1 : Int) == 32) = false := by rw [beq_eq_false_iff_ne]; omega
          have hr32c : ¬ (((Utf8.decode (bs l) pos).1 : Int) = 32) := by omega
          have HM := Lib.hid (hs.move (pos + (Utf8.decode (bs l) pos).2))
          by_cases hno : shortV (l.getD pos 0) = none ∧ l.getD pos 0 ≠ 60 ∧ l.getD pos 0 ≠ 34 ∧ l.getD pos 0 ≠ 123
          · obtain ⟨n1, n2, n3, n4⟩ := hno
            have hne := none_rune hp n1 n2 n3 n4
            obtain ⟨L, hm, hf⟩ := known_none HM.out.known.known ((Utf8.decode (bs l) pos).1 : Int) (by have := hne 46 (by simp); omega) (by have := hne 40 (by simp); omega) (by have := hne 41 (by simp); omega) (by have := hne 124 (by simp); omega) (by have := hne 42 (by simp); omega) (by have := hne 98 (by simp); omega) (by have := hne 119 (by simp); omega) (by have := hne 60 (by simp); omega) (by have := hne 34 (by simp); omega) (by have := hne 123 (by simp); omega)
            have hlk := run_lookup_rune _ m L ((Utf8.decode (bs l) pos).1 : Int) hm
            rw [hf] at hlk
            simp only at hlk
            have HR := Lib.hid (hq.bad hp hle h32 (by rw [oneV_eq, n1]; simp only [if_neg n2, if_neg n3, if_neg n4] : oneV (l.getD pos 0) (l.drop (pos + 1)) = .bad 1))
            clear hs hq hit h32 hm hf hne n1 n2 n3 n4 hr32
            go_upto_region 7 with (fail)
            generalize wr.iterAt it (bs l) (pos + (Utf8.decode (bs l) pos).2) = w2 at *
            generalize (Utf8.decode (bs l) pos).1 = r at *
            go_wp2
            go_ret3
            unfold RdPost
            rw [HR.out]
            exact ⟨rfl, HM.out.bel.alloc (HM.out.bel.size) _⟩
          · have hkind : (∃ t, shortV (l.getD pos 0) = some t) ∨ l.getD pos 0 = 60 ∨ l.getD pos 0 = 34 ∨ l.getD pos 0 = 123 := by
              cases hsv : shortV (l.getD pos 0) with
              | some t => exact .inl ⟨t, rfl⟩
              | none =>
                right
                by_cases n2 : l.getD pos 0 = 60
                · exact .inl n2
                · by_cases n3 : l.getD pos 0 = 34
                  · exact .inr (.inl n3)
                  · by_cases n4 : l.getD pos 0 = 123
                    · exact .inr (.inr n4)
                    · exact absurd ⟨hsv, n2, n3, n4⟩ hno
            clear hno
            rcases hkind with ⟨t, ht⟩ | h60 | h34 | h123
            · have hasc := (short_kind ht).2.2
              have hd : Utf8.decode (bs l) pos = ((l.getD pos 0).toNat, 1) := dec_small l pos hasc
              obtain ⟨L, bk, ix, K, c0, c1, c2, c3, hm, hf, hbk, htc⟩ := known_short HM.out.known.known ht
              rw [hd] at hnx HM hm hbk hr32b hr32c
              simp only at hr32b hr32c HM hnx hm hbk
              have hlk := run_lookup_rune _ m L ((l.getD pos 0).toNat : Int) hm
              rw [hf] at hlk
              simp only at hlk
              have ho : oneV (l.getD pos 0) (l.drop (pos + 1)) = .tok t 0 := by rw [oneV_eq, ht]
              have HP := Lib.hid (hq.tok hp hle h32 ho)
              have HBK := Lib.hid hbk
              have HTC := Lib.hid (htc pos)
              have hpl : (pos : Int) < (l.length : Int) := by omega
              clear hs hq hit h32 hm hf hd ho hr32 hbk htc ht
              generalize (l.getD pos 0).toNat = r at *
              generalize wr.iterAt it (bs l) (pos + 1) = w2 at *
              unfold alV at hlk
              have hsl : (bs l).extract pos (bs l).size = bs (l.drop pos) := by rw [bs_extract, bs_size, List.take_of_length_le (by rw [List.length_drop]; exact Nat.le_refl _)]
              have hsp : (pos : Int) ≤ ((bs l).size : Int) := by rw [bs_size]; omega
              have HSL := Lib.hid hsl
              clear hsl
              go_upto_region 11 with (fail)
              have HB3 : Below w2.heap.size w2 (w2.alloc (.cells #[.string ⟨#[]⟩, .int .i64 0, .func (.func 130) #[] #[.pointer (some ⟨bk, 0, none⟩)]] 146)) := (Below.refl _ _).alloc (Nat.le_refl _) _
              have HM3 := Lib.hid (HM.out.later HB3)
              have HBK3 := Lib.hid (HBK.out.later HB3)
              have hbx := Blk.new w2 #[.string ⟨#[]⟩, .int .i64 0, .func (.func 130) #[] #[.pointer (some ⟨bk, 0, none⟩)]] 146
              have hbxl := hbx.lt
              obtain ⟨b0, b1, b2⟩ := box_cells hbx
              clear HB3 hbx
              generalize w2.alloc (.cells #[.string ⟨#[]⟩, .int .i64 0, .func (.func 130) #[] #[.pointer (some ⟨bk, 0, none⟩)]] 146) = w3 at *
              generalize w2.heap.size = bx at *
              have hrl : (l.drop (pos + 1)).length ≤ 1073741824 := by rw [List.length_drop]; omega
              have hx1 : (1 : Int) ≤ ((bs (l.drop pos)).size : Int) := by rw [bs_size, List.length_drop]; omega
              have hx2 : (bs (l.drop pos)).extract 1 (bs (l.drop pos)).size = bs (l.drop (pos + 1)) := by rw [bs_extract, bs_size, List.drop_drop, List.take_of_length_le (by simp; omega)]
              have HX2 := Lib.hid hx2
              have hsl := HSL.out
              have hbxne : ¬ bx = w3.heap.size := by omega
              have hbxne2 : ¬ w3.heap.size = bx := by omega
              have HU : Hid (∀ w', Below w3.heap.size w3 w' → U8T w' ∧ Blk w' bk #[.int .i64 K, .int .i64 0, .int .u64 c0, .int .u64 c1, .int .u64 c2, .int .u64 c3, .string ⟨#[]⟩, .int .i64 0, .int .i64 0] 76) := fun w' hb => ⟨HM3.out.u8.later hb, HBK3.out.later hb⟩
              have HF : Hid (∀ w', Below w3.heap.size w3 w' → w'.cell? ⟨bx, 0, none⟩ = some (.string ⟨#[]⟩) ∧ w'.cell? ⟨bx, 1, none⟩ = some (.int .i64 0) ∧ w'.cell? ⟨bx, 2, none⟩ = some (.func (.func 130) #[] #[.pointer (some ⟨bk, 0, none⟩)])) := fun w' hb =>
                ⟨(hb.cell (p := ⟨bx, 0, none⟩) hbxl).trans b0, (hb.cell (p := ⟨bx, 1, none⟩) hbxl).trans b1, (hb.cell (p := ⟨bx, 2, none⟩) hbxl).trans b2⟩
              clear hx2
              go_cut [12, 13, 14] (CutR w3 #[.int .i64 K, .int .i64 0, .int .u64 c0, .int .u64 c1, .int .u64 c2, .int .u64 c3, .string ⟨#[]⟩, .int .i64 0, .int .i64 0] 1 0)
              case first =>
                go_region_held3 (fun w' => w'.cell? ⟨bx, 0, none⟩ = some (.string ⟨#[]⟩) ∧ w'.cell? ⟨bx, 1, none⟩ = some (.int .i64 0) ∧ w'.cell? ⟨bx, 2, none⟩ = some (.func (.func 130) #[] #[.pointer (some ⟨bk, 0, none⟩)])) (go_keep) (first | (go_at_call 85; refine (read_short K c0 c1 c2 c3 bk _ (l.drop (pos + 1)) _ (HU.out _ (by go_grown)).1 hrl hx1 HX2.out (HU.out _ (by go_grown)).2).mono ?_; rintro e w' ⟨rfl, hb⟩; have hbb : Below w3.heap.size w3 w' := (show Below w3.heap.size w3 _ from by go_grown).trans (hb.mono (by simp)); obtain ⟨q0, q1, q2⟩ := HF.out _ hbb; have HBB := Lib.hid hbb; have hwz : w3.heap.size ≤ w'.heap.size := hbb.size; have hn1 : ¬ bx = w'.heap.size := (by omega); have hn2 : ¬ w'.heap.size = bx := (by omega); (first | (have hA := Blk.later (Blk.new w3 #[.int .i64 0, .int .i64 0, .int .u64 0, .int .u64 0, .int .u64 0, .int .u64 0, .string ⟨#[]⟩, .int .i64 0, .int .i64 0] 76) hb; have HA := Lib.hid hA; obtain ⟨a0, a1, a2, a3, a4, a5, a6, a7, a8⟩ := nine_cells hA; have af := hA.frozen; clear hA) | (have hA := Blk.later (na1 w3 #[.int .i64 0, .int .i64 0, .int .u64 0, .int .u64 0, .int .u64 0, .int .u64 0, .string ⟨#[]⟩, .int .i64 0, .int .i64 0] 76) hb; have HA := Lib.hid hA; obtain ⟨a0, a1, a2, a3, a4, a5, a6, a7, a8⟩ := nine_cells hA; have af := hA.frozen; clear hA) | (have hA := Blk.later (na2 w3 #[.int .i64 0, .int .i64 0, .int .u64 0, .int .u64 0, .int .u64 0, .int .u64 0, .string ⟨#[]⟩, .int .i64 0, .int .i64 0] 76) hb; have HA := Lib.hid hA; obtain ⟨a0, a1, a2, a3, a4, a5, a6, a7, a8⟩ := nine_cells hA; have af := hA.frozen; clear hA) | (have hA := Blk.later (na3 w3 #[.int .i64 0, .int .i64 0, .int .u64 0, .int .u64 0, .int .u64 0, .int .u64 0, .string ⟨#[]⟩, .int .i64 0, .int .i64 0] 76) hb; have HA := Lib.hid hA; obtain ⟨a0, a1, a2, a3, a4, a5, a6, a7, a8⟩ := nine_cells hA; have af := hA.frozen; clear hA) | skip); clear hb hbb))
                · go_wp2_with fail
                  go_meet
                  case rel => exact ⟨_, rfl, rfl, rfl, HBB.out.alloc HBB.out.size _, HBB.out.size, Blk.new _ _ _⟩
                · go_wp2_with fail
                  go_meet
                  case rel => exact ⟨_, rfl, rfl, rfl, below9 HBB.out (Nat.le_refl _) _ _ _ _ _ _ _ _ _, Nat.le_refl _, nine_blk HA.out _ _ _ _ _ _ _ _ _⟩
              case rest =>
                obtain ⟨g, rfl, rfl, rfl, hbel, hg, hblk⟩ := hcut
                have hef := hblk.frozen
                obtain ⟨e0, e1, e2, e3, e4, e5, e6, e7, e8⟩ := nine_cells hblk
                have HB5 : Hid (Blk (wc.setCell ⟨g, 1, none⟩ (.int .i64 (pos : Int))) g #[.int .i64 K, .int .i64 (pos : Int), .int .u64 c0, .int .u64 c1, .int .u64 c2, .int .u64 c3, .string ⟨#[]⟩, .int .i64 0, .int .i64 0] 76) := hblk.setCell 1 (.int .i64 (pos : Int))
                have HM5 := Lib.hid (HM3.out.later (hbel.setCell (p := ⟨g, 1, none⟩) hg (.int .i64 (pos : Int))))
                clear hblk hbel
                go_upto_region 15 with (fail)
                clear e0 e1 e2 e3 e4 e5 e6 e7 e8 hef
                generalize wc.setCell ⟨g, 1, none⟩ (.int .i64 (pos : Int)) = w5 at *
                obtain ⟨e0, e1, e2, e3, e4, e5, e6, e7, e8⟩ := nine_cells HB5.out
                have hb5 := (Below.refl w5.heap.size w5).alloc (Nat.le_refl _) (.cells #[.int .i64 K, .int .i64 (pos : Int), .int .u64 c0, .int .u64 c1, .int .u64 c2, .int .u64 c3, .string ⟨#[]⟩, .int .i64 0, .int .i64 0] 76)
                have HM6 := Lib.hid (HM5.out.later hb5)
                have HK : Hid (Blk (w5.alloc (.cells #[.int .i64 K, .int .i64 (pos : Int), .int .u64 c0, .int .u64 c1, .int .u64 c2, .int .u64 c3, .string ⟨#[]⟩, .int .i64 0, .int .i64 0] 76)) w5.heap.size (tokC { t with at_ := pos }) 76) := by
                  unfold Hid; rw [HTC.out]; exact Blk.new _ _ _
                have hcnt' : T.length < 1073741824 := by have h1 := HQ.out.cnt; have h2 := HQ.out.p1; omega
                have hit5 := (Array.getElem?_eq_some_iff.1 HM5.out.iter).1
                have hbase : it + 1 ≤ (w5.alloc (.cells #[.int .i64 K, .int .i64 (pos : Int), .int .u64 c0, .int .u64 c1, .int .u64 c2, .int .u64 c3, .string ⟨#[]⟩, .int .i64 0, .int .i64 0] 76)).heap.size := by simp; omega
                have hpb : (pos : Int) + 1 ≤ 1073741824 := by omega
                clear hb5
                go_wp2_with (at_builtin; refine wpList_append_tok rfl _ _ rfl (it + 1) _ T rfl HM6.out.own w5.heap.size { t with at_ := pos } rfl HK.out hcnt' hbase ?_; intro v' w7 ho7 hb7; have HM7 := Lib.hid (HM6.out.grow (hb7 _ (Nat.le_refl _)) ho7); clear ho7 hb7)
                go_roundw
                case rel => exact ⟨pos + 1, pos + (0 + 1), _, by congr 1, HM7.out, HP.out⟩
                case measure => simp only [World.iterPos, HM7.out.iter, HI.out]; omega
            · have hc : l.getD pos 0 = 60 := h60
              have hd : Utf8.decode (bs l) pos = (60, 1) := by rw [dec_small l pos (by rw [hc]; decide), hc]; rfl
              have ho : oneV (l.getD pos 0) (l.drop (pos + 1)) = closed 62 2 (l.drop (pos + 1)) clsF := by rw [hc, oneV_eq]; rfl
              obtain ⟨L0, ix, hm, hf⟩ := known_cls HM.out.known.known
              rw [hd] at hnx HM hm hr32b hr32c
              simp only at hr32b hr32c HM hnx hm
              have hlk := run_lookup_rune _ m L0 60 hm
              rw [hf] at hlk
              simp only at hlk
              have hpl : (pos : Int) < (l.length : Int) := by omega
              obtain ⟨ov, hov⟩ : ∃ ov, closed 62 2 (l.drop (pos + 1)) clsF = ov := ⟨_, rfl⟩
              rw [hov] at ho
              have HE := Lib.hid (fun f (h : ov = .bad f) => hq.bad hp hle h32 (ho.trans h))
              have HEB := Lib.hid (fun f (h : ov = .bad f) => oneV_bad (ho.trans h))
              have HPT := Lib.hid (fun t n (h : ov = .tok t n) => hq.tok hp hle h32 (ho.trans h))
              have HOV0 := Lib.hid hov
              clear hs hq hit h32 hm hf hd ho hr32 hc h60 hov
              generalize wr.iterAt it (bs l) (pos + 1) = w2 at *
              have hsl : (bs l).extract pos (bs l).size = bs (l.drop pos) := by rw [bs_extract, bs_size, List.take_of_length_le (by rw [List.length_drop]; exact Nat.le_refl _)]
              have hsp : (pos : Int) ≤ ((bs l).size : Int) := by rw [bs_size]; omega
              have HSL := Lib.hid hsl
              clear hsl
              go_upto_region 11 with (fail)
              have HB3 : Below w2.heap.size w2 (w2.alloc (.cells #[.string ⟨#[62]⟩, .int .i64 2, .func (.func 112) #[] #[]] 146)) := (Below.refl _ _).alloc (Nat.le_refl _) _
              have HM3 := Lib.hid (HM.out.later HB3)
              have hbx := Blk.new w2 #[.string ⟨#[62]⟩, .int .i64 2, .func (.func 112) #[] #[]] 146
              have hbxl := hbx.lt
              obtain ⟨b0, b1, b2⟩ := box_cells hbx
              clear HB3 hbx
              generalize w2.alloc (.cells #[.string ⟨#[62]⟩, .int .i64 2, .func (.func 112) #[] #[]] 146) = w3 at *
              generalize w2.heap.size = bx at *
              have hrl : (l.drop (pos + 1)).length ≤ 1073741824 := by rw [List.length_drop]; omega
              have hx1 : (1 : Int) ≤ ((bs (l.drop pos)).size : Int) := by rw [bs_size, List.length_drop]; omega
              have hx2 : (bs (l.drop pos)).extract 1 (bs (l.drop pos)).size = bs (l.drop (pos + 1)) := by rw [bs_extract, bs_size, List.drop_drop, List.take_of_length_le (by simp; omega)]
              have HX2 := Lib.hid hx2
              have hsl := HSL.out
              have hbxne : ¬ bx = w3.heap.size := by omega
              have hbxne2 : ¬ w3.heap.size = bx := by omega
              have HU : Hid (∀ w', Below w3.heap.size w3 w' → U8T w') := fun w' hb => HM3.out.u8.later hb
              have HF : Hid (∀ w', Below w3.heap.size w3 w' → w'.cell? ⟨bx, 0, none⟩ = some (.string ⟨#[62]⟩) ∧ w'.cell? ⟨bx, 1, none⟩ = some (.int .i64 2) ∧ w'.cell? ⟨bx, 2, none⟩ = some (.func (.func 112) #[] #[])) := fun w' hb =>
                ⟨(hb.cell (p := ⟨bx, 0, none⟩) hbxl).trans b0, (hb.cell (p := ⟨bx, 1, none⟩) hbxl).trans b1, (hb.cell (p := ⟨bx, 2, none⟩) hbxl).trans b2⟩
              clear hx2
              cases ov with
              | bad f =>
                have HOV : Hid (oneR (closed 62 2 (l.drop (pos + 1)) clsF) = .tuple #[.agg #[.int .i64 0, .int .i64 0, .int .u64 0, .int .u64 0, .int .u64 0, .int .u64 0, .string ⟨#[]⟩, .int .i64 0, .int .i64 0], .int .i64 0, .int .i64 (f : Int)]) := by unfold Hid; rw [HOV0.out]; rfl
                have HR := Lib.hid (HE.out f rfl)
                have hf1 : ((f : Int) != 0) = true := by have := (HEB.out f rfl).1; rw [bne_iff_ne]; omega
                have hf2 : ¬ ((f : Int) = 0) := by have := (HEB.out f rfl).1; omega
                go_cut [12, 13, 14] (CutR w3 #[.int .i64 0, .int .i64 0, .int .u64 0, .int .u64 0, .int .u64 0, .int .u64 0, .string ⟨#[]⟩, .int .i64 0, .int .i64 0] 0 (f : Int))
                case first =>
                  go_region_held3 (fun w' => w'.cell? ⟨bx, 0, none⟩ = some (.string ⟨#[62]⟩) ∧ w'.cell? ⟨bx, 1, none⟩ = some (.int .i64 2) ∧ w'.cell? ⟨bx, 2, none⟩ = some (.func (.func 112) #[] #[])) (go_keep) (first | (go_at_call 85; refine (read_cls _ (l.drop (pos + 1)) _ (HU.out _ (by go_grown)) hrl hx1 HX2.out).mono ?_; rintro e w' ⟨rfl, hb⟩; rw [HOV.out]; have hbb : Below w3.heap.size w3 w' := (show Below w3.heap.size w3 _ from by go_grown).trans (hb.mono (by simp)); obtain ⟨q0, q1, q2⟩ := HF.out _ hbb; have HBB := Lib.hid hbb; have hwz : w3.heap.size ≤ w'.heap.size := hbb.size; have hn1 : ¬ bx = w'.heap.size := (by omega); have hn2 : ¬ w'.heap.size = bx := (by omega); (first | (have hA := Blk.later (Blk.new w3 #[.int .i64 0, .int .i64 0, .int .u64 0, .int .u64 0, .int .u64 0, .int .u64 0, .string ⟨#[]⟩, .int .i64 0, .int .i64 0] 76) hb; have HA := Lib.hid hA; obtain ⟨a0, a1, a2, a3, a4, a5, a6, a7, a8⟩ := nine_cells hA; have af := hA.frozen; clear hA) | (have hA := Blk.later (na1 w3 #[.int .i64 0, .int .i64 0, .int .u64 0, .int .u64 0, .int .u64 0, .int .u64 0, .string ⟨#[]⟩, .int .i64 0, .int .i64 0] 76) hb; have HA := Lib.hid hA; obtain ⟨a0, a1, a2, a3, a4, a5, a6, a7, a8⟩ := nine_cells hA; have af := hA.frozen; clear hA) | (have hA := Blk.later (na2 w3 #[.int .i64 0, .int .i64 0, .int .u64 0, .int .u64 0, .int .u64 0, .int .u64 0, .string ⟨#[]⟩, .int .i64 0, .int .i64 0] 76) hb; have HA := Lib.hid hA; obtain ⟨a0, a1, a2, a3, a4, a5, a6, a7, a8⟩ := nine_cells hA; have af := hA.frozen; clear hA) | (have hA := Blk.later (na3 w3 #[.int .i64 0, .int .i64 0, .int .u64 0, .int .u64 0, .int .u64 0, .int .u64 0, .string ⟨#[]⟩, .int .i64 0, .int .i64 0] 76) hb; have HA := Lib.hid hA; obtain ⟨a0, a1, a2, a3, a4, a5, a6, a7, a8⟩ := nine_cells hA; have af := hA.frozen; clear hA) | skip); clear hb hbb))
                  · go_wp2_with fail
                    go_meet
                    case rel => exact ⟨_, rfl, rfl, rfl, HBB.out.alloc HBB.out.size _, HBB.out.size, Blk.new _ _ _⟩
                  · go_wp2_with fail
                    go_meet
                    case rel => exact ⟨_, rfl, rfl, rfl, below9 HBB.out (Nat.le_refl _) _ _ _ _ _ _ _ _ _, Nat.le_refl _, nine_blk HA.out _ _ _ _ _ _ _ _ _⟩
                case rest =>
                  obtain ⟨g, rfl, rfl, rfl, hbel, hg, hblk⟩ := hcut
                  have HM4 := Lib.hid (HM3.out.later hbel)
                  clear hblk hbel
                  go_wp2
                  go_ret3
                  unfold RdPost
                  rw [HR.out]
                  exact ⟨rfl, HM4.out.bel⟩
              | tok t n =>
                have HP := Lib.hid (HPT.out t n rfl)
                have HOV : Hid (oneR (closed 62 2 (l.drop (pos + 1)) clsF) = .tuple #[.agg (tokC t), .int .i64 ((n : Int) + 1), .int .i64 0]) := by unfold Hid; rw [HOV0.out]; rfl
                have hnl : (n : Int) ≤ 1073741824 := by have := HP.out.e1; omega
                have HTC : Hid (tokC { t with at_ := pos } = #[.int .i64 (t.kind : Int), .int .i64 (pos : Int), .int .u64 (wd t.cls 0), .int .u64 (wd t.cls 1), .int .u64 (wd t.cls 2), .int .u64 (wd t.cls 3), .string (bs t.text), .int .i64 (t.lo : Int), .int .i64 (t.hi : Int)]) := rfl
                unfold tokC at HOV
                generalize hKK : (t.kind : Int) = K at HOV HTC
                generalize hAA : (t.at_ : Int) = A at HOV
                generalize hLL : (t.lo : Int) = L at HOV HTC
                generalize hHH : (t.hi : Int) = H at HOV HTC
                generalize hc0 : (wd t.cls 0 : Int) = c0 at HOV HTC
                generalize hc1 : (wd t.cls 1 : Int) = c1 at HOV HTC
                generalize hc2 : (wd t.cls 2 : Int) = c2 at HOV HTC
                generalize hc3 : (wd t.cls 3 : Int) = c3 at HOV HTC
                generalize hSS : bs t.text = S at HOV HTC
                clear hKK hAA hLL hHH hc0 hc1 hc2 hc3 hSS
                go_cut [12, 13, 14] (CutR w3 #[.int .i64 K, .int .i64 A, .int .u64 c0, .int .u64 c1, .int .u64 c2, .int .u64 c3, .string S, .int .i64 L, .int .i64 H] ((n : Int) + 1) 0)
                case first =>
                  go_region_held3 (fun w' => w'.cell? ⟨bx, 0, none⟩ = some (.string ⟨#[62]⟩) ∧ w'.cell? ⟨bx, 1, none⟩ = some (.int .i64 2) ∧ w'.cell? ⟨bx, 2, none⟩ = some (.func (.func 112) #[] #[])) (go_keep) (first | (go_at_call 85; refine (read_cls _ (l.drop (pos + 1)) _ (HU.out _ (by go_grown)) hrl hx1 HX2.out).mono ?_; rintro e w' ⟨rfl, hb⟩; rw [HOV.out]; have hbb : Below w3.heap.size w3 w' := (show Below w3.heap.size w3 _ from by go_grown).trans (hb.mono (by simp)); obtain ⟨q0, q1, q2⟩ := HF.out _ hbb; have HBB := Lib.hid hbb; have hwz : w3.heap.size ≤ w'.heap.size := hbb.size; have hn1 : ¬ bx = w'.heap.size := (by omega); have hn2 : ¬ w'.heap.size = bx := (by omega); (first | (have hA := Blk.later (Blk.new w3 #[.int .i64 0, .int .i64 0, .int .u64 0, .int .u64 0, .int .u64 0, .int .u64 0, .string ⟨#[]⟩, .int .i64 0, .int .i64 0] 76) hb; have HA := Lib.hid hA; obtain ⟨a0, a1, a2, a3, a4, a5, a6, a7, a8⟩ := nine_cells hA; have af := hA.frozen; clear hA) | (have hA := Blk.later (na1 w3 #[.int .i64 0, .int .i64 0, .int .u64 0, .int .u64 0, .int .u64 0, .int .u64 0, .string ⟨#[]⟩, .int .i64 0, .int .i64 0] 76) hb; have HA := Lib.hid hA; obtain ⟨a0, a1, a2, a3, a4, a5, a6, a7, a8⟩ := nine_cells hA; have af := hA.frozen; clear hA) | (have hA := Blk.later (na2 w3 #[.int .i64 0, .int .i64 0, .int .u64 0, .int .u64 0, .int .u64 0, .int .u64 0, .string ⟨#[]⟩, .int .i64 0, .int .i64 0] 76) hb; have HA := Lib.hid hA; obtain ⟨a0, a1, a2, a3, a4, a5, a6, a7, a8⟩ := nine_cells hA; have af := hA.frozen; clear hA) | (have hA := Blk.later (na3 w3 #[.int .i64 0, .int .i64 0, .int .u64 0, .int .u64 0, .int .u64 0, .int .u64 0, .string ⟨#[]⟩, .int .i64 0, .int .i64 0] 76) hb; have HA := Lib.hid hA; obtain ⟨a0, a1, a2, a3, a4, a5, a6, a7, a8⟩ := nine_cells hA; have af := hA.frozen; clear hA) | skip); clear hb hbb))
                  · go_wp2_with fail
                    go_meet
                    case rel => exact ⟨_, rfl, rfl, rfl, HBB.out.alloc HBB.out.size _, HBB.out.size, Blk.new _ _ _⟩
                  · go_wp2_with fail
                    go_meet
                    case rel => exact ⟨_, rfl, rfl, rfl, below9 HBB.out (Nat.le_refl _) _ _ _ _ _ _ _ _ _, Nat.le_refl _, nine_blk HA.out _ _ _ _ _ _ _ _ _⟩
                case rest =>
                  obtain ⟨g, rfl, rfl, rfl, hbel, hg, hblk⟩ := hcut
                  have hef := hblk.frozen
                  obtain ⟨e0, e1, e2, e3, e4, e5, e6, e7, e8⟩ := nine_cells hblk
                  have HB5 : Hid (Blk (wc.setCell ⟨g, 1, none⟩ (.int .i64 (pos : Int))) g #[.int .i64 K, .int .i64 (pos : Int), .int .u64 c0, .int .u64 c1, .int .u64 c2, .int .u64 c3, .string S, .int .i64 L, .int .i64 H] 76) := hblk.setCell 1 (.int .i64 (pos : Int))
                  have HM5 := Lib.hid (HM3.out.later (hbel.setCell (p := ⟨g, 1, none⟩) hg (.int .i64 (pos : Int))))
                  clear hblk hbel
                  go_upto_region 15 with (fail)
                  clear e0 e1 e2 e3 e4 e5 e6 e7 e8 hef
                  generalize wc.setCell ⟨g, 1, none⟩ (.int .i64 (pos : Int)) = w5 at *
                  obtain ⟨e0, e1, e2, e3, e4, e5, e6, e7, e8⟩ := nine_cells HB5.out
                  have hb5 := (Below.refl w5.heap.size w5).alloc (Nat.le_refl _) (.cells #[.int .i64 K, .int .i64 (pos : Int), .int .u64 c0, .int .u64 c1, .int .u64 c2, .int .u64 c3, .string S, .int .i64 L, .int .i64 H] 76)
                  have HM6 := Lib.hid (HM5.out.later hb5)
                  have HK : Hid (Blk (w5.alloc (.cells #[.int .i64 K, .int .i64 (pos : Int), .int .u64 c0, .int .u64 c1, .int .u64 c2, .int .u64 c3, .string S, .int .i64 L, .int .i64 H] 76)) w5.heap.size (tokC { t with at_ := pos }) 76) := by
                    unfold Hid; rw [HTC.out]; exact Blk.new _ _ _
                  have hcnt' : T.length < 1073741824 := by have h1 := HQ.out.cnt; have h2 := HQ.out.p1; omega
                  have hit5 := (Array.getElem?_eq_some_iff.1 HM5.out.iter).1
                  have hbase : it + 1 ≤ (w5.alloc (.cells #[.int .i64 K, .int .i64 (pos : Int), .int .u64 c0, .int .u64 c1, .int .u64 c2, .int .u64 c3, .string S, .int .i64 L, .int .i64 H] 76)).heap.size := by simp; omega
                  have hpb : (pos : Int) + ((n : Int) + 1) ≤ 2147483648 := by omega
                  clear hb5
                  go_wp2_with (at_builtin; refine wpList_append_tok rfl _ _ rfl (it + 1) _ T rfl HM6.out.own w5.heap.size { t with at_ := pos } rfl HK.out hcnt' hbase ?_; intro v' w7 ho7 hb7; have HM7 := Lib.hid (HM6.out.grow (hb7 _ (Nat.le_refl _)) ho7); clear ho7 hb7)
                  go_roundw
                  case rel => exact ⟨pos + 1, pos + (n + 1), _, by congr 1, HM7.out, HP.out⟩
                  case measure => simp only [World.iterPos, HM7.out.iter, HI.out]; omega
            · have hc : l.getD pos 0 = 34 := h34
              have hd : Utf8.decode (bs l) pos = (34, 1) := by rw [dec_small l pos (by rw [hc]; decide), hc]; rfl
              have ho : oneV (l.getD pos 0) (l.drop (pos + 1)) = closed 34 3 (l.drop (pos + 1)) txtF := by rw [hc, oneV_eq]; rfl
              obtain ⟨L0, ix, hm, hf⟩ := known_txt HM.out.known.known
              rw [hd] at hnx HM hm hr32b hr32c
              simp only at hr32b hr32c HM hnx hm
              have hlk := run_lookup_rune _ m L0 34 hm
              rw [hf] at hlk
              simp only at hlk
              have hpl : (pos : Int) < (l.length : Int) := by omega
              obtain ⟨ov, hov⟩ : ∃ ov, closed 34 3 (l.drop (pos + 1)) txtF = ov := ⟨_, rfl⟩
              rw [hov] at ho
              have HE := Lib.hid (fun f (h : ov = .bad f) => hq.bad hp hle h32 (ho.trans h))
              have HEB := Lib.hid (fun f (h : ov = .bad f) => oneV_bad (ho.trans h))
              have HPT := Lib.hid (fun t n (h : ov = .tok t n) => hq.tok hp hle h32 (ho.trans h))
              have HOV0 := Lib.hid hov
              clear hs hq hit h32 hm hf hd ho hr32 hc h34 hov
              generalize wr.iterAt it (bs l) (pos + 1) = w2 at *
              have hsl : (bs l).extract pos (bs l).size = bs (l.drop pos) := by rw [bs_extract, bs_size, List.take_of_length_le (by rw [List.length_drop]; exact Nat.le_refl _)]
              have hsp : (pos : Int) ≤ ((bs l).size : Int) := by rw [bs_size]; omega
              have HSL := Lib.hid hsl
              clear hsl
              go_upto_region 11 with (fail)
              have HB3 : Below w2.heap.size w2 (w2.alloc (.cells #[.string ⟨#[34]⟩, .int .i64 3, .func (.func 113) #[] #[]] 146)) := (Below.refl _ _).alloc (Nat.le_refl _) _
              have HM3 := Lib.hid (HM.out.later HB3)
              have hbx := Blk.new w2 #[.string ⟨#[34]⟩, .int .i64 3, .func (.func 113) #[] #[]] 146
              have hbxl := hbx.lt
              obtain ⟨b0, b1, b2⟩ := box_cells hbx
              clear HB3 hbx
              generalize w2.alloc (.cells #[.string ⟨#[34]⟩, .int .i64 3, .func (.func 113) #[] #[]] 146) = w3 at *
              generalize w2.heap.size = bx at *
              have hrl : (l.drop (pos + 1)).length ≤ 1073741824 := by rw [List.length_drop]; omega
              have hx1 : (1 : Int) ≤ ((bs (l.drop pos)).size : Int) := by rw [bs_size, List.length_drop]; omega
              have hx2 : (bs (l.drop pos)).extract 1 (bs (l.drop pos)).size = bs (l.drop (pos + 1)) := by rw [bs_extract, bs_size, List.drop_drop, List.take_of_length_le (by simp; omega)]
              have HX2 := Lib.hid hx2
              have hsl := HSL.out
              have hbxne : ¬ bx = w3.heap.size := by omega
              have hbxne2 : ¬ w3.heap.size = bx := by omega
              have HU : Hid (∀ w', Below w3.heap.size w3 w' → U8T w') := fun w' hb => HM3.out.u8.later hb
              have HF : Hid (∀ w', Below w3.heap.size w3 w' → w'.cell? ⟨bx, 0, none⟩ = some (.string ⟨#[34]⟩) ∧ w'.cell? ⟨bx, 1, none⟩ = some (.int .i64 3) ∧ w'.cell? ⟨bx, 2, none⟩ = some (.func (.func 113) #[] #[])) := fun w' hb =>
                ⟨(hb.cell (p := ⟨bx, 0, none⟩) hbxl).trans b0, (hb.cell (p := ⟨bx, 1, none⟩) hbxl).trans b1, (hb.cell (p := ⟨bx, 2, none⟩) hbxl).trans b2⟩
              clear hx2
              cases ov with
              | bad f =>
                have HOV : Hid (oneR (closed 34 3 (l.drop (pos + 1)) txtF) = .tuple #[.agg #[.int .i64 0, .int .i64 0, .int .u64 0, .int .u64 0, .int .u64 0, .int .u64 0, .string ⟨#[]⟩, .int .i64 0, .int .i64 0], .int .i64 0, .int .i64 (f : Int)]) := by unfold Hid; rw [HOV0.out]; rfl
                have HR := Lib.hid (HE.out f rfl)
                have hf1 : ((f : Int) != 0) = true := by have := (HEB.out f rfl).1; rw [bne_iff_ne]; omega
                have hf2 : ¬ ((f : Int) = 0) := by have := (HEB.out f rfl).1; omega
                go_cut [12, 13, 14] (CutR w3 #[.int .i64 0, .int .i64 0, .int .u64 0, .int .u64 0, .int .u64 0, .int .u64 0, .string ⟨#[]⟩, .int .i64 0, .int .i64 0] 0 (f : Int))
                case first =>
                  go_region_held3 (fun w' => w'.cell? ⟨bx, 0, none⟩ = some (.string ⟨#[34]⟩) ∧ w'.cell? ⟨bx, 1, none⟩ = some (.int .i64 3) ∧ w'.cell? ⟨bx, 2, none⟩ = some (.func (.func 113) #[] #[])) (go_keep) (first | (go_at_call 85; refine (read_txt _ (l.drop (pos + 1)) _ (HU.out _ (by go_grown)) hrl hx1 HX2.out).mono ?_; rintro e w' ⟨rfl, hb⟩; rw [HOV.out]; have hbb : Below w3.heap.size w3 w' := (show Below w3.heap.size w3 _ from by go_grown).trans (hb.mono (by simp)); obtain ⟨q0, q1, q2⟩ := HF.out _ hbb; have HBB := Lib.hid hbb; have hwz : w3.heap.size ≤ w'.heap.size := hbb.size; have hn1 : ¬ bx = w'.heap.size := (by omega); have hn2 : ¬ w'.heap.size = bx := (by omega); (first | (have hA := Blk.later (Blk.new w3 #[.int .i64 0, .int .i64 0, .int .u64 0, .int .u64 0, .int .u64 0, .int .u64 0, .string ⟨#[]⟩, .int .i64 0, .int .i64 0] 76) hb; have HA := Lib.hid hA; obtain ⟨a0, a1, a2, a3, a4, a5, a6, a7, a8⟩ := nine_cells hA; have af := hA.frozen; clear hA) | (have hA := Blk.later (na1 w3 #[.int .i64 0, .int .i64 0, .int .u64 0, .int .u64 0, .int .u64 0, .int .u64 0, .string ⟨#[]⟩, .int .i64 0, .int .i64 0] 76) hb; have HA := Lib.hid hA; obtain ⟨a0, a1, a2, a3, a4, a5, a6, a7, a8⟩ := nine_cells hA; have af := hA.frozen; clear hA) | (have hA := Blk.later (na2 w3 #[.int .i64 0, .int .i64 0, .int .u64 0, .int .u64 0, .int .u64 0, .int .u64 0, .string ⟨#[]⟩, .int .i64 0, .int .i64 0] 76) hb; have HA := Lib.hid hA; obtain ⟨a0, a1, a2, a3, a4, a5, a6, a7, a8⟩ := nine_cells hA; have af := hA.frozen; clear hA) | (have hA := Blk.later (na3 w3 #[.int .i64 0, .int .i64 0, .int .u64 0, .int .u64 0, .int .u64 0, .int .u64 0, .string ⟨#[]⟩, .int .i64 0, .int .i64 0] 76) hb; have HA := Lib.hid hA; obtain ⟨a0, a1, a2, a3, a4, a5, a6, a7, a8⟩ := nine_cells hA; have af := hA.frozen; clear hA) | skip); clear hb hbb))
                  · go_wp2_with fail
                    go_meet
                    case rel => exact ⟨_, rfl, rfl, rfl, HBB.out.alloc HBB.out.size _, HBB.out.size, Blk.new _ _ _⟩
                  · go_wp2_with fail
                    go_meet
                    case rel => exact ⟨_, rfl, rfl, rfl, below9 HBB.out (Nat.le_refl _) _ _ _ _ _ _ _ _ _, Nat.le_refl _, nine_blk HA.out _ _ _ _ _ _ _ _ _⟩
                case rest =>
                  obtain ⟨g, rfl, rfl, rfl, hbel, hg, hblk⟩ := hcut
                  have HM4 := Lib.hid (HM3.out.later hbel)
                  clear hblk hbel
                  go_wp2
                  go_ret3
                  unfold RdPost
                  rw [HR.out]
                  exact ⟨rfl, HM4.out.bel⟩
              | tok t n =>
                have HP := Lib.hid (HPT.out t n rfl)
                have HOV : Hid (oneR (closed 34 3 (l.drop (pos + 1)) txtF) = .tuple #[.agg (tokC t), .int .i64 ((n : Int) + 1), .int .i64 0]) := by unfold Hid; rw [HOV0.out]; rfl
                have hnl : (n : Int) ≤ 1073741824 := by have := HP.out.e1; omega
                have HTC : Hid (tokC { t with at_ := pos } = #[.int .i64 (t.kind : Int), .int .i64 (pos : Int), .int .u64 (wd t.cls 0), .int .u64 (wd t.cls 1), .int .u64 (wd t.cls 2), .int .u64 (wd t.cls 3), .string (bs t.text), .int .i64 (t.lo : Int), .int .i64 (t.hi : Int)]) := rfl
                unfold tokC at HOV
                generalize hKK : (t.kind : Int) = K at HOV HTC
                generalize hAA : (t.at_ : Int) = A at HOV
                generalize hLL : (t.lo : Int) = L at HOV HTC
                generalize hHH : (t.hi : Int) = H at HOV HTC
                generalize hc0 : (wd t.cls 0 : Int) = c0 at HOV HTC
                generalize hc1 : (wd t.cls 1 : Int) = c1 at HOV HTC
                generalize hc2 : (wd t.cls 2 : Int) = c2 at HOV HTC
                generalize hc3 : (wd t.cls 3 : Int) = c3 at HOV HTC
                generalize hSS : bs t.text = S at HOV HTC
                clear hKK hAA hLL hHH hc0 hc1 hc2 hc3 hSS
                go_cut [12, 13, 14] (CutR w3 #[.int .i64 K, .int .i64 A, .int .u64 c0, .int .u64 c1, .int .u64 c2, .int .u64 c3, .string S, .int .i64 L, .int .i64 H] ((n : Int) + 1) 0)
                case first =>
                  go_region_held3 (fun w' => w'.cell? ⟨bx, 0, none⟩ = some (.string ⟨#[34]⟩) ∧ w'.cell? ⟨bx, 1, none⟩ = some (.int .i64 3) ∧ w'.cell? ⟨bx, 2, none⟩ = some (.func (.func 113) #[] #[])) (go_keep) (first | (go_at_call 85; refine (read_txt _ (l.drop (pos + 1)) _ (HU.out _ (by go_grown)) hrl hx1 HX2.out).mono ?_; rintro e w' ⟨rfl, hb⟩; rw [HOV.out]; have hbb : Below w3.heap.size w3 w' := (show Below w3.heap.size w3 _ from by go_grown).trans (hb.mono (by simp)); obtain ⟨q0, q1, q2⟩ := HF.out _ hbb; have HBB := Lib.hid hbb; have hwz : w3.heap.size ≤ w'.heap.size := hbb.size; have hn1 : ¬ bx = w'.heap.size := (by omega); have hn2 : ¬ w'.heap.size = bx := (by omega); (first | (have hA := Blk.later (Blk.new w3 #[.int .i64 0, .int .i64 0, .int .u64 0, .int .u64 0, .int .u64 0, .int .u64 0, .string ⟨#[]⟩, .int .i64 0, .int .i64 0] 76) hb; have HA := Lib.hid hA; obtain ⟨a0, a1, a2, a3, a4, a5, a6, a7, a8⟩ := nine_cells hA; have af := hA.frozen; clear hA) | (have hA := Blk.later (na1 w3 #[.int .i64 0, .int .i64 0, .int .u64 0, .int .u64 0, .int .u64 0, .int .u64 0, .string ⟨#[]⟩, .int .i64 0, .int .i64 0] 76) hb; have HA := Lib.hid hA; obtain ⟨a0, a1, a2, a3, a4, a5, a6, a7, a8⟩ := nine_cells hA; have af := hA.frozen; clear hA) | (have hA := Blk.later (na2 w3 #[.int .i64 0, .int .i64 0, .int .u64 0, .int .u64 0, .int .u64 0, .int .u64 0, .string ⟨#[]⟩, .int .i64 0, .int .i64 0] 76) hb; have HA := Lib.hid hA; obtain ⟨a0, a1, a2, a3, a4, a5, a6, a7, a8⟩ := nine_cells hA; have af := hA.frozen; clear hA) | (have hA := Blk.later (na3 w3 #[.int .i64 0, .int .i64 0, .int .u64 0, .int .u64 0, .int .u64 0, .int .u64 0, .string ⟨#[]⟩, .int .i64 0, .int .i64 0] 76) hb; have HA := Lib.hid hA; obtain ⟨a0, a1, a2, a3, a4, a5, a6, a7, a8⟩ := nine_cells hA; have af := hA.frozen; clear hA) | skip); clear hb hbb))
                  · go_wp2_with fail
                    go_meet
                    case rel => exact ⟨_, rfl, rfl, rfl, HBB.out.alloc HBB.out.size _, HBB.out.size, Blk.new _ _ _⟩
                  · go_wp2_with fail
                    go_meet
                    case rel => exact ⟨_, rfl, rfl, rfl, below9 HBB.out (Nat.le_refl _) _ _ _ _ _ _ _ _ _, Nat.le_refl _, nine_blk HA.out _ _ _ _ _ _ _ _ _⟩
                case rest =>
                  obtain ⟨g, rfl, rfl, rfl, hbel, hg, hblk⟩ := hcut
                  have hef := hblk.frozen
                  obtain ⟨e0, e1, e2, e3, e4, e5, e6, e7, e8⟩ := nine_cells hblk
                  have HB5 : Hid (Blk (wc.setCell ⟨g, 1, none⟩ (.int .i64 (pos : Int))) g #[.int .i64 K, .int .i64 (pos : Int), .int .u64 c0, .int .u64 c1, .int .u64 c2, .int .u64 c3, .string S, .int .i64 L, .int .i64 H] 76) := hblk.setCell 1 (.int .i64 (pos : Int))
                  have HM5 := Lib.hid (HM3.out.later (hbel.setCell (p := ⟨g, 1, none⟩) hg (.int .i64 (pos : Int))))
                  clear hblk hbel
                  go_upto_region 15 with (fail)
                  clear e0 e1 e2 e3 e4 e5 e6 e7 e8 hef
                  generalize wc.setCell ⟨g, 1, none⟩ (.int .i64 (pos : Int)) = w5 at *
                  obtain ⟨e0, e1, e2, e3, e4, e5, e6, e7, e8⟩ := nine_cells HB5.out
                  have hb5 := (Below.refl w5.heap.size w5).alloc (Nat.le_refl _) (.cells #[.int .i64 K, .int .i64 (pos : Int), .int .u64 c0, .int .u64 c1, .int .u64 c2, .int .u64 c3, .string S, .int .i64 L, .int .i64 H] 76)
                  have HM6 := Lib.hid (HM5.out.later hb5)
                  have HK : Hid (Blk (w5.alloc (.cells #[.int .i64 K, .int .i64 (pos : Int), .int .u64 c0, .int .u64 c1, .int .u64 c2, .int .u64 c3, .string S, .int .i64 L, .int .i64 H] 76)) w5.heap.size (tokC { t with at_ := pos }) 76) := by
                    unfold Hid; rw [HTC.out]; exact Blk.new _ _ _
                  have hcnt' : T.length < 1073741824 := by have h1 := HQ.out.cnt; have h2 := HQ.out.p1; omega
                  have hit5 := (Array.getElem?_eq_some_iff.1 HM5.out.iter).1
                  have hbase : it + 1 ≤ (w5.alloc (.cells #[.int .i64 K, .int .i64 (pos : Int), .int .u64 c0, .int .u64 c1, .int .u64 c2, .int .u64 c3, .string S, .int .i64 L, .int .i64 H] 76)).heap.size := by simp; omega
                  have hpb : (pos : Int) + ((n : Int) + 1) ≤ 2147483648 := by omega
                  clear hb5
                  go_wp2_with (at_builtin; refine wpList_append_tok rfl _ _ rfl (it + 1) _ T rfl HM6.out.own w5.heap.size { t with at_ := pos } rfl HK.out hcnt' hbase ?_; intro v' w7 ho7 hb7; have HM7 := Lib.hid (HM6.out.grow (hb7 _ (Nat.le_refl _)) ho7); clear ho7 hb7)
                  go_roundw
                  case rel => exact ⟨pos + 1, pos + (n + 1), _, by congr 1, HM7.out, HP.out⟩
                  case measure => simp only [World.iterPos, HM7.out.iter, HI.out]; omega
            · have hc : l.getD pos 0 = 123 := h123
              have hd : Utf8.decode (bs l) pos = (123, 1) := by rw [dec_small l pos (by rw [hc]; decide), hc]; rfl
              have ho : oneV (l.getD pos 0) (l.drop (pos + 1)) = closed 125 4 (l.drop (pos + 1)) repF := by rw [hc, oneV_eq]; rfl
              obtain ⟨L0, ix, hm, hf⟩ := known_rep HM.out.known.known
              rw [hd] at hnx HM hm hr32b hr32c
              simp only at hr32b hr32c HM hnx hm
              have hlk := run_lookup_rune _ m L0 123 hm
              rw [hf] at hlk
              simp only at hlk
              have hpl : (pos : Int) < (l.length : Int) := by omega
              obtain ⟨ov, hov⟩ : ∃ ov, closed 125 4 (l.drop (pos + 1)) repF = ov := ⟨_, rfl⟩
              rw [hov] at ho
              have HE := Lib.hid (fun f (h : ov = .bad f) => hq.bad hp hle h32 (ho.trans h))
              have HEB := Lib.hid (fun f (h : ov = .bad f) => oneV_bad (ho.trans h))
              have HPT := Lib.hid (fun t n (h : ov = .tok t n) => hq.tok hp hle h32 (ho.trans h))
              have HOV0 := Lib.hid hov
              clear hs hq hit h32 hm hf hd ho hr32 hc h123 hov
              generalize wr.iterAt it (bs l) (pos + 1) = w2 at *
              have hsl : (bs l).extract pos (bs l).size = bs (l.drop pos) := by rw [bs_extract, bs_size, List.take_of_length_le (by rw [List.length_drop]; exact Nat.le_refl _)]
              have hsp : (pos : Int) ≤ ((bs l).size : Int) := by rw [bs_size]; omega
              have HSL := Lib.hid hsl
              clear hsl
              go_upto_region 11 with (fail)
              have HB3 : Below w2.heap.size w2 (w2.alloc (.cells #[.string ⟨#[125]⟩, .int .i64 4, .func (.func 114) #[] #[]] 146)) := (Below.refl _ _).alloc (Nat.le_refl _) _
              have HM3 := Lib.hid (HM.out.later HB3)
              have hbx := Blk.new w2 #[.string ⟨#[125]⟩, .int .i64 4, .func (.func 114) #[] #[]] 146
              have hbxl := hbx.lt
              obtain ⟨b0, b1, b2⟩ := box_cells hbx
              clear HB3 hbx
              generalize w2.alloc (.cells #[.string ⟨#[125]⟩, .int .i64 4, .func (.func 114) #[] #[]] 146) = w3 at *
              generalize w2.heap.size = bx at *
              have hrl : (l.drop (pos + 1)).length ≤ 1073741824 := by rw [List.length_drop]; omega
              have hx1 : (1 : Int) ≤ ((bs (l.drop pos)).size : Int) := by rw [bs_size, List.length_drop]; omega
              have hx2 : (bs (l.drop pos)).extract 1 (bs (l.drop pos)).size = bs (l.drop (pos + 1)) := by rw [bs_extract, bs_size, List.drop_drop, List.take_of_length_le (by simp; omega)]
              have HX2 := Lib.hid hx2
              have hsl := HSL.out
              have hbxne : ¬ bx = w3.heap.size := by omega
              have hbxne2 : ¬ w3.heap.size = bx := by omega
              have HU : Hid (∀ w', Below w3.heap.size w3 w' → U8T w') := fun w' hb => HM3.out.u8.later hb
              have HF : Hid (∀ w', Below w3.heap.size w3 w' → w'.cell? ⟨bx, 0, none⟩ = some (.string ⟨#[125]⟩) ∧ w'.cell? ⟨bx, 1, none⟩ = some (.int .i64 4) ∧ w'.cell? ⟨bx, 2, none⟩ = some (.func (.func 114) #[] #[])) := fun w' hb =>
                ⟨(hb.cell (p := ⟨bx, 0, none⟩) hbxl).trans b0, (hb.cell (p := ⟨bx, 1, none⟩) hbxl).trans b1, (hb.cell (p := ⟨bx, 2, none⟩) hbxl).trans b2⟩
              clear hx2
              cases ov with
              | bad f =>
                have HOV : Hid (oneR (closed 125 4 (l.drop (pos + 1)) repF) = .tuple #[.agg #[.int .i64 0, .int .i64 0, .int .u64 0, .int .u64 0, .int .u64 0, .int .u64 0, .string ⟨#[]⟩, .int .i64 0, .int .i64 0], .int .i64 0, .int .i64 (f : Int)]) := by unfold Hid; rw [HOV0.out]; rfl
                have HR := Lib.hid (HE.out f rfl)
                have hf1 : ((f : Int) != 0) = true := by have := (HEB.out f rfl).1; rw [bne_iff_ne]; omega
                have hf2 : ¬ ((f : Int) = 0) := by have := (HEB.out f rfl).1; omega
                go_cut [12, 13, 14] (CutR w3 #[.int .i64 0, .int .i64 0, .int .u64 0, .int .u64 0, .int .u64 0, .int .u64 0, .string ⟨#[]⟩, .int .i64 0, .int .i64 0] 0 (f : Int))
                case first =>
                  go_region_held3 (fun w' => w'.cell? ⟨bx, 0, none⟩ = some (.string ⟨#[125]⟩) ∧ w'.cell? ⟨bx, 1, none⟩ = some (.int .i64 4) ∧ w'.cell? ⟨bx, 2, none⟩ = some (.func (.func 114) #[] #[])) (go_keep) (first | (go_at_call 85; refine (read_rep _ (l.drop (pos + 1)) _ (HU.out _ (by go_grown)) hrl hx1 HX2.out).mono ?_; rintro e w' ⟨rfl, hb⟩; rw [HOV.out]; have hbb : Below w3.heap.size w3 w' := (show Below w3.heap.size w3 _ from by go_grown).trans (hb.mono (by simp)); obtain ⟨q0, q1, q2⟩ := HF.out _ hbb; have HBB := Lib.hid hbb; have hwz : w3.heap.size ≤ w'.heap.size := hbb.size; have hn1 : ¬ bx = w'.heap.size := (by omega); have hn2 : ¬ w'.heap.size = bx := (by omega); (first | (have hA := Blk.later (Blk.new w3 #[.int .i64 0, .int .i64 0, .int .u64 0, .int .u64 0, .int .u64 0, .int .u64 0, .string ⟨#[]⟩, .int .i64 0, .int .i64 0] 76) hb; have HA := Lib.hid hA; obtain ⟨a0, a1, a2, a3, a4, a5, a6, a7, a8⟩ := nine_cells hA; have af := hA.frozen; clear hA) | (have hA := Blk.later (na1 w3 #[.int .i64 0, .int .i64 0, .int .u64 0, .int .u64 0, .int .u64 0, .int .u64 0, .string ⟨#[]⟩, .int .i64 0, .int .i64 0] 76) hb; have HA := Lib.hid hA; obtain ⟨a0, a1, a2, a3, a4, a5, a6, a7, a8⟩ := nine_cells hA; have af := hA.frozen; clear hA) | (have hA := Blk.later (na2 w3 #[.int .i64 0, .int .i64 0, .int .u64 0, .int .u64 0, .int .u64 0, .int .u64 0, .string ⟨#[]⟩, .int .i64 0, .int .i64 0] 76) hb; have HA := Lib.hid hA; obtain ⟨a0, a1, a2, a3, a4, a5, a6, a7, a8⟩ := nine_cells hA; have af := hA.frozen; clear hA) | (have hA := Blk.later (na3 w3 #[.int .i64 0, .int .i64 0, .int .u64 0, .int .u64 0, .int .u64 0, .int .u64 0, .string ⟨#[]⟩, .int .i64 0, .int .i64 0] 76) hb; have HA := Lib.hid hA; obtain ⟨a0, a1, a2, a3, a4, a5, a6, a7, a8⟩ := nine_cells hA; have af := hA.frozen; clear hA) | skip); clear hb hbb))
                  · go_wp2_with fail
                    go_meet
                    case rel => exact ⟨_, rfl, rfl, rfl, HBB.out.alloc HBB.out.size _, HBB.out.size, Blk.new _ _ _⟩
                  · go_wp2_with fail
                    go_meet
                    case rel => exact ⟨_, rfl, rfl, rfl, below9 HBB.out (Nat.le_refl _) _ _ _ _ _ _ _ _ _, Nat.le_refl _, nine_blk HA.out _ _ _ _ _ _ _ _ _⟩
                case rest =>
                  obtain ⟨g, rfl, rfl, rfl, hbel, hg, hblk⟩ := hcut
                  have HM4 := Lib.hid (HM3.out.later hbel)
                  clear hblk hbel
                  go_wp2
                  go_ret3
                  unfold RdPost
                  rw [HR.out]
                  exact ⟨rfl, HM4.out.bel⟩
              | tok t n =>
                have HP := Lib.hid (HPT.out t n rfl)
                have HOV : Hid (oneR (closed 125 4 (l.drop (pos + 1)) repF) = .tuple #[.agg (tokC t), .int .i64 ((n : Int) + 1), .int .i64 0]) := by unfold Hid; rw [HOV0.out]; rfl
                have hnl : (n : Int) ≤ 1073741824 := by have := HP.out.e1; omega
                have HTC : Hid (tokC { t with at_ := pos } = #[.int .i64 (t.kind : Int), .int .i64 (pos : Int), .int .u64 (wd t.cls 0), .int .u64 (wd t.cls 1), .int .u64 (wd t.cls 2), .int .u64 (wd t.cls 3), .string (bs t.text), .int .i64 (t.lo : Int), .int .i64 (t.hi : Int)]) := rfl
                unfold tokC at HOV
                generalize hKK : (t.kind : Int) = K at HOV HTC
                generalize hAA : (t.at_ : Int) = A at HOV
                generalize hLL : (t.lo : Int) = L at HOV HTC
                generalize hHH : (t.hi : Int) = H at HOV HTC
                generalize hc0 : (wd t.cls 0 : Int) = c0 at HOV HTC
                generalize hc1 : (wd t.cls 1 : Int) = c1 at HOV HTC
                generalize hc2 : (wd t.cls 2 : Int) = c2 at HOV HTC
                generalize hc3 : (wd t.cls 3 : Int) = c3 at HOV HTC
                generalize hSS : bs t.text = S at HOV HTC
                clear hKK hAA hLL hHH hc0 hc1 hc2 hc3 hSS
                go_cut [12, 13, 14] (CutR w3 #[.int .i64 K, .int .i64 A, .int .u64 c0, .int .u64 c1, .int .u64 c2, .int .u64 c3, .string S, .int .i64 L, .int .i64 H] ((n : Int) + 1) 0)
                case first =>
                  go_region_held3 (fun w' => w'.cell? ⟨bx, 0, none⟩ = some (.string ⟨#[125]⟩) ∧ w'.cell? ⟨bx, 1, none⟩ = some (.int .i64 4) ∧ w'.cell? ⟨bx, 2, none⟩ = some (.func (.func 114) #[] #[])) (go_keep) (first | (go_at_call 85; refine (read_rep _ (l.drop (pos + 1)) _ (HU.out _ (by go_grown)) hrl hx1 HX2.out).mono ?_; rintro e w' ⟨rfl, hb⟩; rw [HOV.out]; have hbb : Below w3.heap.size w3 w' := (show Below w3.heap.size w3 _ from by go_grown).trans (hb.mono (by simp)); obtain ⟨q0, q1, q2⟩ := HF.out _ hbb; have HBB := Lib.hid hbb; have hwz : w3.heap.size ≤ w'.heap.size := hbb.size; have hn1 : ¬ bx = w'.heap.size := (by omega); have hn2 : ¬ w'.heap.size = bx := (by omega); (first | (have hA := Blk.later (Blk.new w3 #[.int .i64 0, .int .i64 0, .int .u64 0, .int .u64 0, .int .u64 0, .int .u64 0, .string ⟨#[]⟩, .int .i64 0, .int .i64 0] 76) hb; have HA := Lib.hid hA; obtain ⟨a0, a1, a2, a3, a4, a5, a6, a7, a8⟩ := nine_cells hA; have af := hA.frozen; clear hA) | (have hA := Blk.later (na1 w3 #[.int .i64 0, .int .i64 0, .int .u64 0, .int .u64 0, .int .u64 0, .int .u64 0, .string ⟨#[]⟩, .int .i64 0, .int .i64 0] 76) hb; have HA := Lib.hid hA; obtain ⟨a0, a1, a2, a3, a4, a5, a6, a7, a8⟩ := nine_cells hA; have af := hA.frozen; clear hA) | (have hA := Blk.later (na2 w3 #[.int .i64 0, .int .i64 0, .int .u64 0, .int .u64 0, .int .u64 0, .int .u64 0, .string ⟨#[]⟩, .int .i64 0, .int .i64 0] 76) hb; have HA := Lib.hid hA; obtain ⟨a0, a1, a2, a3, a4, a5, a6, a7, a8⟩ := nine_cells hA; have af := hA.frozen; clear hA) | (have hA := Blk.later (na3 w3 #[.int .i64 0, .int .i64 0, .int .u64 0, .int .u64 0, .int .u64 0, .int .u64 0, .string ⟨#[]⟩, .int .i64 0, .int .i64 0] 76) hb; have HA := Lib.hid hA; obtain ⟨a0, a1, a2, a3, a4, a5, a6, a7, a8⟩ := nine_cells hA; have af := hA.frozen; clear hA) | skip); clear hb hbb))
                  · go_wp2_with fail
                    go_meet
                    case rel => exact ⟨_, rfl, rfl, rfl, HBB.out.alloc HBB.out.size _, HBB.out.size, Blk.new _ _ _⟩
                  · go_wp2_with fail
                    go_meet
                    case rel => exact ⟨_, rfl, rfl, rfl, below9 HBB.out (Nat.le_refl _) _ _ _ _ _ _ _ _ _, Nat.le_refl _, nine_blk HA.out _ _ _ _ _ _ _ _ _⟩
                case rest =>
                  obtain ⟨g, rfl, rfl, rfl, hbel, hg, hblk⟩ := hcut
                  have hef := hblk.frozen
                  obtain ⟨e0, e1, e2, e3, e4, e5, e6, e7, e8⟩ := nine_cells hblk
                  have HB5 : Hid (Blk (wc.setCell ⟨g, 1, none⟩ (.int .i64 (pos : Int))) g #[.int .i64 K, .int .i64 (pos : Int), .int .u64 c0, .int .u64 c1, .int .u64 c2, .int .u64 c3, .string S, .int .i64 L, .int .i64 H] 76) := hblk.setCell 1 (.int .i64 (pos : Int))
                  have HM5 := Lib.hid (HM3.out.later (hbel.setCell (p := ⟨g, 1, none⟩) hg (.int .i64 (pos : Int))))
                  clear hblk hbel
                  go_upto_region 15 with (fail)
                  clear e0 e1 e2 e3 e4 e5 e6 e7 e8 hef
                  generalize wc.setCell ⟨g, 1, none⟩ (.int .i64 (pos : Int)) = w5 at *
                  obtain ⟨e0, e1, e2, e3, e4, e5, e6, e7, e8⟩ := nine_cells HB5.out
                  have hb5 := (Below.refl w5.heap.size w5).alloc (Nat.le_refl _) (.cells #[.int .i64 K, .int .i64 (pos : Int), .int .u64 c0, .int .u64 c1, .int .u64 c2, .int .u64 c3, .string S, .int .i64 L, .int .i64 H] 76)
                  have HM6 := Lib.hid (HM5.out.later hb5)
                  have HK : Hid (Blk (w5.alloc (.cells #[.int .i64 K, .int .i64 (pos : Int), .int .u64 c0, .int .u64 c1, .int .u64 c2, .int .u64 c3, .string S, .int .i64 L, .int .i64 H] 76)) w5.heap.size (tokC { t with at_ := pos }) 76) := by
                    unfold Hid; rw [HTC.out]; exact Blk.new _ _ _
                  have hcnt' : T.length < 1073741824 := by have h1 := HQ.out.cnt; have h2 := HQ.out.p1; omega
                  have hit5 := (Array.getElem?_eq_some_iff.1 HM5.out.iter).1
                  have hbase : it + 1 ≤ (w5.alloc (.cells #[.int .i64 K, .int .i64 (pos : Int), .int .u64 c0, .int .u64 c1, .int .u64 c2, .int .u64 c3, .string S, .int .i64 L, .int .i64 H] 76)).heap.size := by simp; omega
                  have hpb : (pos : Int) + ((n : Int) + 1) ≤ 2147483648 := by omega
                  clear hb5
                  go_wp2_with (at_builtin; refine wpList_append_tok rfl _ _ rfl (it + 1) _ T rfl HM6.out.own w5.heap.size { t with at_ := pos } rfl HK.out hcnt' hbase ?_; intro v' w7 ho7 hb7; have HM7 := Lib.hid (HM6.out.grow (hb7 _ (Nat.le_refl _)) ho7); clear ho7 hb7)
                  go_roundw
                  case rel => exact ⟨pos + 1, pos + (n + 1), _, by congr 1, HM7.out, HP.out⟩
                  case measure => simp only [World.iterPos, HM7.out.iter, HI.out]; omega
    · have hpe : pos = l.length := by have := hq.p1; omega
      have hnx : ∀ ty, (Instr.next (.pointer (some ⟨it, 0, none⟩)) true ty).run Tryz.prog wr = _ := fun ty => Lib.run_next_end_at wr it (bs l) pos ty hit (by rw [bs_size]; exact hp)
      have hr : readL l 0 0 = .ok (T ++ [{ kind := 10, at_ := l.length }]) := by
        rw [hq.inv, hpe, List.drop_length, readL_nil]; rfl
      have HR := Lib.hid hr
      have hcnt' : T.length < 1073741824 := by have := hq.cnt; have := hq.p1; omega
      have hb := (Below.refl wr.heap.size wr).alloc (Nat.le_refl _) (.cells #[.int .i64 10, .int .i64 ((bs l).size : Int), .int .u64 0, .int .u64 0, .int .u64 0, .int .u64 0, .string ⟨#[]⟩, .int .i64 0, .int .i64 0] 76)
      have HO := Lib.hid (hs.own.later hb)
      have HB := Lib.hid (hs.bel.trans (hb.mono hs.bel.size))
      have HK : Hid (Blk (wr.alloc (.cells #[.int .i64 10, .int .i64 ((bs l).size : Int), .int .u64 0, .int .u64 0, .int .u64 0, .int .u64 0, .string ⟨#[]⟩, .int .i64 0, .int .i64 0] 76)) wr.heap.size (tokC { kind := 10, at_ := l.length }) 76) := by
        unfold Hid; rw [tokC_zero]; exact Blk.new _ _ _
      have hbase : it + 1 ≤ (wr.alloc (.cells #[.int .i64 10, .int .i64 ((bs l).size : Int), .int .u64 0, .int .u64 0, .int .u64 0, .int .u64 0, .string ⟨#[]⟩, .int .i64 0, .int .i64 0] 76)).heap.size := by simp; omega
      have hlow := hs.low
      clear hs hq hit hr hb hpe
      go_wp2_with (at_builtin; refine wpList_append_tok rfl _ _ rfl (it + 1) _ T rfl HO.out wr.heap.size { kind := 10, at_ := l.length } rfl HK.out hcnt' hbase ?_; intro v' w7 ho7 hb7; have HO7 := Lib.hid ho7; have HB7 := Lib.hid (HB.out.trans (hb7 _ (Nat.le_trans hlow (Nat.le_succ _)))); clear ho7 hb7)
      go_ret3
      unfold RdPost
      rw [HR.out]
      obtain ⟨A, c, hv, hrow, hcap⟩ := HO7.out.rowc
      exact ⟨A, c, by rw [← hv]; rfl, hrow, HB7.out, hcap⟩
end Go.Proofs.YtcgjmnhmhiddkaaGreatDoor
