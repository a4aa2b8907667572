/- Read: walked. -/
import Derived.Test.YtacaloddhklkiaaDoorM40
import Derived.Test.YtacaloddhklkiaaDoorM08
import Derived.Deep.DeepCutAuto
import Derived.Outline
namespace Go.Proofs.YtacaloddhklkiaaDoor
open Go Go.RowKit
set_option linter.unusedVariables false

theorem Blk.iter {w : World} {b k : Nat} {cs : Array Value} {t : TypeId} {s : ByteArray} {p : Nat} (h : Blk w b cs t) (hi : w.heap[k]? = some (.stringIter s p)) (p' : Nat) : Blk (w.iterAt k s p') b cs t := by
  have hne : b ≠ k := fun e => by unfold Blk at h; rw [e, hi] at h; cases h
  exact (Lib.iterAt_other w k b s p' hne).trans h
theorem IsMap.iter {w : World} {m k : Nat} {l : List (Int × Value)} {s : ByteArray} {p : Nat} (h : IsMap w m l) (hi : w.heap[k]? = some (.stringIter s p)) (p' : Nat) : IsMap (w.iterAt k s p') m l := by
  have hne : m ≠ k := fun e => by unfold IsMap at h; rw [e, hi] at h; cases h
  exact (Lib.iterAt_other w k m s p' hne).trans h
theorem OwnT.iter {w : World} {base k : Nat} {v : Value} {l : List Tok} {s : ByteArray} {p : Nat} (h : OwnT w base v l) (hi : w.heap[k]? = some (.stringIter s p)) (p' : Nat) : OwnT (w.iterAt k s p') base v l := by
  obtain ⟨h1, h2 | ⟨g, cap, cur, hv, hb, hg, hr⟩⟩ := h
  · exact ⟨h1, .inl h2⟩
  · exact ⟨h1, .inr ⟨g, cap, cur, hv, hb, Blk.iter (t := 38) hg hi p', hr⟩⟩
/-- What Read has read. -/
structure RdP (l : List UInt8) (pos e : Nat) (T : List Tok) : Prop where
  inv : readL l 0 0 = (readL (l.drop pos) pos (e - pos)).map (T ++ ·)
  p1 : pos ≤ l.length
  e1 : e ≤ l.length
  asc : pos < e → (l.getD (e - 1) 0).toNat < 128
  cnt : T.length ≤ pos
theorem RdP.skip {l : List UInt8} {pos e : Nat} {T : List Tok} (h : RdP l pos e T) (hp : pos < l.length) (hlt : pos < e) : pos + (Utf8.decode (bs l) pos).2 ≤ e := by
  rcases Nat.lt_or_ge (l.getD pos 0).toNat 128 with hb | hb
  · rw [dec_small l pos hb]; show pos + 1 ≤ e; omega
  · obtain ⟨_, _, h1, h2, h3⟩ := dec_big l pos hp hb
    have ha := h.asc hlt
    rcases Nat.lt_or_ge e (pos + (Utf8.decode (bs l) pos).2) with hx | hx
    · exfalso
      by_cases h0 : e - 1 = pos
      · rw [h0] at ha; omega
      · have := h3 (e - 1 - pos) (by omega) (by omega)
        rw [show pos + (e - 1 - pos) = e - 1 by omega] at this; omega
    · exact hx
theorem RdP.skipped {l : List UInt8} {pos e : Nat} {T : List Tok} (h : RdP l pos e T) (q : Nat) (h1 : pos ≤ q) (h2 : q ≤ e) : RdP l q e T := by
  refine ⟨?_, by have := h.e1; omega, h.e1, fun hq => h.asc (by omega), by have := h.cnt; omega⟩
  rw [h.inv, readL_skip (l.drop pos) pos (e - pos) (q - pos) (by omega) (by rw [List.length_drop]; have := h.e1; omega), List.drop_drop, show pos + (q - pos) = q by omega, show e - pos - (q - pos) = e - q by omega]
theorem RdP.space {l : List UInt8} {pos e : Nat} {T : List Tok} (h : RdP l pos e T) (hp : pos < l.length) (hle : e ≤ pos) (hc : l.getD pos 0 = 32) : RdP l (pos + 1) e T := by
  refine ⟨?_, by omega, h.e1, fun hq => by omega, by have := h.cnt; omega⟩
  rw [h.inv, show e - pos = 0 by omega, show e - (pos + 1) = 0 by omega, drop_at hp, hc, readL_c0, if_pos rfl]
theorem RdP.bad {l : List UInt8} {pos e : Nat} {T : List Tok} (h : RdP l pos e T) (hp : pos < l.length) (hle : e ≤ pos) (hc : l.getD pos 0 ≠ 32) {f : Nat} (ho : oneV (l.getD pos 0) (l.drop (pos + 1)) = .bad f) : readL l 0 0 = .error (f, pos) := by
  rw [h.inv, show e - pos = 0 by omega, drop_at hp, readL_c0, if_neg hc, ho]; rfl
theorem RdP.tok {l : List UInt8} {pos e : Nat} {T : List Tok} (h : RdP l pos e T) (hp : pos < l.length) (hle : e ≤ pos) (hc : l.getD pos 0 ≠ 32) {t : Tok} {n : Nat} (ho : oneV (l.getD pos 0) (l.drop (pos + 1)) = .tok t n) :
    RdP l (pos + 1) (pos + (n + 1)) (T ++ [{ t with at_ := pos }]) := by
  obtain ⟨_, _, hn, hasc, _, _⟩ := oneV_tok ho
  rw [List.length_drop] at hn
  refine ⟨?_, by omega, by omega, fun hq => ?_, by simp; have := h.cnt; omega⟩
  · rw [h.inv, show e - pos = 0 by omega, drop_at hp, readL_c0, if_neg hc, ho, show pos + (n + 1) - (pos + 1) = n by omega]
    simp only
    cases readL (l.drop (pos + 1)) (pos + 1) n with
    | error z => rfl
    | ok r => simp [Except.map]
  · have := hasc (by omega)
    rw [show pos + (n + 1) - 1 = pos + 1 + (n - 1) by omega]
    have e2 : l.getD (pos + 1 + (n - 1)) 0 = (l.drop (pos + 1)).getD (n - 1) 0 := by
      rw [List.getD_eq_getElem?_getD, List.getD_eq_getElem?_getD, List.getElem?_drop]
    rw [e2]; exact this
theorem tokC_zero (k p : Nat) : tokC { kind := k, at_ := p } = #[.int .i64 (k : Int), .int .i64 (p : Int), .int .u64 0, .int .u64 0, .int .u64 0, .int .u64 0, .string ⟨#[]⟩, .int .i64 0, .int .i64 0] := by
  have z0 : wd 0#256 0 = 0 := by decide
  have z1 : wd 0#256 1 = 0 := by decide
  have z2 : wd 0#256 2 = 0 := by decide
  have z3 : wd 0#256 3 = 0 := by decide
  unfold tokC
  simp only [z0, z1, z2, z3]; rfl
/-- A byte that begins nothing is no rune of the table's. -/
theorem none_rune {l : List UInt8} {p : Nat} (hp : p < l.length) (hs : shortV (l.getD p 0) = none) (h60 : l.getD p 0 ≠ 60) (h34 : l.getD p 0 ≠ 34) (h123 : l.getD p 0 ≠ 123) (k : Nat) (hk : k = 46 ∨ k = 40 ∨ k = 41 ∨ k = 124 ∨ k = 42 ∨ k = 98 ∨ k = 119 ∨ k = 60 ∨ k = 34 ∨ k = 123) :
    (Utf8.decode (bs l) p).1 ≠ k := by
  rcases Nat.lt_or_ge (l.getD p 0).toNat 128 with hb | hb
  · rw [dec_small l p hb]
    show (l.getD p 0).toNat ≠ k
    intro e
    have hc : l.getD p 0 = UInt8.ofNat k := by rw [← e]; simp
    rw [hc] at hs h60 h34 h123
    rcases hk with rfl | rfl | rfl | rfl | rfl | rfl | rfl | rfl | rfl | rfl
    all_goals first | (exact h60 rfl) | (exact h34 rfl) | (exact h123 rfl) | (cases hs)
  · have := (dec_big l p hp hb).1
    omega
theorem na1 (w : World) (c : Array Value) (t : TypeId) : Blk (w.drew.alloc (.cells c t)) w.heap.size c t := heap_alloc_new w.drew _
theorem na2 (w : World) (c : Array Value) (t : TypeId) : Blk (w.alloc (.cells c t)).drew w.heap.size c t := heap_alloc_new w _
theorem na3 (w : World) (c : Array Value) (t : TypeId) : Blk (w.drew.alloc (.cells c t)).drew w.heap.size c t := heap_alloc_new w.drew _
theorem bcell {W w1 : World} (hb : Below W.heap.size W w1) : (∀ b o, b < W.heap.size → w1.cell? ⟨b, o, none⟩ = W.cell? ⟨b, o, none⟩) ∧ (∀ b o, b < W.heap.size → w1.frozen? ⟨b, o, none⟩ = W.frozen? ⟨b, o, none⟩) :=
  ⟨fun b o h => hb.cell (p := ⟨b, o, none⟩) h, fun b o h => hb.frozen (p := ⟨b, o, none⟩) h⟩
/-- Behind the call: the token in a box of its own, its length, its fault. -/
def CutR (w3 : World) (cells : Array Value) (n f : Int) (s12 s13 s14 : Value) (wx : World) : Prop :=
  ∃ g, s12 = .pointer (some ⟨g, 0, none⟩) ∧ s13 = .int .i64 n ∧ s14 = .int .i64 f ∧ Below w3.heap.size w3 wx ∧ w3.heap.size ≤ g ∧ Blk wx g cells 38
theorem OwnT.rowc {w : World} {base : Nat} {v : Value} {l : List Tok} (h : OwnT w base v l) : ∃ a cap, v = .slice a l.length cap ∧ TRow w a l ∧ l.length ≤ cap := by
  obtain ⟨a, cap, hv, hrow⟩ := h.row
  refine ⟨a, cap, hv, hrow, ?_⟩
  obtain ⟨_, ⟨_, hn⟩ | ⟨g, cap2, cur, hv2, hb, hg, hc, _⟩⟩ := h
  · omega
  · rw [hv] at hv2; cases hv2; exact hc
/-- What Read answers. -/
def RdPost (w : World) (l : List UInt8) (e : Ending) (w' : World) : Prop := match readL l 0 0 with
  | .ok r => ∃ A c, e = .returned (.tuple #[.slice A r.length c, .int .i64 0, .int .i64 0]) ∧ TRow w' A r ∧ Below w.heap.size w w' ∧ r.length ≤ c
  | .error (f, q) => e = .returned (.tuple #[.slice none 0 0, .int .i64 (f : Int), .int .i64 (q : Int)]) ∧ Below w.heap.size w w'
end Go.Proofs.YtacaloddhklkiaaDoor
