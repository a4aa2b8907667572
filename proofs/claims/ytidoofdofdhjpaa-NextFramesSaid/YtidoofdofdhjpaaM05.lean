/- Nodes moved: walked. -/
import Derived.Test.YtidoofdofdhjpaaM04
import Derived.Test.YtidoofdofdhjpaaM03
import Derived.Lib.OthersKept
import Derived.WalkSpells
namespace Go.Proofs.Ytidoofdofdhjpaa
open Go Go.RowKit
set_option linter.unusedVariables false
set_option linter.unusedSimpArgs false
def z4 : Array Value := #[.int .u64 0, .int .u64 0, .int .u64 0, .int .u64 0]
theorem four {w : World} {b : Nat} {t : TypeId} (h : Blk w b z4 t) :
 (∀ v, (w.setCell ⟨b, 0, none⟩ v).cell? ⟨b, 0, none⟩ = some v) /\ (∀ u v, ((w.setCell ⟨b, 0, none⟩ u).setCell ⟨b, 1, none⟩ v).cell? ⟨b, 1, none⟩ = some v) /\
 (∀ x u v, (((w.setCell ⟨b, 0, none⟩ x).setCell ⟨b, 1, none⟩ u).setCell ⟨b, 2, none⟩ v).cell? ⟨b, 2, none⟩ = some v) /\
 (∀ y x u v, ((((w.setCell ⟨b, 0, none⟩ y).setCell ⟨b, 1, none⟩ x).setCell ⟨b, 2, none⟩ u).setCell ⟨b, 3, none⟩ v).cell? ⟨b, 3, none⟩ = some v) :=
 ⟨fun v => (h.setCell 0 v).cell 0, fun u v => ((h.setCell 0 u).setCell 1 v).cell 1, fun x u v => (((h.setCell 0 x).setCell 1 u).setCell 2 v).cell 2, fun y x u v => ((((h.setCell 0 y).setCell 1 x).setCell 2 u).setCell 3 v).cell 3⟩
def z9 : Array Value := #[.int .i64 0, .int .i64 0, .int .u64 0, .int .u64 0, .int .u64 0, .int .u64 0, .string ⟨#[]⟩, .int .i64 0, .int .i64 0]
section
variable {w : World} {b : Nat} {t : TypeId} {c0 c1 c2 c3 c4 c5 c6 c7 c8 : Value}
end
end Go.Proofs.Ytidoofdofdhjpaa
namespace Go.Proofs.Ytidoofdofdhjpaa
open Go
set_option linter.unusedVariables false
def mvN (by_ : Int) (n : Nd) : Nd :=
 if 6 <= n.kind /\ n.kind <= 9 then { n with a := n.a + by_ }
 else if n.kind = 4 \/ n.kind = 5 then { n with a := n.a + by_, b := n.b + by_ }
 else n
theorem mvN_kind (k : Int) (n : Nd) : (mvN k n).kind = n.kind := by unfold mvN; (repeat' split) <;> rfl
theorem mvN_zero (n : Nd) : mvN 0 n = n := by
 unfold mvN; split
 ·simp
 ·split <;> simp
theorem map_mv_zero (l : List Nd) : l.map (mvN 0) = l := by
 rw [show mvN 0 = id from funext mvN_zero, List.map_id]
def leafK (k : Int) : Prop := k = 1 \/ k = 2 \/ k = 3
theorem mvN_leaf {k : Int} {n : Nd} (h : leafK n.kind) : mvN k n = n := by
 unfold leafK at h; unfold mvN; rw [if_neg (by omega), if_neg (by omega)]
def wrapL (kind lo hi : Int) (l : List Nd) : List Nd := l ++ [{ kind := kind, a := (l.length : Int) - 1, lo := lo, hi := hi }]
def pairL (kind : Int) (l m : List Nd) : List Nd := (l ++ m.map (mvN (l.length : Int))) ++ [{ kind := kind, a := (l.length : Int) - 1, b := (l.length : Int) + (m.length : Int) - 1 }]
def okTo (l : List Nd) (i : Nat) : Prop := ∀ j, j <= i -> okN l j (atN l j)
inductive Cs (l : List Nd) (i : Nat) (n : Nd) : Prop where
 | leaf (hk : leafK n.kind) (hf : firstP l i = i)
 | one (hk : 6 <= n.kind /\ n.kind <= 9) (hi : 0 < i) (ha : n.a = (i : Int) - 1) (hb : n.b = 0) (hl : n.kind ≠ 7 -> n.lo = 0 /\ n.hi = 0) (hr : n.kind = 7 -> 0 <= n.lo /\ n.lo <= n.hi /\ n.hi <= 255) (hc : n.cls = 0#256 /\ n.text = []) (hf : firstP l i = firstP l (i - 1))
 | two (hk : n.kind = 4 \/ n.kind = 5) (hi : 0 < i) (hb : n.b = (i : Int) - 1) (ha : n.a = (firstP l (i - 1) : Int) - 1) (hf0 : 0 < firstP l (i - 1)) (hl : n.lo = 0 /\ n.hi = 0) (hc : n.cls = 0#256 /\ n.text = []) (hf : firstP l i = firstP l (firstP l (i - 1) - 1))
theorem okN.cs {l : List Nd} {i : Nat} {n : Nd} (hn : atN l i = n) (h : okN l i n) : Cs l i n := by
 obtain ⟨hb, hk⟩ := h
 have stop : ¬ partK n.kind -> firstP l i = i := fun hp => firstP_stop (by rw [hn]; exact fun hh => hp hh.1)
 have go : partK n.kind -> 0 <= n.a -> n.a < (i : Int) -> firstP l i = firstP l n.a.toNat := fun h1 h2 h3 => by
  have := firstP_go (l := l) (i := i) (by rw [hn]; exact h1) (by rw [hn]; exact h2) (by rw [hn]; exact h3); rw [hn] at this; exact this
 rcases hk with hk | hk | ⟨hk, ht⟩ | ⟨hk, h0, h1⟩ | ⟨hk, ⟨h0, h1⟩, h2, h3, h4⟩ | ⟨hk, ⟨h0, h1⟩, h2, h3⟩
 ·exact .leaf (.inl hk) (stop (by unfold partK; omega))
 ·exact .leaf (.inr (.inl hk)) (stop (by unfold partK; omega))
 ·exact .leaf (.inr (.inr hk)) (stop (by unfold partK; omega))
 ·have e : n = { kind := n.kind, a := n.a } := by
   conv => lhs; rw [<- hb]
   unfold backN
   rcases hk with hk | hk | hk <;> simp [hk]
  refine .one (by omega) (by omega) h1 (by rw [e]) (fun _ => by rw [e]; exact ⟨rfl, rfl⟩) (fun h7 => by omega) (by rw [e]; exact ⟨rfl, rfl⟩) ?_
  rw [go (by unfold partK; omega) h0 (by omega), show n.a.toNat = i - 1 by omega]
 ·have e : n = { kind := 7, a := n.a, lo := n.lo, hi := n.hi } := by
   conv => lhs; rw [<- hb]
   unfold backN
   simp [hk]
  refine .one (by omega) (by omega) h1 (by rw [e]) (fun h7 => absurd hk h7) (fun _ => ⟨h2, h3, h4⟩) (by rw [e]; exact ⟨rfl, rfl⟩) ?_
  rw [go (by unfold partK; omega) h0 (by omega), show n.a.toNat = i - 1 by omega]
 ·have e : n = { kind := n.kind, a := n.a, b := n.b } := by
   conv => lhs; rw [<- hb]
   unfold backN
   rcases hk with hk | hk <;> simp [hk]
  have hle := firstP_le l (i - 1)
  rw [show n.b.toNat = i - 1 by omega] at h3
  refine .two hk (by omega) h1 h3 (by omega) (by rw [e]; exact ⟨rfl, rfl⟩) (by rw [e]; exact ⟨rfl, rfl⟩) ?_
  rw [go (by unfold partK; omega) h2 (by omega), show n.a.toNat = firstP l (i - 1) - 1 by omega]
theorem Cs.ok {l : List Nd} {i : Nat} {n : Nd} (h : Cs l i n) (hl : leafK n.kind -> backN n = n /\ (n.kind = 3 -> textOk n.text = true)) : okN l i n := by
 cases h with
 | leaf hk hf =>
  obtain ⟨h1, h2⟩ := hl hk
  refine ⟨h1, ?_⟩
  rcases hk with hk | hk | hk
  ·exact .inl hk
  ·exact .inr (.inl hk)
  ·exact .inr (.inr (.inl ⟨hk, h2 hk⟩))
 | one hk hi ha hb h7 hr hc hf =>
  obtain ⟨kind, a, b, lo, hi', cls, text⟩ := n
  simp only at *
  obtain ⟨rfl, rfl⟩ := hc
  subst hb
  by_cases hk7 : kind = 7
  ·subst hk7
   exact ⟨by simp [backN], .inr (.inr (.inr (.inr (.inl ⟨rfl, ⟨by simp only; omega, ha⟩, hr rfl⟩))))⟩
  ·obtain ⟨rfl, rfl⟩ := h7 hk7
   refine ⟨?_, .inr (.inr (.inr (.inl ⟨by simp only; omega, by simp only; omega, ha⟩)))⟩
   have : kind = 6 \/ kind = 8 \/ kind = 9 := by omega
   unfold backN
   rcases this with h | h | h <;> simp [h]
 | two hk hi hb ha hf0 hl2 hc hf =>
  obtain ⟨kind, a, b, lo, hi', cls, text⟩ := n
  simp only at *
  obtain ⟨rfl, rfl⟩ := hc
  obtain ⟨rfl, rfl⟩ := hl2
  refine ⟨?_, .inr (.inr (.inr (.inr (.inr ⟨hk, ⟨by simp only; omega, hb⟩, by simp only; omega, ?_⟩))))⟩
  ·unfold backN
   rcases hk with h | h <;> simp [h]
  ·simp only; rw [show b.toNat = i - 1 by omega]; exact ha
theorem okN.leafs {l : List Nd} {i : Nat} {n : Nd} (h : okN l i n) : leafK n.kind -> backN n = n /\ (n.kind = 3 -> textOk n.text = true) := fun hk => by
 obtain ⟨hb, h⟩ := h
 refine ⟨hb, fun h3 => ?_⟩
 rcases h with h | h | ⟨_, ht⟩ | ⟨h, _⟩ | ⟨h, _⟩ | ⟨h, _⟩
 ·omega
 ·omega
 ·exact ht
 ·omega
 ·omega
 ·omega
theorem first_moved {l m : List Nd} {d : Int} {f i : Nat} (hat : ∀ j, f <= j -> j <= i -> 0 <= (j : Int) + d /\ atN m ((j : Int) + d).toNat = mvN d (atN l j)) (hok : ∀ j, f <= j -> j <= i -> okN l j (atN l j) /\ f <= firstP l j) :
 ∀ j, f <= j -> j <= i -> (firstP m ((j : Int) + d).toNat : Int) = (firstP l j : Int) + d := by
 intro j
 induction j using Nat.strongRecOn with
 | ind j ih =>
  intro h1 h2
  obtain ⟨e0, e⟩ := hat j h1 h2
  obtain ⟨ho, hfj⟩ := hok j h1 h2
  generalize hn : atN l j = n at e ho
  cases ho.cs hn with
  | leaf hk hf =>
   rw [mvN_leaf hk] at e
   rw [firstP_stop (by rw [e]; unfold leafK at hk; unfold partK; omega), hf]; omega
  | one hk hi ha hb h7 hr hc hf =>
   have hfl := firstP_le l (j - 1)
   have e2 : (mvN d n).a = n.a + d := by unfold mvN; rw [if_pos hk]
   have e3 := mvN_kind d n
   have hj1 := (hat (j - 1) (by omega) (by omega)).1
   rw [firstP_go (by rw [e, e3]; unfold partK; omega) (by rw [e, e2]; omega) (by rw [e, e2]; omega), e, e2, hf]
   rw [<- ih (j - 1) (by omega) (by omega) (by omega)]
   congr 2; omega
  | two hk hi hb ha hf0 hl hc hf =>
   have hle := firstP_le l (j - 1)
   have hle2 := firstP_le l (firstP l (j - 1) - 1)
   have e2 : (mvN d n).a = n.a + d := by unfold mvN; rw [if_neg (by omega), if_pos hk]
   have e3 := mvN_kind d n
   have hj1 := (hat (firstP l (j - 1) - 1) (by omega) (by omega)).1
   rw [firstP_go (by rw [e, e3]; unfold partK; omega) (by rw [e, e2]; omega) (by rw [e, e2]; omega), e, e2, hf]
   rw [<- ih (firstP l (j - 1) - 1) (by omega) (by omega) (by omega)]
   congr 2; omega
theorem ok_moved {l m : List Nd} {d : Int} {f i : Nat} (hat : ∀ j, f <= j -> j <= i -> 0 <= (j : Int) + d /\ atN m ((j : Int) + d).toNat = mvN d (atN l j)) (hok : ∀ j, f <= j -> j <= i -> okN l j (atN l j) /\ f <= firstP l j) :
 ∀ j, f <= j -> j <= i -> okN m ((j : Int) + d).toNat (atN m ((j : Int) + d).toNat) := by
 intro j h1 h2
 have hfm := first_moved hat hok
 obtain ⟨e0, e⟩ := hat j h1 h2
 obtain ⟨ho, hfj⟩ := hok j h1 h2
 have hself := hfm j h1 h2
 rw [e]
 generalize hn : atN l j = n at e ho ⊢
 have e3 := mvN_kind d n
 cases ho.cs hn with
 | leaf hk hf =>
  rw [mvN_leaf hk]
  exact (Cs.leaf hk (by omega)).ok (fun _ => ho.leafs hk)
 | one hk hi ha hb h7 hr hc hf =>
  have hfl := firstP_le l (j - 1)
  have em : mvN d n = { n with a := n.a + d } := by unfold mvN; rw [if_pos hk]
  have hj1 := (hat (j - 1) (by omega) (by omega)).1
  have hprev := hfm (j - 1) (by omega) (by omega)
  rw [em]
  refine (Cs.one (n := { n with a := n.a + d }) hk (by omega) (by show n.a + d = _; omega) hb h7 hr hc ?_).ok (fun hk2 => by have hk2 : leafK n.kind := hk2; unfold leafK at hk2; omega)
  rw [show ((j : Int) + d).toNat - 1 = (((j - 1 : Nat) : Int) + d).toNat by omega]
  omega
 | two hk hi hb ha hf0 hl hc hf =>
  have hle := firstP_le l (j - 1)
  have hle2 := firstP_le l (firstP l (j - 1) - 1)
  have em : mvN d n = { n with a := n.a + d, b := n.b + d } := by unfold mvN; rw [if_neg (by omega), if_pos hk]
  have hj1 := (hat (firstP l (j - 1) - 1) (by omega) (by omega)).1
  have hp1 := hfm (j - 1) (by omega) (by omega)
  have hp2 := hfm (firstP l (j - 1) - 1) (by omega) (by omega)
  have hx : ((j : Int) + d).toNat - 1 = (((j - 1 : Nat) : Int) + d).toNat := by omega
  rw [em]
  refine (Cs.two (n := { n with a := n.a + d, b := n.b + d }) hk (by omega) (by show n.b + d = _; omega) ?_ ?_ hl hc ?_).ok (fun hk2 => by have hk2 : leafK n.kind := hk2; unfold leafK at hk2; omega)
  ·show n.a + d = _; rw [hx, hp1]; omega
  ·rw [hx]; omega
  ·rw [hx]
   rw [show firstP m (((j - 1 : Nat) : Int) + d).toNat - 1 = (((firstP l (j - 1) - 1 : Nat) : Int) + d).toNat by omega]
   omega
theorem atN_map {l : List Nd} {j : Nat} (h : j < l.length) (d : Int) : atN (l.map (mvN d)) j = mvN d (atN l j) := by
 unfold atN
 rw [List.getD_eq_getElem?_getD, List.getD_eq_getElem?_getD, List.getElem?_map, List.getElem?_eq_getElem h]; rfl
theorem atN_left {l m : List Nd} {j : Nat} (h : j < l.length) : atN (l ++ m) j = atN l j := by
 unfold atN
 rw [List.getD_eq_getElem?_getD, List.getD_eq_getElem?_getD, List.getElem?_append_left h]
theorem atN_right {l m : List Nd} {j : Nat} (h : l.length <= j) : atN (l ++ m) j = atN m (j - l.length) := by
 unfold atN
 rw [List.getD_eq_getElem?_getD, List.getD_eq_getElem?_getD, List.getElem?_append_right h]
theorem Form.okTo {l : List Nd} (h : Form l) {i : Nat} (hi : i < l.length) : okTo l i := fun j hj => h.2.1 j (by omega)
theorem wrap_form {l : List Nd} (h : Form l) {kind lo hi : Int} (hk : kind = 6 \/ kind = 8 \/ kind = 9) (h0 : lo = 0 /\ hi = 0) : Form (wrapL kind lo hi l) := by
 obtain ⟨rfl, rfl⟩ := h0
 obtain ⟨h0, h1, h2⟩ := h
 have hc : ∀ i, i < l.length -> firstP (wrapL kind 0 0 l) i = firstP l i := fun i hi => firstP_congr fun j hj => atN_left (by omega)
 have hlast : atN (wrapL kind 0 0 l) l.length = { kind := kind, a := (l.length : Int) - 1 } := by
  unfold wrapL; rw [atN_right (Nat.le_refl _), Nat.sub_self]; rfl
 have hf : firstP (wrapL kind 0 0 l) l.length = 0 := by
  rw [firstP_go (by rw [hlast]; unfold partK; simp only; omega) (by rw [hlast]; simp only; omega) (by rw [hlast]; simp only; omega), hlast]
  simp only
  rw [show ((l.length : Int) - 1).toNat = l.length - 1 by omega, hc _ (by omega), h2]
 refine ⟨by unfold wrapL; simp, fun i hi => ?_, by unfold wrapL at hf ⊢; simpa using hf⟩
 by_cases hil : i < l.length
 ·rw [show atN (wrapL kind 0 0 l) i = atN l i from atN_left hil]
  exact (okN_congr (fun j hj => atN_left (by omega)) _).2 (h1 i hil)
 ·obtain rfl : i = l.length := by unfold wrapL at hi; simp at hi; omega
  rw [hlast]
  refine ⟨?_, .inr (.inr (.inr (.inl ⟨hk, by simp only; omega, rfl⟩)))⟩
  unfold backN; rcases hk with h | h | h <;> simp [h]
theorem pair_at {l m : List Nd} {kind : Int} : (∀ j, j < l.length -> atN (pairL kind l m) j = atN l j) /\ (∀ j, j < m.length -> atN (pairL kind l m) (l.length + j) = mvN l.length (atN m j)) /\ atN (pairL kind l m) (l.length + m.length) = { kind := kind, a := (l.length : Int) - 1, b := (l.length : Int) + (m.length : Int) - 1 } := by
 unfold pairL
 refine ⟨fun j hj => ?_, fun j hj => ?_, ?_⟩
 ·rw [atN_left (by simp; omega), atN_left hj]
 ·rw [atN_left (by simp; omega), atN_right (by omega), Nat.add_sub_cancel_left, atN_map hj]
 ·rw [atN_right (by simp)]; simp [atN]
theorem pair_first {l m : List Nd} (hm : Form m) {kind : Int} : (∀ j, j < m.length -> firstP (pairL kind l m) (l.length + j) = l.length + firstP m j) /\ ∀ j, j < m.length -> okN (pairL kind l m) (l.length + j) (atN (pairL kind l m) (l.length + j)) := by
 have hat : ∀ j, 0 <= j -> j <= m.length - 1 -> 0 <= (j : Int) + (l.length : Int) /\ atN (pairL kind l m) ((j : Int) + (l.length : Int)).toNat = mvN (l.length : Int) (atN m j) := by
  intro j _ hj
  refine ⟨by omega, ?_⟩
  have := hm.1
  rw [<- (pair_at (l := l) (m := m) (kind := kind)).2.1 j (by omega)]
  congr 1; omega
 have hok : ∀ j, 0 <= j -> j <= m.length - 1 -> okN m j (atN m j) /\ 0 <= firstP m j := fun j _ hj => by
  have := hm.1
  exact ⟨hm.2.1 j (by omega), Nat.zero_le _⟩
 constructor
 ·intro j hj
  have := first_moved hat hok j (Nat.zero_le _) (by omega)
  rw [show ((j : Int) + (l.length : Int)).toNat = l.length + j by omega] at this
  omega
 ·intro j hj
  have := ok_moved hat hok j (Nat.zero_le _) (by omega)
  rw [show ((j : Int) + (l.length : Int)).toNat = l.length + j by omega] at this
  exact this
theorem pair_form {l m : List Nd} (hl : Form l) (hm : Form m) {kind : Int} (hk : kind = 4 \/ kind = 5) : Form (pairL kind l m) := by
 obtain ⟨p1, p2, p3⟩ := pair_at (l := l) (m := m) (kind := kind)
 obtain ⟨f1, f2⟩ := pair_first (l := l) hm (kind := kind)
 have h0 := hl.1; have h1 := hm.1
 have hlen : (pairL kind l m).length = l.length + m.length + 1 := by unfold pairL; simp; omega
 have hfb : firstP (pairL kind l m) (l.length + m.length - 1) = l.length := by
  have := f1 (m.length - 1) (by omega)
  rw [hm.2.2, show l.length + (m.length - 1) = l.length + m.length - 1 by omega] at this
  exact this
 have hfa : firstP (pairL kind l m) (l.length - 1) = 0 := by
  rw [firstP_congr (m := l) (fun j hj => p1 j (by omega)), hl.2.2]
 have hf : firstP (pairL kind l m) (l.length + m.length) = 0 := by
  rw [firstP_go (by rw [p3]; unfold partK; simp only; omega) (by rw [p3]; simp only; omega) (by rw [p3]; simp only; omega), p3]
  simp only
  rw [show ((l.length : Int) - 1).toNat = l.length - 1 by omega, hfa]
 refine ⟨by omega, fun i hi => ?_, by rw [hlen]; exact hf⟩
 by_cases hil : i < l.length
 ·rw [p1 i hil]
  exact (okN_congr (fun j hj => p1 j (by omega)) _).2 (hl.2.1 i hil)
 ·by_cases him : i < l.length + m.length
  ·have := f2 (i - l.length) (by omega)
   rw [show l.length + (i - l.length) = i by omega] at this
   exact this
  ·obtain rfl : i = l.length + m.length := by omega
   rw [p3]
   refine ⟨by unfold backN; rcases hk with h | h <;> simp [h], .inr (.inr (.inr (.inr (.inr ⟨hk, ⟨by simp only; omega, by simp only; omega⟩, by simp only; omega, ?_⟩))))⟩
   simp only
   rw [show ((l.length : Int) + (m.length : Int) - 1).toNat = l.length + m.length - 1 by omega, hfb]
end Go.Proofs.Ytidoofdofdhjpaa
namespace Go.Proofs.Ytidoofdofdhjpaa
open Go Go.RowKit
set_option linter.unusedVariables false
theorem half (x k : Nat) : x / 2 ^ (k + 1) = x / 2 ^ k / 2 := by rw [Nat.pow_succ, Nat.div_div_eq_div_mul]
theorem ref_bit (s : BitVec 256) (i r : Nat) (hr : r < 64) : ((wd s i / 2 ^ r % 2 : Nat) == 1) = s.getLsbD (64 * i + r) := by
 have hb := wd_bit s i r
 rw [Nat.testBit_eq_decide_div_mod_eq] at hb
 simp only [hr, decide_true, Bool.true_and] at hb
 rw [<- hb]
 rcases (by omega : wd s i / 2 ^ r % 2 = 0 \/ wd s i / 2 ^ r % 2 = 1) with h | h <;> simp [h]
set_option maxHeartbeats 2000000 in
theorem refhas_walk (a0 a1 a2 a3 c : Nat) (l0 : a0 < 18446744073709551616) (l1 : a1 < 18446744073709551616) (l2 : a2 < 18446744073709551616) (l3 : a3 < 18446744073709551616) (x : Bool) (w : World) (hc : c < 256)
 (h : ∃ y : Nat, (((c : Int) / 64 = 0 /\ y = a0) \/ ((c : Int) / 64 = 1 /\ y = a1) \/ ((c : Int) / 64 = 2 /\ y = a2) \/ ((c : Int) / 64 = 3 /\ y = a3)) /\ ((y / 2 ^ (c % 64) % 2 : Nat) == 1) = x) :
 Calls Try.prog 12 #[.agg #[.int .u64 a0, .int .u64 a1, .int .u64 a2, .int .u64 a3], .int .u8 (c : Int)] w (Ans w (.bool x)) := by
 have c0 : (0 : Int) <= (c : Int) := by omega
 have c1 : (c : Int) <= 255 := by omega
 obtain ⟨y, hy, hx⟩ := h
 have hyl : y < 18446744073709551616 := by omega
 have HX := Lib.hid hx
 clear hx
 have hm0 : (0 : Int) <= (c : Int) % 64 := by omega
 have hm1 : (c : Int) % 64 <= 63 := by omega
 rcases hy with ⟨hq, rfl⟩ | ⟨hq, rfl⟩ | ⟨hq, rfl⟩ | ⟨hq, rfl⟩
 all_goals
  go_enter Try.func12, Try.ntmps12
  go_wp2
  go_loop [5, 6] (fun v i => ∃ k : Nat, k <= c % 64 /\ i = .int .i64 k /\ v = .int .u64 ((y / 2 ^ k : Nat) : Int)) (fun _ i => c % 64 - (intOf i).toNat)
  case atStart => exact ⟨0, by omega, rfl, by simp⟩
  case round =>
   obtain ⟨k, hk, rfl, rfl⟩ := hrel
   have HH := Lib.hid (half y k)
   have hd : y / 2 ^ k < 18446744073709551616 := Nat.lt_of_le_of_lt (Nat.div_le_self _ _) hyl
   by_cases hlt : k < c % 64
   ·have hlt2 : (k : Int) < (c : Int) % 64 := by omega
    generalize y / 2 ^ k = z at *
    go_wp2
    go_round
    case rel => exact ⟨k + 1, by omega, by go_num, by rw [HH.out]; go_num⟩
    case measure => simp [intOf]; omega
   ·have hlt2 : ¬ (k : Int) < (c : Int) % 64 := by omega
    have hke : k = c % 64 := by omega
    have hz := HX.out
    rw [<- hke] at hz
    generalize y / 2 ^ k = z at *
    have HZ := Lib.hid hz
    clear hz
    go_wp2
    go_ret
    refine ⟨?_, by go_grown⟩
    rw [<- HZ.out]
    refine congrArg (fun b => Ending.returned (Value.bool b)) ?_
    rw [Bool.eq_iff_iff, beq_iff_eq, beq_iff_eq]; omega
theorem refhas_any (s : BitVec 256) (c : Nat) (hc : c < 256) (w : World) :
 Calls Try.prog 12 #[cls s, .int .u8 (c : Int)] w (Ans w (.bool (s.getLsbD c))) := by
 have key : ∀ i, c / 64 = i -> ((wd s i / 2 ^ (c % 64) % 2 : Nat) == 1) = s.getLsbD c := fun i hi => by
  rw [ref_bit s i (c % 64) (by omega)]; congr 1; omega
 refine refhas_walk _ _ _ _ c (wd_lt _ _) (wd_lt _ _) (wd_lt _ _) (wd_lt _ _) _ w hc ?_
 rcases (by omega : c / 64 = 0 \/ c / 64 = 1 \/ c / 64 = 2 \/ c / 64 = 3) with h | h | h | h
 ·exact ⟨_, .inl ⟨by omega, rfl⟩, key 0 h⟩
 ·exact ⟨_, .inr (.inl ⟨by omega, rfl⟩), key 1 h⟩
 ·exact ⟨_, .inr (.inr (.inl ⟨by omega, rfl⟩)), key 2 h⟩
 ·exact ⟨_, .inr (.inr (.inr ⟨by omega, rfl⟩)), key 3 h⟩
theorem ownsRow_below {w w' : World} {base : Nat} {e : TypeId} {size : Nat} {v : Value} {n : Nat} {xs : List Value} {B : Nat} (h : w.ownsRow base e size v n xs) (hb : Below B w w') (hlt : ∀ g cap, v = .slice (some ⟨g, 0, none⟩) n cap -> g < B) : w'.ownsRow base e size v n xs := by
 obtain ⟨h1, h2⟩ := h
 refine ⟨h1, ?_⟩
 rcases h2 with h2 | ⟨g, cap, cur, rfl, hg, hh, r⟩
 ·exact .inl h2
 ·exact .inr ⟨g, cap, cur, rfl, hg, (hb.block g (hlt g cap rfl)).trans hh, r⟩
theorem ownsRow_lt {w : World} {base : Nat} {e : TypeId} {size : Nat} {v : Value} {n : Nat} {xs : List Value} (h : w.ownsRow base e size v n xs) : ∀ g cap, v = .slice (some ⟨g, 0, none⟩) n cap -> g < w.heap.size := by
 intro g cap hv
 rcases h.2 with ⟨rfl, _⟩ | ⟨g', cap', cur, rfl, _, hh, _⟩
 ·cases hv
 ·cases hv
  rcases Nat.lt_or_ge g w.heap.size with l | l
  ·exact l
  ·rw [Array.getElem?_eq_none l] at hh; cases hh
theorem ownsRow_later {w w' : World} {base : Nat} {e : TypeId} {size : Nat} {v : Value} {n : Nat} {xs : List Value} (h : w.ownsRow base e size v n xs) (hb : Below w.heap.size w w') : w'.ownsRow base e size v n xs :=
 ownsRow_below h hb (ownsRow_lt h)
def BoolRow (w : World) (v : Value) (s : BitVec 256) : Prop :=
 ∃ b cap, v = .slice (some ⟨b, 0, none⟩) 256 cap /\ b < w.heap.size /\ ∀ i, i < 256 -> w.cell? ⟨b, i, none⟩ = some (.bool (s.getLsbD i))
theorem part_succ (s : BitVec 256) (k j : Nat) (hj : j < 64) : wd s k % 2 ^ (j + 1) = if s.getLsbD (64 * k + j) then wd s k % 2 ^ j + 2 ^ j else wd s k % 2 ^ j := by
 have hb := wd_bit s k j
 simp only [hj, decide_true, Bool.true_and] at hb
 rw [Nat.mod_pow_succ, <- hb, Nat.testBit_eq_decide_div_mod_eq]
 rcases (by omega : wd s k / 2 ^ j % 2 = 0 \/ wd s k / 2 ^ j % 2 = 1) with h | h <;> simp [h]
theorem pow_wrap (j : Nat) (hj : j < 64) : 2 ^ j % 18446744073709551616 = 2 ^ j /\ 2 ^ (j + 1) % 18446744073709551616 = (2 ^ j * 2) % 18446744073709551616 /\ 2 ^ j <= 9223372036854775808 := by
 have h1 : 2 ^ j <= 2 ^ 63 := Nat.pow_le_pow_right (by omega) (by omega)
 rw [show (2 : Nat) ^ 63 = 9223372036854775808 from rfl] at h1
 refine ⟨Nat.mod_eq_of_lt (by omega), by rw [Nat.pow_succ], h1⟩
theorem part_lt (s : BitVec 256) (k j : Nat) : wd s k % 2 ^ j < 2 ^ j := Nat.mod_lt _ (Nat.two_pow_pos j)
theorem part_all (s : BitVec 256) (k : Nat) : wd s k % 2 ^ 64 = wd s k := Nat.mod_eq_of_lt (wd_lt s k)
set_option maxRecDepth 100000 in
set_option maxHeartbeats 8000000 in
theorem refof_any (s : BitVec 256) (v : Value) (w : World) (h : BoolRow w v s) : Calls Try.prog 40 #[v] w (Ans w (cls s)) := by
 obtain ⟨b, cap, rfl, hb, hc⟩ := h
 have HC := Lib.hid hc
 clear hc
 unfold cls
 go_enter Try.func40, Try.ntmps40
 go_wp2
 refine wp_loop_rounds 5 ?_
 rw [rounds_succ]
 go_wp2
 go_loopw [5, 6] (fun bit i wr => ∃ j : Nat, j <= 64 /\ i = .int .i64 j /\ bit = .int .u64 ((2 ^ j % 18446744073709551616 : Nat) : Int) /\ wr = (w.alloc (.cells #[.int .u64 0, .int .u64 0, .int .u64 0, .int .u64 0] 35)).alloc (.cells #[.int .u64 ((wd s 0 % 2 ^ j : Nat) : Int), .int .u64 0, .int .u64 0, .int .u64 0] 35)) (fun _ i _ => 64 - (intOf i).toNat)
 case atStart => exact ⟨0, by omega, rfl, rfl, by simp⟩
 case round =>
  obtain ⟨j, hj, rfl, rfl, rfl⟩ := hrel
  by_cases hlt : j < 64
  ·have HP := Lib.hid (part_succ s 0 j hlt)
   obtain ⟨q1, q2, q3⟩ := pow_wrap j hlt
   have hpl := part_lt s 0 j
   have HQ2 := Lib.hid q2
   have hcell : w.cell? ⟨b, j, none⟩ = some (.bool (s.getLsbD (64 * 0 + j))) := by
    have := HC.out (64 * 0 + j) (by omega); first | exact this | (rw [<- this]; congr 2; omega)
   rw [q1]
   clear q1 q2
   generalize wd s 0 % 2 ^ j = X at *
   generalize s.getLsbD (64 * 0 + j) = x at *
   generalize 2 ^ j = Y at *
   have j0 : (0 : Int) <= (j : Int) := by omega
   have j1 : (j : Int) < 64 := by omega
   have X0 : (0 : Int) <= (X : Int) := by omega
   have Y0 : (0 : Int) <= (Y : Int) := by omega
   have XY : (X : Int) + (Y : Int) <= 18446744073709551615 := by omega
   have EY : Hid (IntKind.u64.wrap ((Y : Int) * 2) = ((Y * 2 % 18446744073709551616 : Nat) : Int)) := by unfold Hid; rw [IntKind.wrap_u64]; omega
   cases x
   ·go_wp2
    go_roundw
    case rel => exact ⟨j + 1, by omega, by go_num, by rw [HQ2.out]; first | (rw [EY.out]) | (refine congrArg _ ?_; omega), by rw [HP.out]; rfl⟩
    case measure => simp [intOf]; omega
   ·go_wp2
    go_roundw
    case rel => exact ⟨j + 1, by omega, by go_num, by rw [HQ2.out]; first | (rw [EY.out]) | (refine congrArg _ ?_; omega), by rw [HP.out]; rfl⟩
    case measure => simp [intOf]; omega
  ·have hje : j = 64 := by omega
   subst hje
   have HP := Lib.hid (part_all s 0)
   rw [HP.out]
   go_wp2
   rw [rounds_succ]
   go_wp2
   go_loopw [5, 6] (fun bit i wr => ∃ j : Nat, j <= 64 /\ i = .int .i64 j /\ bit = .int .u64 ((2 ^ j % 18446744073709551616 : Nat) : Int) /\ wr = (w.alloc (.cells #[.int .u64 0, .int .u64 0, .int .u64 0, .int .u64 0] 35)).alloc (.cells #[.int .u64 (wd s 0), .int .u64 ((wd s 1 % 2 ^ j : Nat) : Int), .int .u64 0, .int .u64 0] 35)) (fun _ i _ => 64 - (intOf i).toNat)
   case atStart => exact ⟨0, by omega, rfl, rfl, by simp⟩
   case round =>
    obtain ⟨j, hj, rfl, rfl, rfl⟩ := hrel
    by_cases hlt : j < 64
    ·have HP := Lib.hid (part_succ s 1 j hlt)
     obtain ⟨q1, q2, q3⟩ := pow_wrap j hlt
     have hpl := part_lt s 1 j
     have HQ2 := Lib.hid q2
     have hcell : w.cell? ⟨b, 64 + j, none⟩ = some (.bool (s.getLsbD (64 * 1 + j))) := by
      have := HC.out (64 * 1 + j) (by omega); first | exact this | (rw [<- this]; congr 2; omega)
     rw [q1]
     clear q1 q2
     generalize wd s 1 % 2 ^ j = X at *
     generalize s.getLsbD (64 * 1 + j) = x at *
     generalize 2 ^ j = Y at *
     have j0 : (0 : Int) <= (j : Int) := by omega
     have j1 : (j : Int) < 64 := by omega
     have X0 : (0 : Int) <= (X : Int) := by omega
     have Y0 : (0 : Int) <= (Y : Int) := by omega
     have XY : (X : Int) + (Y : Int) <= 18446744073709551615 := by omega
     have EY : Hid (IntKind.u64.wrap ((Y : Int) * 2) = ((Y * 2 % 18446744073709551616 : Nat) : Int)) := by unfold Hid; rw [IntKind.wrap_u64]; omega
     cases x
     ·go_wp2
      go_roundw
      case rel => exact ⟨j + 1, by omega, by go_num, by rw [HQ2.out]; first | (rw [EY.out]) | (refine congrArg _ ?_; omega), by rw [HP.out]; rfl⟩
      case measure => simp [intOf]; omega
     ·go_wp2
      go_roundw
      case rel => exact ⟨j + 1, by omega, by go_num, by rw [HQ2.out]; first | (rw [EY.out]) | (refine congrArg _ ?_; omega), by rw [HP.out]; rfl⟩
      case measure => simp [intOf]; omega
    ·have hje : j = 64 := by omega
     subst hje
     have HP := Lib.hid (part_all s 1)
     rw [HP.out]
     go_wp2
     rw [rounds_succ]
     go_wp2
     go_loopw [5, 6] (fun bit i wr => ∃ j : Nat, j <= 64 /\ i = .int .i64 j /\ bit = .int .u64 ((2 ^ j % 18446744073709551616 : Nat) : Int) /\ wr = (w.alloc (.cells #[.int .u64 0, .int .u64 0, .int .u64 0, .int .u64 0] 35)).alloc (.cells #[.int .u64 (wd s 0), .int .u64 (wd s 1), .int .u64 ((wd s 2 % 2 ^ j : Nat) : Int), .int .u64 0] 35)) (fun _ i _ => 64 - (intOf i).toNat)
     case atStart => exact ⟨0, by omega, rfl, rfl, by simp⟩
     case round =>
      obtain ⟨j, hj, rfl, rfl, rfl⟩ := hrel
      by_cases hlt : j < 64
      ·have HP := Lib.hid (part_succ s 2 j hlt)
       obtain ⟨q1, q2, q3⟩ := pow_wrap j hlt
       have hpl := part_lt s 2 j
       have HQ2 := Lib.hid q2
       have hcell : w.cell? ⟨b, 128 + j, none⟩ = some (.bool (s.getLsbD (64 * 2 + j))) := by
        have := HC.out (64 * 2 + j) (by omega); first | exact this | (rw [<- this]; congr 2; omega)
       rw [q1]
       clear q1 q2
       generalize wd s 2 % 2 ^ j = X at *
       generalize s.getLsbD (64 * 2 + j) = x at *
       generalize 2 ^ j = Y at *
       have j0 : (0 : Int) <= (j : Int) := by omega
       have j1 : (j : Int) < 64 := by omega
       have X0 : (0 : Int) <= (X : Int) := by omega
       have Y0 : (0 : Int) <= (Y : Int) := by omega
       have XY : (X : Int) + (Y : Int) <= 18446744073709551615 := by omega
       have EY : Hid (IntKind.u64.wrap ((Y : Int) * 2) = ((Y * 2 % 18446744073709551616 : Nat) : Int)) := by unfold Hid; rw [IntKind.wrap_u64]; omega
       cases x
       ·go_wp2
        go_roundw
        case rel => exact ⟨j + 1, by omega, by go_num, by rw [HQ2.out]; first | (rw [EY.out]) | (refine congrArg _ ?_; omega), by rw [HP.out]; rfl⟩
        case measure => simp [intOf]; omega
       ·go_wp2
        go_roundw
        case rel => exact ⟨j + 1, by omega, by go_num, by rw [HQ2.out]; first | (rw [EY.out]) | (refine congrArg _ ?_; omega), by rw [HP.out]; rfl⟩
        case measure => simp [intOf]; omega
      ·have hje : j = 64 := by omega
       subst hje
       have HP := Lib.hid (part_all s 2)
       rw [HP.out]
       go_wp2
       rw [rounds_succ]
       go_wp2
       go_loopw [5, 6] (fun bit i wr => ∃ j : Nat, j <= 64 /\ i = .int .i64 j /\ bit = .int .u64 ((2 ^ j % 18446744073709551616 : Nat) : Int) /\ wr = (w.alloc (.cells #[.int .u64 0, .int .u64 0, .int .u64 0, .int .u64 0] 35)).alloc (.cells #[.int .u64 (wd s 0), .int .u64 (wd s 1), .int .u64 (wd s 2), .int .u64 ((wd s 3 % 2 ^ j : Nat) : Int)] 35)) (fun _ i _ => 64 - (intOf i).toNat)
       case atStart => exact ⟨0, by omega, rfl, rfl, by simp⟩
       case round =>
        obtain ⟨j, hj, rfl, rfl, rfl⟩ := hrel
        by_cases hlt : j < 64
        ·have HP := Lib.hid (part_succ s 3 j hlt)
         obtain ⟨q1, q2, q3⟩ := pow_wrap j hlt
         have hpl := part_lt s 3 j
         have HQ2 := Lib.hid q2
         have hcell : w.cell? ⟨b, 192 + j, none⟩ = some (.bool (s.getLsbD (64 * 3 + j))) := by
          have := HC.out (64 * 3 + j) (by omega); first | exact this | (rw [<- this]; congr 2; omega)
         rw [q1]
         clear q1 q2
         generalize wd s 3 % 2 ^ j = X at *
         generalize s.getLsbD (64 * 3 + j) = x at *
         generalize 2 ^ j = Y at *
         have j0 : (0 : Int) <= (j : Int) := by omega
         have j1 : (j : Int) < 64 := by omega
         have X0 : (0 : Int) <= (X : Int) := by omega
         have Y0 : (0 : Int) <= (Y : Int) := by omega
         have XY : (X : Int) + (Y : Int) <= 18446744073709551615 := by omega
         have EY : Hid (IntKind.u64.wrap ((Y : Int) * 2) = ((Y * 2 % 18446744073709551616 : Nat) : Int)) := by unfold Hid; rw [IntKind.wrap_u64]; omega
         cases x
         ·go_wp2
          go_roundw
          case rel => exact ⟨j + 1, by omega, by go_num, by rw [HQ2.out]; first | (rw [EY.out]) | (refine congrArg _ ?_; omega), by rw [HP.out]; rfl⟩
          case measure => simp [intOf]; omega
         ·go_wp2
          go_roundw
          case rel => exact ⟨j + 1, by omega, by go_num, by rw [HQ2.out]; first | (rw [EY.out]) | (refine congrArg _ ?_; omega), by rw [HP.out]; rfl⟩
          case measure => simp [intOf]; omega
        ·have hje : j = 64 := by omega
         subst hje
         have HP := Lib.hid (part_all s 3)
         rw [HP.out]
         go_wp2
         rw [rounds_succ]
         go_wp2
         go_returns
         exact ⟨rfl, by go_grown⟩
def BRow (w : World) (g : Nat) (f : Nat -> Bool) : Prop := ∃ cur : Array Value, w.heap[g]? = some (.cells cur 4) /\ 256 <= cur.size /\ ∀ i, i < 256 -> cur[i]? = some (.bool (f i))
section
variable {w w' : World} {g : Nat} {f : Nat -> Bool}
theorem BRow.lt (h : BRow w g f) : g < w.heap.size := by
 obtain ⟨cur, h1, _⟩ := h
 exact Blk.lt (vs := cur) (t := 4) h1
theorem BRow.cell (h : BRow w g f) (i : Nat) (hi : i < 256) : w.cell? ⟨g, i, none⟩ = some (.bool (f i)) := by
 obtain ⟨cur, h1, _, h3⟩ := h
 rw [Blk.cell (vs := cur) (t := 4) h1, h3 i hi]
theorem BRow.frozen (h : BRow w g f) (i : Nat) : w.frozen? ⟨g, i, none⟩ = false := by
 obtain ⟨cur, h1, _⟩ := h
 exact Blk.frozen (vs := cur) (t := 4) h1 i
theorem BRow.set (h : BRow w g f) (i : Nat) (x : Bool) : BRow (w.setCell ⟨g, i, none⟩ (.bool x)) g (fun j => if j = i then x else f j) := by
 obtain ⟨cur, h1, h2, h3⟩ := h
 refine ⟨cur.setIfInBounds i (.bool x), Blk.setCell (vs := cur) (t := 4) h1 i _, by simpa using h2, fun j hj => ?_⟩
 rw [Array.getElem?_setIfInBounds]
 by_cases e : j = i
 ·subst e
  have : j < cur.size := by omega
  simp [this]
 ·have : i ≠ j := fun h => e h.symm
  simp [this, e, h3 j hj]
theorem BRow.congr (h : BRow w g f) {f' : Nat -> Bool} (hf : ∀ i, i < 256 -> f i = f' i) : BRow w g f' := by
 obtain ⟨cur, h1, h2, h3⟩ := h
 exact ⟨cur, h1, h2, fun i hi => by rw [h3 i hi, hf i hi]⟩
theorem BRow.row (h : BRow w g f) {s : BitVec 256} (hs : ∀ i, i < 256 -> f i = s.getLsbD i) (cap : Nat) : BoolRow w (.slice (some ⟨g, 0, none⟩) 256 cap) s :=
 ⟨g, cap, rfl, h.lt, fun i hi => by rw [h.cell i hi, hs i hi]⟩
end
theorem make256 (w : World) : (Instr.makeSlice 75 (.int .i64 256) (.int .i64 256)).run Try.prog w = .ok (.slice (some ⟨w.heap.size, 0, none⟩) 256 256) (w.alloc (.cells (Array.replicate 256 (.bool false)) 4)) := by kernel_rfl
set_option maxRecDepth 100000 in
set_option maxHeartbeats 4000000 in
theorem refrow_any (a b : Nat) (ha : a < 256) (hb : b < 256) (w : World) : Calls Try.prog 25 #[.int .u8 (a : Int), .int .u8 (b : Int)] w (Ans w (cls (rowB a b))) := by
 have hmk := make256
 have z : cells4 0#256 = #[.int .u64 0, .int .u64 0, .int .u64 0, .int .u64 0] := by
  unfold cells4
  rw [show wd 0#256 0 = 0 by decide, show wd 0#256 1 = 0 by decide, show wd 0#256 2 = 0 by decide, show wd 0#256 3 = 0 by decide]; rfl
 have BK0 : Hid (Blk (w.alloc (.cells (cells4 0#256) 35)) w.heap.size (cells4 0#256) 35) := Blk.new _ _ _
 have W0 : Hid (∃ W1 : World, W1 = (w.alloc (.cells #[.int .u64 0, .int .u64 0, .int .u64 0, .int .u64 0] 35)).alloc (.cells (Array.replicate 256 (.bool false)) 4) /\ Below (w.heap.size + 1) (w.alloc (.cells (cells4 0#256) 35)) W1 /\ BRow W1 (w.heap.size + 1) (fun _ => false)) := by
  refine ⟨_, rfl, ?_, ?_⟩
  ·rw [z]; exact (Below.refl _ _).alloc (by simp) _
  ·exact ⟨_, Blk.new' (by simp) _ _, by simp, fun i hi => by simp [hi]⟩
 clear z
 go_enter Try.func25, Try.ntmps25
 go_wp2
 obtain ⟨W1, hW1, hB1, hR1⟩ := W0.out
 rw [<- hW1]
 have HB1 := Lib.hid hB1
 have HR1 := Lib.hid hR1
 clear hmk W0 hW1 hB1 hR1
 go_loopw [6] (fun i wr => ∃ k : Nat, a <= k /\ (k <= a \/ k <= b + 1) /\ i = .int .i64 k /\ BRow wr (w.heap.size + 1) (fun j => decide (a <= j /\ j < k)) /\ Below (w.heap.size + 1) (w.alloc (.cells (cells4 0#256) 35)) wr) (fun i _ => b + 1 - (intOf i).toNat)
 case atStart => exact ⟨a, Nat.le_refl _, .inl (Nat.le_refl _), rfl, HR1.out.congr (fun i hi => by simp), HB1.out⟩
 case round =>
  obtain ⟨k, hak, hk, rfl, hr, hb'⟩ := hrel
  have HR := Lib.hid hr
  have HB := Lib.hid hb'
  have hsz : w.heap.size + 1 <= wr.heap.size := by have := hb'.size; simpa using this
  by_cases hlt : k <= b
  ·have k0 : (0 : Int) <= (k : Int) := by omega
   have k1 : (k : Int) < 256 := by omega
   have hc := hr.cell k (by omega)
   have hf := hr.frozen k
   clear hr hb'
   go_wp2
   go_roundw
   case rel =>
    refine ⟨k + 1, by omega, .inr (by omega), by go_num, (HR.out.set k true).congr ?_, HB.out.setCell (Nat.le_refl _) _⟩
    intro j hj
    by_cases e : j = k
    ·subst e; simp [hak]
    ·have : (j < k + 1) = (j < k) := by rw [eq_iff_iff]; omega
     simp [e, this]
   case measure => simp [intOf]; omega
  ·have hrow := hr.row (s := rowB a b) (fun i hi => by
    rw [rowB_bit _ _ _ hi]; congr 1; rw [eq_iff_iff]; omega) 256
   have HRO := Lib.hid hrow
   clear hrow hr hb'
   go_wp2_with fail
   refine (refof_any (rowB a b) _ _ HRO.out).mono ?_; rintro e w3 ⟨rfl, hb3⟩
   have hb3' : Below (w.heap.size + 1) (w.alloc (.cells (cells4 0#256) 35)) w3 := HB.out.trans (hb3.mono hsz)
   have hbw : Below w.heap.size w w3 := ((Below.refl _ _).alloc (Nat.le_refl _) _).trans (hb3'.mono (by omega))
   have hbk : Blk w3 w.heap.size (cells4 0#256) 35 := BK0.out.below hb3' (by omega)
   obtain ⟨d0, d1, d2, d3⟩ := hbk.cells
   have f := hbk.frozen
   have HK := Lib.hid hbk
   have HW := Lib.hid hbw
   clear hbk hb3' hb3 hbw
   simp only [cls]
   go_wp2
   have hR := HK.out.set4 (rowB a b)
   have hL : Below w.heap.size w _ := (((HW.out.setCell (p := ⟨w.heap.size, 0, none⟩) (by simp) (.int .u64 (wd (rowB a b) 0))).setCell (p := ⟨w.heap.size, 1, none⟩) (by simp) (.int .u64 (wd (rowB a b) 1))).setCell (p := ⟨w.heap.size, 2, none⟩) (by simp) (.int .u64 (wd (rowB a b) 2))).setCell (p := ⟨w.heap.size, 3, none⟩) (by simp) (.int .u64 (wd (rowB a b) 3))
   generalize (((w3.setCell ⟨w.heap.size, 0, none⟩ (.int .u64 (wd (rowB a b) 0))).setCell ⟨w.heap.size, 1, none⟩ (.int .u64 (wd (rowB a b) 1))).setCell ⟨w.heap.size, 2, none⟩ (.int .u64 (wd (rowB a b) 2))).setCell ⟨w.heap.size, 3, none⟩ (.int .u64 (wd (rowB a b) 3)) = w9 at *
   obtain ⟨e0, e1, e2, e3⟩ := hR.cells
   exact bodyPost_ret (v := cls (rowB a b)) (by simp [results, Try.results25, go_sem, e0, e1, e2, e3, cls]) rfl ⟨rfl, hL⟩
end Go.Proofs.Ytidoofdofdhjpaa
