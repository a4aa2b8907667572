/- Texts and numbers of two bytes, opened as arguments: for seats of plain rows. -/
import Derived.Test.YtnhcbldcfcibiaaM10
import Derived.Test.YtnhcbldcfcibiaaM02
import Derived.Test.YtnhcbldcfcibiaaM03
import Derived.Test.YtnhcbldcfcibiaaM01
import Derived.ChangeMaps5
import Derived.Test.YtnhcbldcfcibiaaRows
import Derived.Deep.Cut
namespace Go.Proofs.Ytnhcbldcfcibiaa
open Go Go.RowKit Go.ChangeShapes Go.WideShapes Go.ChangeAt Go.Joins
set_option maxRecDepth 100000

section
variable {H : Type} {enc : TypeId × Value → H} {W : World} {base : Nat} {v : Value} {d : DataW H} {p : List MemPlace}
end
end Go.Proofs.Ytnhcbldcfcibiaa
/- A stable sort by keys, as positions: what is swapped, rotated and merged, and that the outcome is sorted by key, those of one key as they came. -/
namespace Go.Proofs.Ytnhcbldcfcibiaa
set_option linter.unusedVariables false

/-! A row is told by its ghost 'd': position i holds what stood at position 'd i' when the sort began. -/
section
variable (key : Nat → Nat)
/-- Of two places at the beginning: the one's key is less, or as great and it stood ahead. -/
def Lt (x y : Nat) : Prop := key x < key y ∨ (key x = key y ∧ x < y)
theorem Lt.trans {key : Nat → Nat} {x y z : Nat} (h : Lt key x y) (k : Lt key y z) : Lt key x z := by unfold Lt at *; omega
theorem Lt.le {key : Nat → Nat} {x y : Nat} (h : Lt key x y) : key x ≤ key y := by unfold Lt at *; omega

def Sd (a b : Nat) (d : Nat → Nat) : Prop := ∀ i j, a ≤ i → i < j → j < b → Lt key (d i) (d j)
end

/-- Between a and b things have moved, and nowhere else. -/
structure Mv (a b : Nat) (d d' : Nat → Nat) : Prop where
  out : ∀ i, (i < a ∨ b ≤ i) → d' i = d i
  back : ∀ i, a ≤ i → i < b → ∃ j, a ≤ j ∧ j < b ∧ d' i = d j
  fwd : ∀ i, a ≤ i → i < b → ∃ j, a ≤ j ∧ j < b ∧ d' j = d i
theorem Mv.refl (a b : Nat) (d : Nat → Nat) : Mv a b d d := ⟨fun _ _ => rfl, fun i h1 h2 => ⟨i, h1, h2, rfl⟩, fun i h1 h2 => ⟨i, h1, h2, rfl⟩⟩
theorem Mv.trans {a b : Nat} {d d' d'' : Nat → Nat} (h : Mv a b d d') (k : Mv a b d' d'') : Mv a b d d'' :=
  ⟨fun i hi => (k.out i hi).trans (h.out i hi), fun i h1 h2 => by
    obtain ⟨j, j1, j2, e⟩ := k.back i h1 h2
    obtain ⟨l, l1, l2, e2⟩ := h.back j j1 j2
    exact ⟨l, l1, l2, e.trans e2⟩, fun i h1 h2 => by
    obtain ⟨j, j1, j2, e⟩ := h.fwd i h1 h2
    obtain ⟨l, l1, l2, e2⟩ := k.fwd j j1 j2
    exact ⟨l, l1, l2, e2.trans e⟩⟩
theorem Mv.wide {a b a' b' : Nat} {d d' : Nat → Nat} (h : Mv a b d d') (ha : a' ≤ a) (hb : b ≤ b') : Mv a' b' d d' :=
  ⟨fun i hi => h.out i (by omega), fun i h1 h2 => by
    by_cases e : a ≤ i ∧ i < b
    · obtain ⟨j, j1, j2, e2⟩ := h.back i e.1 e.2
      exact ⟨j, by omega, by omega, e2⟩
    · exact ⟨i, h1, h2, h.out i (by omega)⟩, fun i h1 h2 => by
    by_cases e : a ≤ i ∧ i < b
    · obtain ⟨j, j1, j2, e2⟩ := h.fwd i e.1 e.2
      exact ⟨j, by omega, by omega, e2⟩
    · exact ⟨i, h1, h2, h.out i (by omega)⟩⟩

/-! ### merging -/
section
variable {key : Nat → Nat}
/-- Two sorted halves, the left one's of each key ahead of the right one's. -/
structure Two' (key : Nat → Nat) (a m b : Nat) (d : Nat → Nat) : Prop where
  l : Sd key a m d
  r : Sd key m b d
  cross : ∀ i j, a ≤ i → i < m → m ≤ j → j < b → key (d i) ≤ key (d j) → Lt key (d i) (d j)

theorem sd_congr {a b : Nat} {d d' : Nat → Nat} (h : Sd key a b d) (he : ∀ i, a ≤ i → i < b → d' i = d i) : Sd key a b d' := fun i j h1 h2 h3 => by
  rw [he i h1 (by omega), he j (by omega) h3]; exact h i j h1 h2 h3
/-- Where all of the first half are ahead of all of the second one. -/
theorem sd_join {a m b : Nat} {d : Nat → Nat} (h1 : Sd key a m d) (h2 : Sd key m b d) (h : ∀ i j, a ≤ i → i < m → m ≤ j → j < b → Lt key (d i) (d j)) : Sd key a b d := fun i j i1 ij jb => by
  by_cases c : j < m
  · exact h1 i j i1 ij c
  · by_cases c2 : i < m
    · exact h i j i1 c2 (by omega) jb
    · exact h2 i j (by omega) ij jb

/-- The place at which the left half is cut: s of the left one's are ahead of all of the right one's from e on, and the others behind all of the right one's below e. -/
structure Cut (key : Nat → Nat) (a s m e b : Nat) (d : Nat → Nat) : Prop where
  s1 : a ≤ s
  s2 : s ≤ m
  e1 : m ≤ e
  e2 : e ≤ b
  lo : s = a ∨ e = b ∨ key (d (s - 1)) ≤ key (d e)
  hi : s = m ∨ e = m ∨ key (d (e - 1)) < key (d s)

/-- The two halves sorted each, the whole is. -/
theorem merged {a m b : Nat} {d d1 d2 : Nat → Nat} (ha : a ≤ m) (hb : m ≤ b) (h : ∀ i j, a ≤ i → i < m → m ≤ j → j < b → Lt key (d i) (d j)) (m1 : Mv a m d d1) (q1 : Sd key a m d1) (m2 : Mv m b d1 d2) (q2 : Sd key m b d2) :
    Mv a b d d2 ∧ Sd key a b d2 := by
  refine ⟨(m1.wide (Nat.le_refl _) hb).trans (m2.wide ha (Nat.le_refl _)), sd_join (sd_congr q1 fun i _ i2 => m2.out i (Or.inl i2)) q2 fun i j i1 i2 i3 i4 => ?_⟩
  rw [m2.out i (Or.inl i2)]
  obtain ⟨j', j1, j2, e⟩ := m2.back j i3 i4
  obtain ⟨i', i1', i2', e'⟩ := m1.back i i1 i2
  rw [e, e', m1.out j' (Or.inr j1)]
  exact h i' j' i1' i2' j1 j2
theorem sd_one {a b : Nat} {d : Nat → Nat} (h : b ≤ a + 1) : Sd key a b d := fun i j _ _ _ => by omega
theorem Two'.right {a b : Nat} {d : Nat → Nat} {m : Nat} (h : Two' key a m b d) (e : m ≤ a) : Sd key a b d := fun i j h1 h2 h3 => h.r i j (by omega) h2 h3
theorem Two'.left {a b : Nat} {d : Nat → Nat} {m : Nat} (h : Two' key a m b d) (e : b ≤ m) : Sd key a b d := fun i j h1 h2 h3 => h.l i j h1 h2 (by omega)

/-! ### inserting -/
/-! ### blocks -/
/-- The block from a to b is sorted, and has what it had. -/
structure Good (key : Nat → Nat) (a b : Nat) (d : Nat → Nat) : Prop where
  sd : Sd key a b d
  has : ∀ i, a ≤ i → i < b → a ≤ d i ∧ d i < b
theorem Good.congr {a b : Nat} {d d' : Nat → Nat} (h : Good key a b d) (he : ∀ i, a ≤ i → i < b → d' i = d i) : Good key a b d' :=
  ⟨sd_congr h.sd he, fun i h1 h2 => by rw [he i h1 h2]; exact h.has i h1 h2⟩
theorem Good.two {a m b : Nat} {d : Nat → Nat} (h1 : Good key a m d) (h2 : Good key m b d) : Two' key a m b d :=
  ⟨h1.sd, h2.sd, fun i j i1 i2 j1 j2 hk => by
    have := h1.has i i1 i2
    have := h2.has j j1 j2
    unfold Lt; omega⟩
theorem Good.merged {a m b : Nat} {d d' : Nat → Nat} (h1 : Good key a m d) (h2 : Good key m b d) (ha : a ≤ m) (hb : m ≤ b) (mv : Mv a b d d') (hs : Sd key a b d') : Good key a b d' :=
  ⟨hs, fun i i1 i2 => by
    obtain ⟨j, j1, j2, e⟩ := mv.back i i1 i2
    rw [e]
    by_cases c : j < m
    · have := h1.has j j1 c; omega
    · have := h2.has j (by omega) j2; omega⟩
/-- Blocks of B, each in order, the last one as long as there is. -/
def Blocks (key : Nat → Nat) (B n : Nat) (d : Nat → Nat) : Prop := ∀ k, k * B < n → Good key (k * B) (min (k * B + B) n) d
/-- Blocks of B up to A; behind that nothing has moved. -/
def First (key : Nat → Nat) (B A : Nat) (d : Nat → Nat) : Prop := ∃ q, A = q * B ∧ (∀ k, k < q → Good key (k * B) (k * B + B) d) ∧ ∀ i, A ≤ i → d i = i
theorem good_of_id {a e : Nat} {d d' : Nat → Nat} (h : ∀ i, a ≤ i → d i = i) (mv : Mv a e d d') (hs : Sd key a e d') : Good key a e d' :=
  ⟨hs, fun i i1 i2 => by
    obtain ⟨j, j1, j2, e1⟩ := mv.back i i1 i2
    rw [e1, h j j1]; omega⟩
theorem mul_le_of_lt {k q B : Nat} (h : k < q) : k * B + B ≤ q * B := by
  have := Nat.mul_le_mul_right B (show k + 1 ≤ q from h)
  rwa [Nat.add_mul, Nat.one_mul] at this
theorem First.step {B A : Nat} {d d' : Nat → Nat} (h : First key B A d) (mv : Mv A (A + B) d d') (hs : Sd key A (A + B) d') : First key B (A + B) d' := by
  obtain ⟨q, hA, h1, h2⟩ := h
  refine ⟨q + 1, by rw [hA, Nat.add_mul, Nat.one_mul], fun k hk => ?_, fun i hi => by rw [mv.out i (Or.inr hi)]; exact h2 i (by omega)⟩
  by_cases e : k < q
  · have := mul_le_of_lt (B := B) e
    exact (h1 k e).congr fun i i1 i2 => mv.out i (Or.inl (by omega))
  · obtain rfl : k = q := by omega
    rw [← hA]; exact good_of_id h2 mv hs
theorem First.blocks {B A n : Nat} {d d' : Nat → Nat} (h : First key B A d) (hn : A ≤ n) (hB : n < A + B) (mv : Mv A n d d') (hs : Sd key A n d') : Blocks key B n d' := by
  obtain ⟨q, hA, h1, h2⟩ := h
  intro k hk
  by_cases e : k < q
  · have := mul_le_of_lt (B := B) e
    rw [show min (k * B + B) n = k * B + B by omega]
    exact (h1 k e).congr fun i i1 i2 => mv.out i (Or.inl (by omega))
  · by_cases e2 : k = q
    · subst e2
      rw [← hA, show min (A + B) n = n by omega]; exact good_of_id h2 mv hs
    · have := mul_le_of_lt (B := B) (show q < k by omega)
      omega
theorem Blocks.whole {B n : Nat} {d : Nat → Nat} (h : Blocks key B n d) (hB : n ≤ B) : Sd key 0 n d := by
  rcases Nat.eq_zero_or_pos n with e | e
  · subst e; exact sd_one (by omega)
  · have := (h 0 (by omega)).sd
    rwa [Nat.zero_mul, show min (0 + B) n = n by omega] at this
end

/-! ### what comes out -/
end Go.Proofs.Ytnhcbldcfcibiaa
/- The least byte of a class as package split asks for it, and the order of two classes by it. -/
namespace Go.Proofs.Ytnhcbldcfcibiaa
open Go Go.RowKit
set_option linter.unusedVariables false

end Go.Proofs.Ytnhcbldcfcibiaa
/- Classes, split into parts: the parts of a list, by which bytes the classes tell apart. -/
namespace Go.Proofs.Ytnhcbldcfcibiaa
set_option linter.unusedVariables false

/-! ### a class more -/
/-- Is p split by a? -/
def splits (a p : BitVec 256) : Bool := decide (p &&& a ≠ 0#256) && decide (p &&& a ≠ p)
end Go.Proofs.Ytnhcbldcfcibiaa
