/- symMergeCmpFunc over a row of classes: what is known on the way. -/
import Derived.Test.YtgehepiphdphjaaDoorSortSym
namespace Go.Proofs.YtgehepiphdphjaaDoor
open Go Go.RowKit
set_option linter.unusedVariables false

/-- Looking for the place at which the left half is cut. -/
def SymR (L : Nat → BitVec 256) (d : Nat → Nat) (lo hi N b n : Nat) (w : World) (i j : Value) (wr : World) : Prop :=
  ∃ (x y : Nat), i = .int .i64 x ∧ j = .int .i64 y ∧ lo ≤ x ∧ x ≤ y ∧ y ≤ hi ∧ (x = lo ∨ lstB (L (d (x - 1))) ≤ lstB (L (d (N - x)))) ∧ (y = hi ∨ lstB (L (d (N - 1 - y))) < lstB (L (d y))) ∧ SortS w b n (fun i => L (d i)) wr

theorem sym_cut {L : Nat → BitVec 256} {d : Nat → Nat} {a m e lo hi x D : Nat} (hD : D = (a + e) / 2) (ham : a < m) (hme : m < e) (hlh : (D < m ∧ lo = D + m - e ∧ hi = D) ∨ (m ≤ D ∧ lo = a ∧ hi = m)) (h1 : lo ≤ x) (h2 : x ≤ hi)
    (hlo : x = lo ∨ lstB (L (d (x - 1))) ≤ lstB (L (d (D + m - x)))) (hhi : x = hi ∨ lstB (L (d (D + m - 1 - x))) < lstB (L (d x))) : Cut (fun i => lstB (L i)) a x m (D + m - x) e d :=
  ⟨by omega, by omega, by omega, by omega, by
    rcases hlo with hlo | hlo
    · rcases hlh with hh | hh
      · right; left; omega
      · left; omega
    · right; right; exact hlo, by
    rcases hhi with hhi | hhi
    · rcases hlh with hh | hh
      · right; left; omega
      · left; omega
    · right; right; rw [show D + m - x - 1 = D + m - 1 - x by omega]; exact hhi⟩

theorem Two'.congr {key : Nat → Nat} {a m b : Nat} {d d' : Nat → Nat} (h : Two' key a m b d) (he : ∀ i, a ≤ i → i < b → d' i = d i) (ha : a ≤ m) (hb : m ≤ b) : Two' key a m b d' :=
  ⟨sd_congr h.l fun i h1 h2 => he i h1 (by omega), sd_congr h.r fun i h1 h2 => he i (by omega) h2, fun i j i1 i2 j1 j2 hk => by
    rw [he i i1 (by omega), he j (by omega) j2] at hk ⊢
    exact h.cross i j i1 i2 j1 j2 hk⟩
theorem SortS.trans {w0 w w' : World} {b n : Nat} {f f' : Nat → BitVec 256} (h : SortS w0 b n f w) (k : SortS w b n f' w') : SortS w0 b n f' w' := ⟨k.row, k.deb, h.but.trans k.but⟩
theorem SortS.refl {w0 w : World} {b n : Nat} {f : Nat → BitVec 256} (h : SortS w0 b n f w) : SortS w b n f w := ⟨h.row, h.deb, But.refl _ _⟩
/-- Behind the first recursion: so far it is in order. -/
def Half (L : Nat → BitVec 256) (a D b n : Nat) (c1 d1 : Nat → Nat) (w1 w2 : World) : Prop := Mv a D c1 d1 ∧ Sd (fun i => lstB (L i)) a D d1 ∧ SortS w1 b n (fun i => L (d1 i)) w2
/-- What is known behind the rotation. -/
def Rotd (L : Nat → BitVec 256) (d c1 : Nat → Nat) (a x D E e : Nat) : Prop :=
  Mv a e d c1 ∧ Two' (fun i => lstB (L i)) a x D c1 ∧ Two' (fun i => lstB (L i)) D E e c1 ∧ ∀ i j, a ≤ i → i < D → D ≤ j → j < e → Lt (fun i => lstB (L i)) (c1 i) (c1 j)
theorem Rotd.done {L : Nat → BitVec 256} {d c1 d1 d2 : Nat → Nat} {a x D E e b n : Nat} {w w1 w2 w3 : World} (h : Rotd L d c1 a x D E e) (ha : a ≤ D) (he : D ≤ e) (h1 : SortS w b n (fun i => L (c1 i)) w1) (hh : Half L a D b n c1 d1 w1 w2) (M2 : Mv D e d1 d2) (Q2 : Sd (fun i => lstB (L i)) D e d2) (S2 : SortS w2 b n (fun i => L (d2 i)) w3) :
    ∃ d', Mv a e d d' ∧ Sd (fun i => lstB (L i)) a e d' ∧ SortS w b n (fun i => L (d' i)) w3 :=
  have hm := merged ha he h.2.2.2 hh.1 hh.2.1 M2 Q2
  ⟨d2, h.1.trans hm.1, hm.2, (h1.trans hh.2.2).trans S2⟩
theorem Rotd.second {L : Nat → BitVec 256} {d c1 d1 : Nat → Nat} {a x D E e b n : Nat} {w1 w2 : World} (h : Rotd L d c1 a x D E e) (hh : Half L a D b n c1 d1 w1 w2) (hD : D ≤ E) (hE : E ≤ e) : Two' (fun i => lstB (L i)) D E e d1 :=
  h.2.2.1.congr (fun i h1 _ => hh.1.out i (Or.inr h1)) hD hE

end Go.Proofs.YtgehepiphdphjaaDoor
