/- The document's classes of a text: walked. -/
import Derived.Test.YtacaloddhklkiaaDoorM30
import Derived.Test.YtacaloddhklkiaaDoorM07
import Derived.Test.YtacaloddhklkiaaDoorM08
namespace Go.Proofs.YtacaloddhklkiaaDoor
open Go Go.RowKit
set_option linter.unusedVariables false
set_option linter.unusedSimpArgs false

/-- What stands behind an item. -/
def contG (f : Nat) (S : BitVec 256) (l : List UInt8) (i : Nat) : Option (BitVec 256) :=
  if l.length ≤ i then some S else if l.getD i 0 ≠ 44 ∨ i + 1 = l.length then none else itemsG f S (l.drop (i + 1))
theorem pairI_eq (l : List UInt8) (i : Nat) : (pairI l i < 0 ∧ pairI l i = -1 ∧ hexV ((l.drop i).take 2) = none) ∨ (¬ pairI l i < 0 ∧ hexV ((l.drop i).take 2) = some (pairI l i).toNat ∧ pairI l i < 256 ∧ i + 2 ≤ l.length) := by
  unfold pairI
  cases h : hexV ((l.drop i).take 2) with
  | none => left; simp
  | some x =>
    right
    have h1 := hexV_lt h
    obtain ⟨a, b, _, _, e, _⟩ := hexV_two h
    have h2 := congrArg List.length e
    rw [List.length_take, List.length_drop] at h2
    simp at h2 ⊢; omega
theorem cont_eq (f : Nat) (S : BitVec 256) (l : List UInt8) (i : Nat) : (if l.drop i = [] then some S else if (l.drop i).head? ≠ some 44 ∨ (l.drop i).length = 1 then none else itemsG f S ((l.drop i).drop 1)) = contG f S l i := by
  unfold contG
  by_cases h : l.length ≤ i
  · rw [if_pos (by rw [List.drop_eq_nil_iff]; exact h), if_pos h]
  · rw [if_neg (by rw [List.drop_eq_nil_iff]; exact h), if_neg h]
    have h1 : (l.drop i).head? = some (l.getD i 0) := by
      rw [List.drop_eq_getElem_cons (by omega), List.getD_eq_getElem?_getD, List.getElem?_eq_getElem (by omega)]; rfl
    have h2 : (l.drop i).length = 1 ↔ i + 1 = l.length := by rw [List.length_drop]; omega
    rw [h1, List.drop_drop]
    by_cases hc : l.getD i 0 ≠ 44 ∨ i + 1 = l.length
    · rw [if_pos hc, if_pos]
      rcases hc with hc | hc
      · exact .inl fun e => hc (Option.some.inj e)
      · exact .inr (h2.2 hc)
    · rw [if_neg hc, if_neg]
      rintro (hc2 | hc2)
      · exact hc (.inl fun e => hc2 (by rw [e]))
      · exact hc (.inr (h2.1 hc2))
theorem items_at {l : List UInt8} {q f : Nat} {S : BitVec 256} (hq : q < l.length) : itemsG (f + 1) S (l.drop q) =
    if pairI l q < 0 then none
    else if q + 2 < l.length ∧ l.getD (q + 2) 0 = 45 then (if pairI l (q + 3) < pairI l q then none else contG f (S ||| rowB (pairI l q).toNat (pairI l (q + 3)).toNat) l (q + 5))
    else contG f (S ||| rowB (pairI l q).toNat (pairI l q).toNat) l (q + 2) := by
  conv => lhs; unfold itemsG
  rw [if_neg (by rw [List.drop_eq_nil_iff]; omega)]
  rcases pairI_eq l q with ⟨h1, h2, h3⟩ | ⟨h1, h2, h3, h4⟩
  · rw [if_pos h1, h3]
  · rw [if_neg h1, h2]
    simp only [List.drop_drop]
    have h5 : (l.drop (q + 2)).head? = some 45 ↔ (q + 2 < l.length ∧ l.getD (q + 2) 0 = 45) := by
      by_cases h : q + 2 < l.length
      · rw [List.drop_eq_getElem_cons h, List.getD_eq_getElem?_getD, List.getElem?_eq_getElem h]; simp [h]
      · rw [List.drop_of_length_le (by omega)]; simp; omega
    by_cases hd : q + 2 < l.length ∧ l.getD (q + 2) 0 = 45
    · rw [if_pos hd, if_pos (h5.2 hd)]
      simp only
      rcases pairI_eq l (q + 3) with ⟨g1, g2, g3⟩ | ⟨g1, g2, g3, g4⟩
      · rw [g3, if_pos (by omega)]
      · rw [g2]
        simp only
        by_cases hlt : pairI l (q + 3) < pairI l q
        · rw [if_pos hlt, if_pos (by omega)]
        · rw [if_neg hlt, if_neg (by omega)]; exact cont_eq _ _ _ _
    · rw [if_neg hd, if_neg (fun h => hd (h5.1 h))]
      simp only
      rw [if_neg (Nat.lt_irrefl _)]; exact cont_eq _ _ _ _
structure BtS (w0 : World) (S : BitVec 256) (w : World) : Prop where
  bel : Below w0.heap.size w0 w
  res : Blk w w0.heap.size (cells4 0#256) 27
  box : Blk w (w0.heap.size + 1) (cells4 S) 27
theorem BtS.later {w0 w w' : World} {S : BitVec 256} (h : BtS w0 S w) (hb : Below w.heap.size w w') : BtS w0 S w' := ⟨h.bel.trans (hb.mono h.bel.size), h.res.later hb, h.box.later hb⟩
theorem below4' {B : Nat} {w : World} {b : Nat} (hb : B ≤ b) (v0 v1 v2 v3 : Value) : Below B w ((((w.setCell ⟨b, 0, none⟩ v0).setCell ⟨b, 1, none⟩ v1).setCell ⟨b, 2, none⟩ v2).setCell ⟨b, 3, none⟩ v3) :=
  ((((Below.refl B w).setCell (p := ⟨b, 0, none⟩) hb v0).setCell (p := ⟨b, 1, none⟩) hb v1).setCell (p := ⟨b, 2, none⟩) hb v2).setCell (p := ⟨b, 3, none⟩) hb v3
theorem BtS.set {w0 w : World} {S : BitVec 256} (h : BtS w0 S w) (T : BitVec 256) : BtS w0 T ((((w.setCell ⟨w0.heap.size + 1, 0, none⟩ (.int .u64 (wd T 0))).setCell ⟨w0.heap.size + 1, 1, none⟩ (.int .u64 (wd T 1))).setCell ⟨w0.heap.size + 1, 2, none⟩ (.int .u64 (wd T 2))).setCell ⟨w0.heap.size + 1, 3, none⟩ (.int .u64 (wd T 3))) :=
  ⟨h.bel.trans (below4' (Nat.le_succ _) _ _ _ _), (((h.res.setCell_ne (a := ⟨w0.heap.size + 1, 0, none⟩) (Nat.succ_ne_self _) _).setCell_ne (a := ⟨w0.heap.size + 1, 1, none⟩) (Nat.succ_ne_self _) _).setCell_ne (a := ⟨w0.heap.size + 1, 2, none⟩) (Nat.succ_ne_self _) _).setCell_ne (a := ⟨w0.heap.size + 1, 3, none⟩) (Nat.succ_ne_self _) _, h.box.set4 T⟩
def BtP (w : World) (o : Option (BitVec 256)) (e : Ending) (w' : World) : Prop := match o with
  | some s => e = .returned (.tuple #[cls s, .bool true]) ∧ Below w.heap.size w w'
  | none => ∃ s, e = .returned (.tuple #[cls s, .bool false]) ∧ Below w.heap.size w w'
def BtL (w0 : World) (l : List UInt8) (st : Nat) (iv : Value) (w : World) : Prop :=
  ∃ (q : Nat) (S : BitVec 256) (f : Nat), q ≤ l.length ∧ iv = .int .i64 (q : Int) ∧ (l.drop q).length < f ∧ listV (l.drop st) = itemsG f S (l.drop q) ∧ BtS w0 S w
end Go.Proofs.YtacaloddhklkiaaDoor
