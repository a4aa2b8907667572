/- The least bytes of the parts of rows: where a row begins, or is behind; and how they are counted. -/
import Derived.Test.YtgehepiphdphjaaDoorSplitMath
namespace Go.Proofs.YtgehepiphdphjaaDoor
set_option linter.unusedVariables false

def rowTo (fr lg : List Nat) (j : Nat) : Nat := min 255 (fr.getD j 0 + lg.getD j 0)
def rowsOf (fr lg : List Nat) (k : Nat) : List (BitVec 256) := (List.range k).map fun j => rowB (fr.getD j 0) (rowTo fr lg j)
theorem rowsOf_succ (fr lg : List Nat) (k : Nat) : rowsOf fr lg (k + 1) = rowsOf fr lg k ++ [rowB (fr.getD k 0) (rowTo fr lg k)] := by unfold rowsOf; rw [List.range_succ, List.map_append]; rfl
theorem rowsOf_length (fr lg : List Nat) (k : Nat) : (rowsOf fr lg k).length = k := by unfold rowsOf; simp
/-- Where a row begins, or is behind. -/
def cutB (fr lg : List Nat) (k i : Nat) : Bool := i == 0 || (List.range k).any fun j => i == fr.getD j 0 || i == rowTo fr lg j + 1
theorem cut_succ (fr lg : List Nat) (k i : Nat) : cutB fr lg (k + 1) i = (if i = rowTo fr lg k + 1 then true else if i = fr.getD k 0 then true else cutB fr lg k i) := by
  unfold cutB
  rw [List.range_succ, List.any_append]
  by_cases h1 : i = rowTo fr lg k + 1
  · rw [if_pos h1]; simp [h1]
  · rw [if_neg h1]
    by_cases h2 : i = fr.getD k 0
    · rw [if_pos h2]
      simp only [List.any_cons, List.any_nil, Bool.or_false]
      rw [show (i == fr.getD k 0) = true from beq_iff_eq.2 h2]; simp
    · rw [if_neg h2]
      simp only [List.any_cons, List.any_nil, Bool.or_false]
      rw [show (i == fr.getD k 0) = false from beq_eq_false_iff_ne.2 h2, show (i == rowTo fr lg k + 1) = false from beq_eq_false_iff_ne.2 h1]; simp
theorem cut_zero (fr lg : List Nat) (i : Nat) : cutB fr lg 0 i = decide (i = 0) := by unfold cutB; simp; rfl
theorem head_cut {fr lg : List Nat} {k c : Nat} (hc : c < 256) (h : headB (rowsOf fr lg k) c = true) : cutB fr lg k c = true := by
  unfold cutB
  rcases Nat.eq_zero_or_pos c with e | e
  · subst e; simp
  · have hl := head_iff.1 h (c - 1) (by omega)
    have : ¬ ∀ a ∈ rowsOf fr lg k, a.getLsbD (c - 1) = a.getLsbD c := fun hh => by rw [like_iff.2 hh] at hl; cases hl
    rw [Bool.or_eq_true, List.any_eq_true]
    right
    apply Classical.byContradiction
    intro hn
    apply this
    intro a ha
    unfold rowsOf at ha
    rw [List.mem_map] at ha
    obtain ⟨j, hj, rfl⟩ := ha
    rw [rowB_bit _ _ _ (by omega), rowB_bit _ _ _ hc]
    have hx : ¬ ((c == fr.getD j 0 || c == rowTo fr lg j + 1) = true) := fun hh => hn ⟨j, hj, hh⟩
    rw [Bool.or_eq_true, beq_iff_eq, beq_iff_eq] at hx
    congr 1; rw [eq_iff_iff]
    have : fr.getD j 0 ≤ rowTo fr lg j ∨ 255 < fr.getD j 0 := by unfold rowTo; omega
    omega

/-- The heads below c. -/
def headsTo (l : List (BitVec 256)) (c : Nat) : List Nat := (List.range c).filter (headB l)
theorem headsTo_succ (l : List (BitVec 256)) (c : Nat) : headsTo l (c + 1) = if headB l c then headsTo l c ++ [c] else headsTo l c := by
  unfold headsTo
  rw [List.range_succ, List.filter_append]
  cases h : headB l c <;> simp [h]
theorem headsTo_all (l : List (BitVec 256)) : headsTo l 256 = headsL l := rfl
theorem heads_split (l : List (BitVec 256)) (c : Nat) (hc : c ≤ 256) : ∃ R, headsL l = headsTo l c ++ R ∧ ∀ x ∈ R, c ≤ x := by
  refine ⟨((List.range' c (256 - c)).filter (headB l)), ?_, fun x hx => ?_⟩
  · unfold headsL headsTo
    rw [← List.filter_append]
    congr 1
    rw [List.range_eq_range', List.range_eq_range']
    have := @List.range'_append 0 c (256 - c) 1
    simp only [Nat.one_mul, Nat.zero_add] at this
    rw [this]; congr 1; omega
  · rw [List.mem_filter, List.mem_range'_1] at hx; exact hx.1.1
theorem heads_at {l : List (BitVec 256)} {c : Nat} (hc : c < 256) (h : headB l c = true) : (headsTo l c).length < (headsL l).length ∧ (headsL l).getD (headsTo l c).length 0 = c := by
  obtain ⟨R, hR, _⟩ := heads_split l (c + 1) (by omega)
  rw [headsTo_succ, if_pos h] at hR
  rw [hR]
  constructor
  · simp
  · simp
theorem heads_not {l : List (BitVec 256)} {c : Nat} (hc : c < 256) (h : headB l c = false) (hl : (headsTo l c).length < (headsL l).length) : (headsL l).getD (headsTo l c).length 0 ≠ c := by
  obtain ⟨R, hR, hx⟩ := heads_split l (c + 1) (by omega)
  rw [headsTo_succ, h] at hR
  simp only [Bool.false_eq_true, if_false] at hR
  cases R with
  | nil => rw [hR] at hl; simp at hl
  | cons x R =>
    have := hx x (by simp)
    rw [hR]
    have e : ((headsTo l c) ++ x :: R).getD (headsTo l c).length 0 = x := by simp
    rw [e]; omega
end Go.Proofs.YtgehepiphdphjaaDoor
