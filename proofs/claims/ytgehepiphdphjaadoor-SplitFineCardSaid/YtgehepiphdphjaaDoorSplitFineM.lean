/- What holds of the parts of a list: apart, all together, each class all or nothing of one, and none finer needed. -/
import Derived.Test.YtgehepiphdphjaaDoorSplitHeadsM
namespace Go.Proofs.YtgehepiphdphjaaDoor
set_option linter.unusedVariables false

theorem headsL_get {l : List (BitVec 256)} {k : Nat} (hk : k < (headsL l).length) : (headsL l).getD k 0 < 256 ∧ headB l ((headsL l).getD k 0) = true := by
  have hm : (headsL l).getD k 0 ∈ headsL l := by simp [hk]
  generalize (headsL l).getD k 0 = c at *
  unfold headsL at hm; rw [List.mem_filter, List.mem_range] at hm; exact hm
theorem partsL_get {l : List (BitVec 256)} {k : Nat} (hk : k < (headsL l).length) : (partsL l).getD k 0 = cellB l ((headsL l).getD k 0) := by
  have e1 : (headsL l).getD k 0 = (headsL l)[k] := by simp [hk]
  have e2 : ((headsL l).map (cellB l)).getD k 0 = cellB l (headsL l)[k] := by simp [hk]
  unfold partsL; rw [e1, e2]
theorem heads_rise {l : List (BitVec 256)} {i j : Nat} (hij : i < j) (hj : j < (headsL l).length) : (headsL l).getD i 0 < (headsL l).getD j 0 := by
  have hp : (headsL l).Pairwise (· < ·) := (List.pairwise_lt_range (n := 256)).filter (headB l)
  have e1 : (headsL l).getD i 0 = (headsL l)[i] := by simp [show i < (headsL l).length by omega]
  have e2 : (headsL l).getD j 0 = (headsL l)[j] := by simp [hj]
  rw [e1, e2]
  exact List.pairwise_iff_getElem.1 hp i j _ _ hij
/-- Of two heads one class has one alone. -/
theorem heads_apart {l : List (BitVec 256)} {i j : Nat} (hij : i < j) (hj : j < (headsL l).length) : likeB l ((headsL l).getD i 0) ((headsL l).getD j 0) = false :=
  head_iff.1 (headsL_get hj).2 _ (heads_rise hij hj)
theorem part_least {l : List (BitVec 256)} {k : Nat} (hk : k < (headsL l).length) : IsLeast ((partsL l).getD k 0) ((headsL l).getD k 0) := by
  obtain ⟨h1, h2⟩ := headsL_get hk
  rw [partsL_get hk]
  have := least_of_ne (nonzero_of (cell_self l _ h1))
  rwa [lst_cell h1 h2] at this
/-- A class has all of a part, or nothing. -/
theorem part_whole {l : List (BitVec 256)} {k : Nat} (hk : k < (headsL l).length) {a : BitVec 256} (ha : a ∈ l) : (partsL l).getD k 0 &&& a = (partsL l).getD k 0 ∨ (partsL l).getD k 0 &&& a = 0#256 := by
  rw [partsL_get hk]
  obtain ⟨h1, _⟩ := headsL_get hk
  generalize (headsL l).getD k 0 = c at *
  cases hb : a.getLsbD c with
  | true => left; exact and_eq_self.2 fun i hi hp => by rw [cell_bit _ _ _ hi] at hp; rw [← like_iff.1 hp a ha]; exact hb
  | false => right; exact and_eq_zero.2 fun i hi hp => by rw [cell_bit _ _ _ hi] at hp; rw [← like_iff.1 hp a ha]; exact hb
/-- The first k parts together. -/
def joinTo (l : List (BitVec 256)) (k : Nat) : BitVec 256 := setB fun i => (List.range k).any fun j => likeB l ((headsL l).getD j 0) i
theorem join_zero (l : List (BitVec 256)) : joinTo l 0 = 0#256 := bv_ext fun i hi => by unfold joinTo; rw [setB_bit _ _ hi]; simp
theorem join_succ {l : List (BitVec 256)} {k : Nat} (hk : k < (headsL l).length) : joinTo l (k + 1) = joinTo l k ||| (partsL l).getD k 0 := bv_ext fun i hi => by
  rw [BitVec.getLsbD_or, partsL_get hk, cell_bit _ _ _ hi]
  unfold joinTo
  rw [setB_bit _ _ hi, setB_bit _ _ hi, List.range_succ, List.any_append]; simp
theorem join_part {l : List (BitVec 256)} {k : Nat} (hk : k < (headsL l).length) : joinTo l k &&& (partsL l).getD k 0 = 0#256 := by
  refine and_eq_zero.2 fun i hi hp => ?_
  rw [partsL_get hk, cell_bit _ _ _ hi]
  unfold joinTo at hp
  rw [setB_bit _ _ hi, List.any_eq_true] at hp
  obtain ⟨j, hj, h1⟩ := hp
  cases h2 : likeB l ((headsL l).getD k 0) i with
  | false => rfl
  | true =>
    have := heads_apart (List.mem_range.1 hj) hk
    rw [like_trans h1 (like_symm h2)] at this; cases this
theorem join_all (l : List (BitVec 256)) : joinTo l (headsL l).length = rowB 0 255 := bv_ext fun i hi => by
  unfold joinTo
  rw [setB_bit _ _ hi, rowB_bit _ _ _ hi]
  have h255 : decide (0 ≤ i ∧ i ≤ 255) = true := by simp; omega
  rw [h255, List.any_eq_true]
  obtain ⟨h1, h2, h3⟩ := head_lst (l := l) hi
  have hm : lstB (cellB l i) ∈ headsL l := by unfold headsL; rw [List.mem_filter, List.mem_range]; exact ⟨h3, h1⟩
  obtain ⟨j, hj, he⟩ := List.getElem_of_mem hm
  refine ⟨j, List.mem_range.2 hj, ?_⟩
  have e1 : (headsL l).getD j 0 = (headsL l)[j] := by simp [hj]
  rw [e1, he]; exact like_symm h2
/-- One of the first j classes tells the two apart. -/
def apartB (l : List (BitVec 256)) (c d j : Nat) : Bool := (l.take j).any fun a => a.getLsbD c != a.getLsbD d
theorem apart_succ {l : List (BitVec 256)} {c d j : Nat} (hj : j < l.length) : apartB l c d (j + 1) = (apartB l c d j || ((l.getD j 0).getLsbD c != (l.getD j 0).getLsbD d)) := by
  have hg : l.getD j 0 = l[j] := by simp [hj]
  unfold apartB
  rw [List.take_succ_eq_append_getElem hj, List.any_append, hg]; simp
theorem apart_all {l : List (BitVec 256)} {c d : Nat} (h : likeB l c d = false) : apartB l c d l.length = true := by
  unfold apartB
  rw [List.take_length, List.any_eq_true]
  unfold likeB at h
  rw [List.all_eq_false] at h
  obtain ⟨a, ha, h2⟩ := h
  exact ⟨a, ha, by rw [bne_iff_ne]; intro e; exact h2 (by rw [e]; simp)⟩
end Go.Proofs.YtgehepiphdphjaaDoor
