/- The parts of one class; of a class and each of its bytes alone. -/
import Derived.Test.YtjopngcjahdodaaDoorSplitMath
namespace Go.Proofs.YtjopngcjahdodaaDoor
set_option linter.unusedVariables false

theorem cell_one (a : BitVec 256) (c : Nat) : cellB [a] c = if a.getLsbD c then a else ~~~a := bv_ext fun i hi => by
  rw [cell_bit _ _ _ hi]
  unfold likeB
  cases h : a.getLsbD c with
  | true => rw [if_pos rfl]; simp only [List.all_cons, List.all_nil, Bool.and_true, h]; cases a.getLsbD i <;> rfl
  | false => rw [if_neg (by simp), BitVec.getLsbD_not]; simp only [List.all_cons, List.all_nil, Bool.and_true, h, hi, decide_true, Bool.true_and]; cases a.getLsbD i <;> rfl
theorem not_not_bv (a : BitVec 256) : ~~~(~~~a) = a := bv_ext fun i hi => by simp [hi]
theorem parts_one_mem (a p : BitVec 256) (h : p ∈ partsL [a]) : p = a ∨ p = ~~~a := by
  unfold partsL at h
  rw [List.mem_map] at h
  obtain ⟨c, _, rfl⟩ := h
  rw [cell_one]
  cases a.getLsbD c <;> simp
def wantN (a : BitVec 256) : Nat := if a = 0#256 ∨ ~~~a = 0#256 then 1 else 2
theorem not_bit {a : BitVec 256} {i : Nat} (hi : i < 256) (h : (~~~a).getLsbD i = true) : a.getLsbD i = false := by
  rw [BitVec.getLsbD_not] at h; simpa [hi] using h
theorem isparts_one (a : BitVec 256) : ∃ P, IsParts P [a] ∧ P.length = wantN a := by
  unfold wantN
  by_cases h0 : a = 0#256
  · refine ⟨[~~~a], ⟨fun p hp => ?_, fun c hc => ?_, by simp⟩, by simp [h0]⟩
    · simp at hp; subst hp
      exact ⟨0, by omega, by rw [cell_one, if_neg (by rw [h0]; simp)]⟩
    · rw [cell_one, if_neg (by rw [h0]; simp)]; simp
  · by_cases h1 : ~~~a = 0#256
    · have hall : ∀ c, c < 256 → a.getLsbD c = true := fun c hc => by
        have : (~~~a).getLsbD c = false := by rw [h1]; simp
        rw [BitVec.getLsbD_not] at this
        simpa [hc] using this
      refine ⟨[a], ⟨fun p hp => ?_, fun c hc => ?_, by simp⟩, by simp [h1]⟩
      · simp at hp; subst hp
        exact ⟨0, by omega, by rw [cell_one, if_pos (hall 0 (by omega))]⟩
      · rw [cell_one, if_pos (hall c hc)]; simp
    · obtain ⟨i, hi, hb⟩ := ex_bit h0
      obtain ⟨j, hj, hb2⟩ := ex_bit h1
      have hb3 := not_bit hj hb2
      refine ⟨[a, ~~~a], ⟨fun p hp => ?_, fun c hc => ?_, ?_⟩, by simp [h0, h1]⟩
      · simp only [List.mem_cons, List.not_mem_nil, or_false] at hp
        rcases hp with rfl | rfl
        · exact ⟨i, hi, by rw [cell_one, if_pos hb]⟩
        · exact ⟨j, hj, by rw [cell_one, if_neg (by rw [hb3]; simp)]⟩
      · rw [cell_one]; cases a.getLsbD c <;> simp
      · rw [List.nodup_cons]
        refine ⟨fun h => ?_, by simp⟩
        simp only [List.mem_cons, List.not_mem_nil, or_false] at h
        have hx : a.getLsbD i = (~~~a).getLsbD i := by rw [← h]
        rw [BitVec.getLsbD_not, hb] at hx
        simp at hx
theorem parts_one_len (a : BitVec 256) : (headsL [a]).length = wantN a := by
  obtain ⟨P, h, hl⟩ := isparts_one a
  rw [← h.length, hl]

/-- The bytes below k of a class. -/
def bytesOf (a : BitVec 256) (k : Nat) : List Nat := (List.range k).filter fun c => a.getLsbD c
theorem bytesOf_succ (a : BitVec 256) (k : Nat) : bytesOf a (k + 1) = if a.getLsbD k then bytesOf a k ++ [k] else bytesOf a k := by
  unfold bytesOf
  rw [List.range_succ, List.filter_append]
  cases h : a.getLsbD k <;> simp [h]
theorem bytesOf_le (a : BitVec 256) (k : Nat) : (bytesOf a k).length ≤ k := by
  unfold bytesOf; exact Nat.le_trans (List.length_filter_le _ _) (by simp)
def singles (a : BitVec 256) (k : Nat) : List (BitVec 256) := a :: (bytesOf a k).map fun c => rowB c c
theorem singles_yes {a : BitVec 256} {k : Nat} (h : a.getLsbD k = true) : singles a (k + 1) = singles a k ++ [rowB k k] := by
  unfold singles; rw [bytesOf_succ, if_pos h]; simp
theorem singles_no {a : BitVec 256} {k : Nat} (h : a.getLsbD k = false) : singles a (k + 1) = singles a k := by
  unfold singles; rw [bytesOf_succ, h]; simp
theorem mem_bytes {a : BitVec 256} {c : Nat} : c ∈ bytesOf a 256 ↔ c < 256 ∧ a.getLsbD c = true := by unfold bytesOf; simp
theorem row_one_bit (c i : Nat) (hi : i < 256) : (rowB c c).getLsbD i = decide (i = c) := by
  rw [rowB_bit _ _ _ hi]; congr 1; rw [eq_iff_iff]; omega
theorem cell_singles (a : BitVec 256) (c : Nat) (hc : c < 256) : cellB (singles a 256) c = if a.getLsbD c then rowB c c else ~~~a := bv_ext fun i hi => by
  rw [cell_bit _ _ _ hi, Bool.eq_iff_iff, like_iff]
  have hs : ∀ s, s ∈ singles a 256 ↔ s = a ∨ ∃ d, (d < 256 ∧ a.getLsbD d = true) ∧ rowB d d = s := fun s => by
    unfold singles; rw [List.mem_cons, List.mem_map]; simp only [mem_bytes]
  cases h : a.getLsbD c with
  | true =>
    rw [if_pos rfl, row_one_bit c i hi, decide_eq_true_eq]
    constructor
    · intro hk
      have := hk (rowB c c) ((hs _).2 (.inr ⟨c, ⟨hc, h⟩, rfl⟩))
      rw [row_one_bit _ _ hc, row_one_bit _ _ hi] at this
      simpa using this.symm
    · rintro rfl s _; rfl
  | false =>
    rw [if_neg (by simp), BitVec.getLsbD_not]
    simp only [hi, decide_true, Bool.true_and, Bool.not_eq_true']
    constructor
    · intro hk
      have := hk a ((hs _).2 (.inl rfl))
      rw [← this]; exact h
    · intro hai s hsm
      rcases (hs s).1 hsm with rfl | ⟨d, ⟨hd, hda⟩, rfl⟩
      · rw [h, hai]
      · rw [row_one_bit _ _ hc, row_one_bit _ _ hi]
        have e1 : ¬ c = d := by rintro rfl; rw [h] at hda; cases hda
        have e2 : ¬ i = d := by rintro rfl; rw [hai] at hda; cases hda
        simp [e1, e2]
def tailN (a : BitVec 256) : Nat := if ~~~a = 0#256 then 0 else 1
theorem isparts_singles (a : BitVec 256) : ∃ P, IsParts P (singles a 256) ∧ P.length = (bytesOf a 256).length + tailN a := by
  refine ⟨((bytesOf a 256).map fun c => rowB c c) ++ (if ~~~a = 0#256 then [] else [~~~a]), ⟨fun p hp => ?_, fun c hc => ?_, ?_⟩, ?_⟩
  · rw [List.mem_append, List.mem_map] at hp
    rcases hp with ⟨c, hc, rfl⟩ | hp
    · obtain ⟨h1, h2⟩ := mem_bytes.1 hc
      exact ⟨c, h1, by rw [cell_singles a c h1, if_pos h2]⟩
    · by_cases h : ~~~a = 0#256
      · rw [if_pos h] at hp; simp at hp
      · rw [if_neg h] at hp
        simp at hp; subst hp
        obtain ⟨j, hj, hb⟩ := ex_bit h
        exact ⟨j, hj, by rw [cell_singles a j hj, if_neg (by rw [not_bit hj hb]; simp)]⟩
  · rw [cell_singles a c hc, List.mem_append, List.mem_map]
    cases h : a.getLsbD c with
    | true => left; exact ⟨c, mem_bytes.2 ⟨hc, h⟩, by rw [if_pos rfl]⟩
    | false =>
      right
      have : ~~~a ≠ 0#256 := nonzero_of (c := c) (by rw [BitVec.getLsbD_not, h]; simp [hc])
      rw [if_neg this, if_neg (by simp)]; simp
  · rw [List.nodup_append]
    refine ⟨?_, by split <;> simp, ?_⟩
    · rw [List.Nodup, List.pairwise_map]
      refine ((List.nodup_range (n := 256)).filter fun c => a.getLsbD c).imp_of_mem fun {x y} hx hy hne e => ?_
      have h1 := mem_bytes.1 hx
      have := congrArg (fun s => BitVec.getLsbD s x) e
      simp only [row_one_bit _ _ h1.1] at this
      simp at this; exact hne this
    · intro x hx y hy e
      subst e
      rw [List.mem_map] at hx
      obtain ⟨c, hc, rfl⟩ := hx
      obtain ⟨h1, h2⟩ := mem_bytes.1 hc
      by_cases h : ~~~a = 0#256
      · rw [if_pos h] at hy; simp at hy
      · rw [if_neg h] at hy
        simp only [List.mem_cons, List.not_mem_nil, or_false] at hy
        have := congrArg (fun s => BitVec.getLsbD s c) hy
        simp only [row_one_bit _ _ h1, BitVec.getLsbD_not, h2] at this
        simp at this
  · unfold tailN
    rw [List.length_append, List.length_map]
    by_cases h : ~~~a = 0#256
    · rw [if_pos h, if_pos h]; rfl
    · rw [if_neg h, if_neg h]; rfl
theorem singles_len (a : BitVec 256) : (headsL (singles a 256)).length = (bytesOf a 256).length + tailN a := by
  obtain ⟨P, h, hl⟩ := isparts_singles a
  rw [← h.length, hl]
theorem singles_length (a : BitVec 256) (k : Nat) : (singles a k).length = (bytesOf a k).length + 1 := by unfold singles; simp
end Go.Proofs.YtjopngcjahdodaaDoor
