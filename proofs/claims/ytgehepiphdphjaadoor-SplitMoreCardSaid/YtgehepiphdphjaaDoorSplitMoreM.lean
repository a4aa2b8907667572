/- The parts of lists that tell bytes apart alike, and of a list with a class more. -/
import Derived.Test.YtgehepiphdphjaaDoorSplitRefine
namespace Go.Proofs.YtgehepiphdphjaaDoor
set_option linter.unusedVariables false

theorem partsL_congr {l m : List (BitVec 256)} (h : ∀ c d, c < 256 → d < 256 → likeB l c d = likeB m c d) : partsL l = partsL m := by
  have hh : headsL l = headsL m := by
    unfold headsL
    refine List.filter_congr fun c hc => ?_
    rw [List.mem_range] at hc
    unfold headB
    rw [Bool.eq_iff_iff, List.all_eq_true, List.all_eq_true]
    constructor
    · intro q d hd; have hdc := List.mem_range.1 hd; rw [← h d c (by omega) hc]; exact q d hd
    · intro q d hd; have hdc := List.mem_range.1 hd; rw [h d c (by omega) hc]; exact q d hd
  unfold partsL
  rw [hh]
  refine List.map_congr_left fun c hc => ?_
  unfold headsL at hc; rw [List.mem_filter, List.mem_range] at hc
  exact bv_ext fun i hi => by rw [cell_bit _ _ _ hi, cell_bit _ _ _ hi, h c i hc.1 hi]
theorem like_mem {l m : List (BitVec 256)} (h1 : ∀ a ∈ l, a ∈ m ∨ ∃ b ∈ m, a = ~~~b) (h2 : ∀ b ∈ m, b ∈ l ∨ ~~~b ∈ l) (c d : Nat) (hc : c < 256) (hd : d < 256) : likeB l c d = likeB m c d := by
  rw [Bool.eq_iff_iff, like_iff, like_iff]
  constructor
  · intro h b hb
    rcases h2 b hb with q | q
    · exact h b q
    · have := h _ q
      rw [BitVec.getLsbD_not, BitVec.getLsbD_not] at this
      simp only [hc, hd, decide_true, Bool.true_and] at this
      simpa using this
  · intro h a ha
    rcases h1 a ha with q | ⟨b, hb, rfl⟩
    · exact h a q
    · rw [BitVec.getLsbD_not, BitVec.getLsbD_not, h b hb]; simp [hc, hd]

theorem isparts_parts (l : List (BitVec 256)) : IsParts (partsL l) l := by
  refine ⟨fun p hp => ?_, fun c hc => ?_, ?_⟩
  · unfold partsL at hp; rw [List.mem_map] at hp
    obtain ⟨c, hc, rfl⟩ := hp
    unfold headsL at hc; rw [List.mem_filter, List.mem_range] at hc
    exact ⟨c, hc.1, rfl⟩
  · obtain ⟨h1, h2, h3⟩ := head_lst (l := l) hc
    unfold partsL; rw [List.mem_map]
    exact ⟨lstB (cellB l c), by unfold headsL; rw [List.mem_filter, List.mem_range]; exact ⟨h3, h1⟩, (cell_like h2).symm⟩
  · unfold partsL
    rw [List.Nodup, List.pairwise_map]
    have hn : (headsL l).Nodup := (List.nodup_range (n := 256)).filter (headB l)
    refine hn.imp_of_mem fun {x y} hx hy hne e => ?_
    unfold headsL at hx hy; rw [List.mem_filter, List.mem_range] at hx hy
    exact hne (by rw [← lst_cell hx.1 hx.2, ← lst_cell hy.1 hy.2, e])

theorem mem_pieces {P : List (BitVec 256)} {a x : BitVec 256} : x ∈ piecesL P a ↔ x ≠ 0#256 ∧ ∃ p ∈ P, x = p &&& a ∨ x = p &&& ~~~a := by
  unfold piecesL
  rw [List.mem_flatMap]
  constructor
  · rintro ⟨p, hp, hx⟩
    rw [List.mem_filter] at hx
    obtain ⟨h1, h2⟩ := hx
    simp only [List.mem_cons, List.not_mem_nil, or_false] at h1
    exact ⟨by simpa using h2, p, hp, h1⟩
  · rintro ⟨h0, p, hp, hx⟩
    refine ⟨p, hp, ?_⟩
    rw [List.mem_filter]
    exact ⟨by simpa using hx, by simpa using h0⟩

/-- What parts are cut into: the parts with the class more. -/
theorem isparts_pieces {P l : List (BitVec 256)} (h : IsParts P l) (a : BitVec 256) : IsParts (piecesL P a) (l ++ [a]) := by
  have bit : ∀ p ∈ P, ∀ c, c < 256 → p.getLsbD c = true → p = cellB l c := by
    intro p hp c hc hb
    obtain ⟨d, hd, rfl⟩ := h.of p hp
    rw [cell_bit _ _ _ hc] at hb
    exact cell_like hb
  refine ⟨fun x hx => ?_, fun c hc => ?_, ?_⟩
  · obtain ⟨h0, p, hp, hx⟩ := mem_pieces.1 hx
    obtain ⟨i, hi, hb⟩ := ex_bit h0
    rcases hx with rfl | rfl
    · rw [BitVec.getLsbD_and, Bool.and_eq_true] at hb
      exact ⟨i, hi, by rw [cell_in hb.2, ← bit p hp i hi hb.1]⟩
    · rw [BitVec.getLsbD_and, BitVec.getLsbD_not, Bool.and_eq_true] at hb
      have ha : a.getLsbD i = false := by simpa [hi] using hb.2
      exact ⟨i, hi, by rw [cell_out ha, ← bit p hp i hi hb.1]⟩
  · have hs := cell_self (l ++ [a]) c hc
    refine mem_pieces.2 ⟨nonzero_of hs, cellB l c, h.all c hc, ?_⟩
    cases ha : a.getLsbD c with
    | true => left; exact cell_in ha
    | false => right; exact cell_out ha
  · unfold piecesL
    rw [List.Nodup, List.pairwise_flatMap]
    constructor
    · intro p hp
      by_cases h1 : (p &&& a) = (p &&& ~~~a)
      · have hz : p &&& a = 0#256 := bv_ext fun i hi => by
          have := congrArg (fun s => BitVec.getLsbD s i) h1
          simp only [BitVec.getLsbD_and, BitVec.getLsbD_not, hi, decide_true, Bool.true_and] at this
          rw [BitVec.getLsbD_and]
          cases hq : p.getLsbD i <;> cases hr : a.getLsbD i <;> simp_all
        rw [← h1, hz]; simp
      · refine List.Pairwise.filter _ ?_
        simp [h1]
    · refine h.nodup.imp_of_mem fun {p q} hp hq hne x hx y hy e => ?_
      subst e
      rw [List.mem_filter] at hx hy
      have h0 : x ≠ 0#256 := by simpa using hx.2
      obtain ⟨i, hi, hb⟩ := ex_bit h0
      have sub : ∀ p : BitVec 256, x ∈ [p &&& a, p &&& ~~~a] → p.getLsbD i = true := by
        intro p hm
        simp only [List.mem_cons, List.not_mem_nil, or_false] at hm
        rcases hm with rfl | rfl
        · rw [BitVec.getLsbD_and, Bool.and_eq_true] at hb; exact hb.1
        · rw [BitVec.getLsbD_and, Bool.and_eq_true] at hb; exact hb.1
      exact hne ((bit p hp i hi (sub p hx.1)).trans (bit q hq i hi (sub q hy.1)).symm)
theorem refine_parts (l : List (BitVec 256)) (a : BitVec 256) : refineL (partsL l) a = partsL (l ++ [a]) := (isparts_pieces (isparts_parts l) a).bucket
theorem refine_same {l : List (BitVec 256)} {a : BitVec 256} (ha : a ∈ l) : refineL (partsL l) a = partsL l := by
  rw [refine_parts]
  exact partsL_congr fun c d hc hd => like_mem (fun x hx => by rw [List.mem_append, List.mem_singleton] at hx; rcases hx with q | q; exact .inl q; exact .inl (q ▸ ha)) (fun b hb => .inl (by simp [hb])) c d hc hd
end Go.Proofs.YtgehepiphdphjaaDoor
