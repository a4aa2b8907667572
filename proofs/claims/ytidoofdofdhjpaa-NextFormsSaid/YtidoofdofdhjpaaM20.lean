/- In how many ways a state is nothing: what its heads tell of that. -/
import Derived.Test.YtidoofdofdhjpaaM19
namespace Go.Proofs.Ytidoofdofdhjpaa
open Go
set_option linter.unusedVariables false
set_option linter.unusedSimpArgs false

/-- An item's ways of nothing. -/
def wyI (l : List Nd) (x : Itm) : Nat := if x.kind = 1 then wyN l x.node.toNat else if x.kind = 2 ∨ x.kind = 5 then (if x.lo = 0 then 1 else 0) else 0
/-- A state's. -/
def wyS (l : List Nd) : List Itm → Nat
  | [] => 1
  | x :: r => min 2 (wyI l x * wyS l r)
theorem wyS_le (l : List Nd) : ∀ s, wyS l s ≤ 2
  | [] => by unfold wyS; omega
  | x :: r => Nat.min_le_left _ _
theorem wyS_cons (l : List Nd) (x : Itm) (r : List Itm) : wyS l (x :: r) = min 2 (wyI l x * wyS l r) := rfl
theorem wyI_node (l : List Nd) (a : Int) : wyI l ⟨1, a, 0, 0⟩ = wyN l a.toNat := by unfold wyI; simp
theorem wyI_times (l : List Nd) (a lo hi : Int) : wyI l ⟨2, a, lo, hi⟩ = if lo = 0 then 1 else 0 := by unfold wyI; simp
theorem wyI_stop (l : List Nd) (a lo hi : Int) : wyI l ⟨5, a, lo, hi⟩ = if lo = 0 then 1 else 0 := by unfold wyI; simp
theorem wyI_text (l : List Nd) (a lo hi : Int) : wyI l ⟨3, a, lo, hi⟩ = 0 := by unfold wyI; simp
theorem small3 {a : Nat} (h : a ≤ 2) : a = 0 ∨ a = 1 ∨ a = 2 := by omega
theorem sat_seq {a b r : Nat} (ha : a ≤ 2) (hb : b ≤ 2) (hr : r ≤ 2) : min 2 (a * min 2 (b * r)) = min 2 (min (a * b) 2 * r) := by
  rcases small3 ha with rfl | rfl | rfl <;> rcases small3 hb with rfl | rfl | rfl <;> rcases small3 hr with rfl | rfl | rfl <;> rfl
theorem sat_or {a b r : Nat} (ha : a ≤ 2) (hb : b ≤ 2) (hr : r ≤ 2) : min 2 (min 2 (a * r) + min 2 (b * r)) = min 2 (min (a + b) 2 * r) := by
  rcases small3 ha with rfl | rfl | rfl <;> rcases small3 hb with rfl | rfl | rfl <;> rcases small3 hr with rfl | rfl | rfl <;> rfl
/-- The ways of all that a state opens to, together. -/
def sumO (l : List Nd) (T : List (List Itm)) : Nat := (T.map (wyS l)).sum
theorem opn_ways {l : List Nd} (hR : Rgt l) {x : Itm} (hx : HdF l x) {r : List Itm} (hrd : rdyS l (x :: r) = false) : min 2 (sumO l (opnS l x r)) = wyS l (x :: r) := by
  obtain ⟨k, nd, lo, hi⟩ := x
  have hkd := hx.kind
  simp only at hkd
  have hwr := wyS_le l r
  have hq0 : sumO l [] = 0 := rfl
  have hq1 : ∀ s, sumO l [s] = wyS l s := fun s => by unfold sumO; simp
  have hq2 : ∀ s t, sumO l [s, t] = wyS l s + wyS l t := fun s t => by unfold sumO; simp
  unfold opnS
  simp only
  by_cases k5 : k = 5
  · subst k5
    rw [if_pos rfl, wyS_cons, wyI_stop]
    by_cases h0 : lo = 0
    · rw [if_pos h0, if_pos h0, hq1]; omega
    · rw [if_neg h0, if_neg h0, hq0]; omega
  · rw [if_neg k5]
    obtain ⟨n0, n1⟩ := hx.node k5
    simp only at n0 n1
    obtain ⟨i, rfl⟩ : ∃ i : Nat, nd = (i : Int) := ⟨nd.toNat, by omega⟩
    rw [Int.toNat_natCast]
    have hil : i < l.length := by omega
    by_cases k2 : k = 2
    · subst k2
      rw [if_pos rfl]
      obtain ⟨t7, -, -, -⟩ := hx.two rfl
      simp only [Int.toNat_natCast] at t7
      obtain ⟨m0, m1, m2, m3⟩ := hd_never hR hil (.inr t7)
      have hz : ∀ q : List Itm, wyS l (⟨1, (atN l i).a, 0, 0⟩ :: q) = 0 := fun q => by rw [wyS_cons, wyI_node, m0]; omega
      rw [wyS_cons, wyI_times]
      by_cases h0 : lo = 0
      · rw [if_pos h0, if_pos h0]
        by_cases h1 : 0 < hi
        · rw [if_pos h1]
          show min 2 (sumO l [r, _]) = _
          rw [hq2, hz]; omega
        · rw [if_neg h1]
          show min 2 (sumO l [r]) = _
          rw [hq1]; omega
      · rw [if_neg h0, if_neg h0]
        by_cases h1 : 0 < hi
        · rw [if_pos h1]
          show min 2 (sumO l [_]) = _
          rw [hq1, hz]; omega
        · rw [if_neg h1]
          show min 2 (sumO l []) = _
          rw [hq0]; omega
    · rw [if_neg k2]
      by_cases k1 : k = 1
      · subst k1
        obtain ⟨l0, l1⟩ := hx.one rfl
        simp only at l0 l1
        subst l0; subst l1
        have hnr : ¬ ((atN l i).kind = 2 ∨ (atN l i).kind = 8 ∨ (atN l i).kind = 9) := fun h => by
          unfold rdyS at hrd
          simp only [Int.toNat_natCast] at hrd
          rcases h with h | h | h <;> simp [h] at hrd
        rw [wyS_cons, wyI_node, Int.toNat_natCast]
        cases hd_cs hR.1 hil with
        | leaf h1 hf =>
          unfold leafK at h1
          have hw := wyN_leaf (l := l) (i := i) h1
          unfold leafW at hw
          by_cases a1 : (atN l i).kind = 1
          · rw [if_pos a1] at hw ⊢; rw [hw, hq1]; omega
          · rw [if_neg a1] at hw ⊢
            rw [if_pos (by omega), hw, hq1, wyS_cons, wyI_text]; omega
        | one h1 hi0 ha hb h7 hr hcl hf =>
          have hw := wyN_one hi0 h1 ha
          rw [if_neg (by omega), if_neg (by omega), if_neg (by omega), if_neg (by omega)]
          by_cases a6 : (atN l i).kind = 6
          · rw [if_pos a6]
            obtain ⟨m0, m1, m2, m3⟩ := hd_never hR hil (.inl a6)
            have m0' : wyN l (i - 1) = 0 := by rw [show i - 1 = (atN l i).a.toNat by omega]; exact m0
            have hw1 : wyN l i = 1 := by rw [hw, m0']; unfold oneW; rw [if_pos a6]; rfl
            rw [hq2, wyS_cons, wyI_node, m0, hw1]; omega
          · rw [if_neg a6]
            have a7 : (atN l i).kind = 7 := by omega
            rw [if_pos a7]
            obtain ⟨m0, m1, m2, m3⟩ := hd_never hR hil (.inr a7)
            have m0' : wyN l (i - 1) = 0 := by rw [show i - 1 = (atN l i).a.toNat by omega]; exact m0
            have hw1 : wyN l i = if (atN l i).lo = 0 then 1 else 0 := by
              have hlo := hr a7
              rw [hw, m0']; unfold oneW; rw [if_neg a6, if_pos a7]; unfold tmsW powW
              rw [if_neg (show ¬ (atN l i).lo + 1 = 0 by omega)]
              by_cases h0 : (atN l i).lo = 0
              · rw [if_pos h0]; split <;> rfl
              · rw [if_neg h0]; split <;> rfl
            rw [hq1, wyS_cons, wyI_times, hw1]
            omega
        | two h1 hi0 hb ha hf0 hl hcl hf =>
          obtain ⟨p, hp2⟩ : ∃ p : Nat, (atN l i).a = (p : Int) := ⟨(atN l i).a.toNat, by omega⟩
          have hfl := firstP_le l (i - 1)
          have hw := wyN_two hi0 h1 hp2 (by omega) hb
          have hbn : (atN l i).b.toNat = i - 1 := by omega
          have w1 := wyN_le l p
          have w2 := wyN_le l (i - 1)
          rw [if_neg (by omega), if_neg (by omega), hp2, hw]
          unfold twoW
          rcases h1 with a4 | a5
          · rw [if_pos a4, if_pos a4, hq1, wyS_cons, wyS_cons, wyI_node, wyI_node, hbn, Int.toNat_natCast, ← sat_seq w1 w2 hwr]
            omega
          · rw [if_neg (by omega), if_pos a5, if_neg (by omega), hq2, wyS_cons, wyS_cons, wyI_node, wyI_node, hbn, Int.toNat_natCast, sat_or w1 w2 hwr]
      · exfalso
        unfold rdyS at hrd
        simp only [Bool.or_eq_false_iff, decide_eq_false_iff_not] at hrd
        omega
theorem rdy_ways {l : List Nd} (hR : Rgt l) {x : Itm} {r : List Itm} (hx : HdF l x) (h : rdyS l (x :: r) = true) : wyI l x = 0 := by
  unfold rdyS at h
  unfold wyI
  simp only [Bool.or_eq_true, Bool.and_eq_true, decide_eq_true_eq] at h
  rcases h with (h | h) | ⟨h1, h2⟩
  · rw [if_neg (by omega), if_neg (by omega)]
  · rw [if_neg (by omega), if_neg (by omega)]
  · rw [if_pos h1]
    obtain ⟨n0, n1⟩ := hx.node (by omega)
    have hil : x.node.toNat < l.length := by omega
    generalize x.node.toNat = i at *
    cases hd_cs hR.1 hil with
    | leaf h3 hf => rw [wyN_leaf h3]; unfold leafW; rw [if_neg (by omega)]
    | one h3 hi0 ha hb h7 hr hcl hf =>
      rw [wyN_one hi0 h3 ha]; unfold oneW; rw [if_neg (by omega), if_neg (by omega)]
    | two h3 hi0 hb ha hf0 hl hcl hf => omega
theorem hsat_sum : ∀ (T : List (List Itm)) (f g : List Itm → Nat), (∀ t ∈ T, min 2 (f t) = g t) → min 2 ((T.map f).sum) = min 2 ((T.map g).sum)
  | [], f, g, _ => rfl
  | t :: T, f, g, h => by
    have h1 := h t (List.mem_cons_self ..)
    have h2 := hsat_sum T f g fun s hs => h s (List.mem_cons_of_mem _ hs)
    rw [List.map_cons, List.map_cons, List.sum_cons, List.sum_cons]
    omega
/-- A state is nothing in as many ways as it opens to nothing. -/
theorem rch_nothing {l : List Nd} (hR : Rgt l) : ∀ (n : Nat) (s : List Itm), dpS l s ≤ n → (∀ y ∈ s, HdF l y) → min 2 ((rchS l s).count []) = wyS l s := fun n => by
  induction n with
  | zero =>
    intro s hn hs
    cases s with
    | nil => rw [rch_ready rfl]; rfl
    | cons x r =>
      cases hd : rdyS l (x :: r) with
      | true =>
        rw [rch_ready hd, wyS_cons, rdy_ways hR (hs x (List.mem_cons_self ..)) hd]; simp
      | false =>
        rw [rch_open hR hs hd, ← opn_ways hR (hs x (List.mem_cons_self ..)) hd]
        have : opnS l x r = [] := List.eq_nil_iff_forall_not_mem.2 fun t ht => by
          have := opn_lt hR (hs x (List.mem_cons_self ..)) hd ht
          omega
        rw [this]; rfl
  | succ n ih =>
    intro s hn hs
    cases s with
    | nil => rw [rch_ready rfl]; rfl
    | cons x r =>
      have hx := hs x (List.mem_cons_self ..)
      have hr : ∀ y ∈ r, HdF l y := fun y hy => hs y (List.mem_cons_of_mem _ hy)
      cases hd : rdyS l (x :: r) with
      | true => rw [rch_ready hd, wyS_cons, rdy_ways hR hx hd]; simp
      | false =>
        rw [rch_open hR hs hd, ← opn_ways hR hx hd, List.count_flatMap]
        unfold sumO
        refine hsat_sum _ _ _ fun t ht => ?_
        have hlt := opn_lt hR hx hd ht
        exact ih t (by omega) (opn_form hR.1 hx hr ht)
end Go.Proofs.Ytidoofdofdhjpaa
/- A description inside another one: its states' heads move with it. -/
namespace Go.Proofs.Ytidoofdofdhjpaa
open Go
set_option linter.unusedVariables false
set_option linter.unusedSimpArgs false

end Go.Proofs.Ytidoofdofdhjpaa
/- How many heads: two lists' branches together, and moved ones. -/
namespace Go.Proofs.Ytidoofdofdhjpaa
open Go
set_option linter.unusedVariables false
set_option linter.unusedSimpArgs false

theorem mny_mem : ∀ {L : Brs}, HdSrt L → PosB L → ∀ t k, (t, k) ∈ L ↔ mnyB L t = k ∧ 1 ≤ k
  | [], _, _, t, k => by
    have h0 : mnyB [] t = 0 := rfl
    constructor
    · intro h; cases h
    · intro h; omega
  | (q, j) :: L, hs, hp, t, k => by
    obtain ⟨s1, s2⟩ := List.pairwise_cons.1 hs
    have hj := hp (q, j) (List.mem_cons_self ..)
    have ih := mny_mem s2 (fun a ha => hp a (List.mem_cons_of_mem _ ha)) t k
    have e : mnyB ((q, j) :: L) t = if t = q then j else mnyB L t := rfl
    rw [e, List.mem_cons]
    simp only at hj
    by_cases et : t = q
    · subst et
      rw [if_pos rfl]
      constructor
      · rintro (h | h)
        · injection h with _ h2; exact ⟨h2.symm, by omega⟩
        · have := s1 _ h
          simp only [stC_self] at this; omega
      · rintro ⟨h1, h2⟩; exact .inl (by rw [h1])
    · rw [if_neg et]
      constructor
      · rintro (h | h)
        · injection h with h1 _; exact absurd h1 et
        · exact ih.1 h
      · intro h; exact .inr (ih.2 h)
/-- The branches of a list of states. -/
def brsL (R : List (List Itm)) : Brs := brsF [] R
theorem brsL_all (R : List (List Itm)) : HdSrt (brsL R) ∧ PosB (brsL R) ∧ ∀ t, mnyB (brsL R) t = min 2 (R.count t) := by
  obtain ⟨h1, h2, h3⟩ := brs_all R (L := []) List.Pairwise.nil (fun a h => by cases h)
  refine ⟨h1, h2, fun t => ?_⟩
  unfold brsL
  rw [h3 t]
  have h0 : mnyB [] t = 0 := rfl
  rw [h0]
  split <;> omega
theorem brsL_mem (R : List (List Itm)) (t : List Itm) (k : Nat) : (t, k) ∈ brsL R ↔ min 2 (R.count t) = k ∧ 1 ≤ k := by
  obtain ⟨h1, h2, h3⟩ := brsL_all R
  rw [mny_mem h1 h2, h3]
theorem brsL_keys (R : List (List Itm)) (t : List Itm) : t ∈ (brsL R).map Prod.fst ↔ t ∈ R := by
  rw [List.mem_map]
  constructor
  · rintro ⟨⟨q, k⟩, h, rfl⟩
    have := (brsL_mem R q k).1 h
    refine List.count_pos_iff.1 ?_
    show 0 < R.count q
    omega
  · intro h
    have := List.count_pos_iff.2 h
    exact ⟨(t, min 2 (R.count t)), (brsL_mem R t _).2 ⟨rfl, by omega⟩, rfl⟩
theorem srt_nodup {L : Brs} (h : HdSrt L) : (L.map Prod.fst).Nodup := by
  unfold List.Nodup
  rw [List.pairwise_map]
  exact h.imp fun {a b} hab e => by rw [e, stC_self] at hab; omega
end Go.Proofs.Ytidoofdofdhjpaa
/- The heads of an or: both's, together. -/
namespace Go.Proofs.Ytidoofdofdhjpaa
open Go
set_option linter.unusedVariables false
set_option linter.unusedSimpArgs false

/-- Where a description starts. -/
def stL (l : List Nd) : List Itm := [⟨1, (l.length : Int) - 1, 0, 0⟩]
theorem st_form {l : List Nd} (h : 0 < l.length) : ∀ y ∈ stL l, HdF l y := fun y hy => by
  rw [List.mem_singleton.1 hy]
  exact ⟨fun h => by simp at h, fun _ => ⟨by simp only; omega, by simp only; omega⟩, ⟨by simp, by simp⟩, fun _ => ⟨rfl, rfl⟩, fun h => by simp at h, fun h => by simp at h, fun h => by simp at h⟩
theorem opn_five {l : List Nd} {x : Itm} {r t : List Itm} (hx : x.kind ≠ 5) (hr : ∀ y ∈ r, y.kind ≠ 5) (ht : t ∈ opnS l x r) : ∀ y ∈ t, y.kind ≠ 5 := by
  have cons : ∀ (a : Itm) (s : List Itm), a.kind ≠ 5 → (∀ y ∈ s, y.kind ≠ 5) → ∀ y ∈ a :: s, y.kind ≠ 5 := fun a s h1 h2 y hy => by
    rcases List.mem_cons.1 hy with rfl | h
    · exact h1
    · exact h2 y h
  have k1 : ∀ a b c : Int, (⟨1, a, b, c⟩ : Itm).kind ≠ 5 := fun a b c => by simp
  have k2 : ∀ a b c : Int, (⟨2, a, b, c⟩ : Itm).kind ≠ 5 := fun a b c => by simp
  have k3 : ∀ a b c : Int, (⟨3, a, b, c⟩ : Itm).kind ≠ 5 := fun a b c => by simp
  unfold opnS at ht
  simp only at ht
  rw [if_neg hx] at ht
  split at ht
  · rcases List.mem_append.1 ht with h | h
    · split at h
      · rw [List.mem_singleton.1 h]; exact hr
      · cases h
    · split at h
      · rw [List.mem_singleton.1 h]; exact cons _ _ (k1 _ _ _) (cons _ _ (k2 _ _ _) hr)
      · cases h
  · split at ht
    · rw [List.mem_singleton.1 ht]; exact hr
    · split at ht
      · rw [List.mem_singleton.1 ht]; exact cons _ _ (k3 _ _ _) hr
      · split at ht
        · rw [List.mem_singleton.1 ht]; exact cons _ _ (k1 _ _ _) (cons _ _ (k1 _ _ _) hr)
        · split at ht
          · rcases List.mem_cons.1 ht with h | h
            · rw [h]; exact cons _ _ (k1 _ _ _) hr
            · rw [List.mem_singleton.1 h]; exact cons _ _ (k1 _ _ _) hr
          · split at ht
            · rcases List.mem_cons.1 ht with h | h
              · rw [h]; exact hr
              · rw [List.mem_singleton.1 h]; exact cons _ _ (k1 _ _ _) (cons _ _ hx hr)
            · split at ht
              · rw [List.mem_singleton.1 ht]; exact cons _ _ (k2 _ _ _) hr
              · cases ht
/-- What is reached has its form, and is ready. -/
theorem rch_ok {l : List Nd} (hF : Form l) : ∀ (f : Nat) (s : List Itm), (∀ y ∈ s, HdF l y) → ∀ t ∈ rchF l f s, rdyS l t = true ∧ (∀ y ∈ t, HdF l y) ∧ ((∀ y ∈ s, y.kind ≠ 5) → ∀ y ∈ t, y.kind ≠ 5) := fun f => by
  induction f with
  | zero =>
    intro s hs t ht
    cases s with
    | nil =>
      rw [List.mem_singleton.1 (show t ∈ [[]] from ht)]
      exact ⟨rfl, hs, fun h => h⟩
    | cons x r =>
      unfold rchF at ht
      split at ht
      · rename_i h
        rw [List.mem_singleton.1 ht]
        exact ⟨h, hs, fun h => h⟩
      · cases ht
  | succ f ih =>
    intro s hs t ht
    cases s with
    | nil =>
      rw [List.mem_singleton.1 (show t ∈ [[]] from ht)]
      exact ⟨rfl, hs, fun h => h⟩
    | cons x r =>
      have hx := hs x (List.mem_cons_self ..)
      have hr : ∀ y ∈ r, HdF l y := fun y hy => hs y (List.mem_cons_of_mem _ hy)
      unfold rchF at ht
      split at ht
      · rename_i h
        rw [List.mem_singleton.1 ht]
        exact ⟨h, hs, fun h => h⟩
      · obtain ⟨q, hq, hqt⟩ := List.mem_flatMap.1 ht
        obtain ⟨a1, a2, a3⟩ := ih q (opn_form hF hx hr hq) t hqt
        exact ⟨a1, a2, fun h => a3 (opn_five (h x (List.mem_cons_self ..)) (fun y hy => h y (List.mem_cons_of_mem _ hy)) hq)⟩
end Go.Proofs.Ytidoofdofdhjpaa
