/- In how many ways nothing is read: the plain mathematics. -/
import Derived.Test.YtpbadglfegcdjaaDoorM12
import Derived.Test.YtpbadglfegcdjaaDoorM05
namespace Go.Proofs.YtpbadglfegcdjaaDoor
open Go
set_option linter.unusedVariables false
set_option linter.unusedSimpArgs false

/-- To the power of k, of what is at most as much as is counted. -/
def powW (a : Nat) (k : Int) : Nat := if k = 0 then 1 else a
/-- Of a repeat, by its part's. -/
def tmsW (a : Nat) (lo hi : Int) : Nat := min (powW a lo + (if lo < hi then powW a (lo + 1) else 0)) 2
/-- The ways of nothing of a node, its parts' being among those. -/
def waysW (n : Nd) (S : List Nat) : Nat :=
  if n.kind = 1 then 1
  else if n.kind = 4 then min (partS S n.a * partS S n.b) 2
  else if n.kind = 5 then min (partS S n.a + partS S n.b) 2
  else if n.kind = 6 then min (1 + partS S n.a) 2
  else if n.kind = 7 then tmsW (partS S n.a) n.lo n.hi
  else 0
/-- .. of the first nodes. -/
def wys (l : List Nd) : Nat → List Nat
  | 0 => []
  | k + 1 => wys l k ++ [waysW (atN l k) (wys l k)]
/-- .. of a node. -/
def wyN (l : List Nd) (i : Nat) : Nat := waysW (atN l i) (wys l i)
theorem wys_length (l : List Nd) : ∀ k, (wys l k).length = k
  | 0 => rfl
  | k + 1 => by rw [wys, List.length_append, wys_length l k]; rfl
theorem wys_get (l : List Nd) : ∀ k j, j < k → (wys l k).getD j 0 = wyN l j
  | 0, j, h => absurd h (Nat.not_lt_zero j)
  | k + 1, j, h => by
    rw [wys, List.getD_eq_getElem?_getD]
    rcases Nat.lt_or_ge j k with h1 | h1
    · rw [List.getElem?_append_left (by rw [wys_length]; exact h1), ← List.getD_eq_getElem?_getD]; exact wys_get l k j h1
    · rw [List.getElem?_append_right (by rw [wys_length]; exact h1), wys_length, show j = k by omega, Nat.sub_self]; rfl
theorem partW_at {l : List Nd} {i : Nat} {a : Int} (h0 : 0 ≤ a) (h1 : a < (i : Int)) : partS (wys l i) a = wyN l a.toNat := by
  unfold partS
  rw [wys_length, if_pos ⟨h0, h1⟩, wys_get l i _ (by omega)]
theorem partS_two {S : List Nat} (h : ∀ x ∈ S, x ≤ 2) (a : Int) : partS S a ≤ 2 := by
  unfold partS
  split
  · rename_i hh
    rw [List.getD_eq_getElem?_getD, List.getElem?_eq_getElem (by omega)]
    exact h _ (List.getElem_mem _)
  · exact Nat.zero_le _
theorem waysW_le (n : Nd) (S : List Nat) : waysW n S ≤ 2 := by
  unfold waysW tmsW
  (repeat' split) <;> first | exact Nat.min_le_right _ _ | omega
theorem wyN_le (l : List Nd) (i : Nat) : wyN l i ≤ 2 := waysW_le _ _
theorem wys_le (l : List Nd) : ∀ k, ∀ x ∈ wys l k, x ≤ 2
  | 0, x, h => by simp [wys] at h
  | k + 1, x, h => by
    rw [wys, List.mem_append] at h
    rcases h with h | h
    · exact wys_le l k x h
    · rw [List.mem_singleton.mp h]; exact waysW_le _ _
/-- By the parts'. -/
def leafW (n : Nd) : Nat := if n.kind = 1 then 1 else 0
theorem wyN_leaf {l : List Nd} {i : Nat} (hk : leafK (atN l i).kind) : wyN l i = leafW (atN l i) := by
  unfold wyN waysW leafW
  unfold leafK at hk
  rcases hk with hk | hk | hk <;> simp [hk]
/-- Of a node of one part. -/
def oneW (kind lo hi : Int) (a : Nat) : Nat := if kind = 6 then min (1 + a) 2 else if kind = 7 then tmsW a lo hi else 0
theorem wyN_one {l : List Nd} {i : Nat} (h : 0 < i) (hk : 6 ≤ (atN l i).kind ∧ (atN l i).kind ≤ 9) (ha : (atN l i).a = (i : Int) - 1) : wyN l i = oneW (atN l i).kind (atN l i).lo (atN l i).hi (wyN l (i - 1)) := by
  unfold wyN waysW oneW
  rw [if_neg (by omega), if_neg (by omega), if_neg (by omega), partW_at (by omega) (by omega), show (atN l i).a.toNat = i - 1 by omega]; rfl
/-- Of a node of two parts. -/
def twoW (kind : Int) (a b : Nat) : Nat := if kind = 4 then min (a * b) 2 else min (a + b) 2
theorem wyN_two {l : List Nd} {i p : Nat} (h : 0 < i) (hk : (atN l i).kind = 4 ∨ (atN l i).kind = 5) (ha : (atN l i).a = (p : Int)) (hp : p < i) (hb : (atN l i).b = (i : Int) - 1) : wyN l i = twoW (atN l i).kind (wyN l p) (wyN l (i - 1)) := by
  unfold wyN waysW twoW
  rw [if_neg (by omega), partW_at (by omega) (by omega), partW_at (by omega) (by omega), show (atN l i).a.toNat = p by omega, show (atN l i).b.toNat = i - 1 by omega]
  rcases hk with hk | hk
  · rw [if_pos hk, if_pos hk]; rfl
  · rw [if_neg (by omega), if_pos hk, if_neg (by omega)]; rfl
theorem wys_congr {l m : List Nd} : ∀ {k : Nat}, (∀ j, j < k → atN l j = atN m j) → wys l k = wys m k
  | 0, _ => rfl
  | k + 1, h => by rw [wys, wys, wys_congr (k := k) (fun j hj => h j (by omega)), h k (by omega)]
theorem wyN_congr {l m : List Nd} {i : Nat} (h : ∀ j, j ≤ i → atN l j = atN m j) : wyN l i = wyN m i := by
  unfold wyN
  rw [wys_congr (fun j hj => h j (by omega)), h i (Nat.le_refl i)]
/-- Nodes laid elsewhere. -/
theorem ways_moved {l m : List Nd} {d : Int} {f i : Nat} (hat : ∀ j, f ≤ j → j ≤ i → 0 ≤ (j : Int) + d ∧ atN m ((j : Int) + d).toNat = mvN d (atN l j)) (hok : ∀ j, f ≤ j → j ≤ i → okN l j (atN l j) ∧ f ≤ firstP l j) :
    ∀ j, f ≤ j → j ≤ i → wyN m ((j : Int) + d).toNat = wyN l j := by
  intro j
  induction j using Nat.strongRecOn with
  | ind j ih =>
    intro h1 h2
    obtain ⟨e0, e⟩ := hat j h1 h2
    obtain ⟨ho, hfj⟩ := hok j h1 h2
    generalize hn : atN l j = n at e ho
    cases ho.cs hn with
    | leaf hk hf =>
      rw [mvN_leaf hk] at e
      rw [wyN_leaf (by rw [e]; exact hk), wyN_leaf (by rw [hn]; exact hk), e, hn]
    | one hk hi ha hb h7 hr hc hf =>
      have hfl := firstP_le l (j - 1)
      have e2 : (mvN d n).a = n.a + d := by unfold mvN; rw [if_pos hk]
      have e4 : (mvN d n).hi = n.hi := by unfold mvN; rw [if_pos hk]
      have e5 : (mvN d n).lo = n.lo := by unfold mvN; rw [if_pos hk]
      have e3 := mvN_kind d n
      have hj1 := (hat (j - 1) (by omega) (by omega)).1
      rw [wyN_one (by omega) (by rw [e, e3]; exact hk) (by rw [e, e2]; omega), wyN_one hi (by rw [hn]; exact hk) (by rw [hn]; exact ha), e, hn, e3, e4, e5]
      rw [← ih (j - 1) (by omega) (by omega) (by omega)]
      congr 2; omega
    | two hk hi hb ha hf0 hl hc hf =>
      have hle := firstP_le l (j - 1)
      have hle2 := firstP_le l (firstP l (j - 1) - 1)
      have e2 : (mvN d n).a = n.a + d := by unfold mvN; rw [if_neg (by omega), if_pos hk]
      have e5 : (mvN d n).b = n.b + d := by unfold mvN; rw [if_neg (by omega), if_pos hk]
      have e3 := mvN_kind d n
      have hj1 := (hat (firstP l (j - 1) - 1) (by omega) (by omega)).1
      rw [wyN_two (p := (((firstP l (j - 1) - 1 : Nat) : Int) + d).toNat) (by omega) (by rw [e, e3]; exact hk) (by rw [e, e2]; omega) (by omega) (by rw [e, e5]; omega), wyN_two (p := firstP l (j - 1) - 1) hi (by rw [hn]; exact hk) (by rw [hn]; omega) (by omega) (by rw [hn]; exact hb)]
      rw [e, hn, e3, ih (firstP l (j - 1) - 1) (by omega) (by omega) (by omega), show ((j : Int) + d).toNat - 1 = (((j - 1 : Nat) : Int) + d).toNat by omega, ih (j - 1) (by omega) (by omega) (by omega)]
/-- What isn't right: a star, or a repeat, of what may be nothing. -/
def badW (l : List Nd) (i : Nat) : Bool := decide (((atN l i).kind = 6 ∨ (atN l i).kind = 7) ∧ partS (wys l l.length) (atN l i).a ≠ 0)
def fstW (l : List Nd) : Nat × Bool := match (List.range l.length).find? (badW l) with | some i => (i, true) | none => (0, false)
theorem fstW_some {l : List Nd} {i : Nat} (hi : i < l.length) (h : badW l i = true) (hn : ∀ j, j < i → badW l j = false) : fstW l = (i, true) := by
  unfold fstW
  have : (List.range l.length).find? (badW l) = some i := by
    rw [List.find?_range_eq_some]
    exact ⟨h, List.mem_range.2 hi, fun j hj => by rw [hn j hj]; rfl⟩
  rw [this]
theorem fstW_none {l : List Nd} (hn : ∀ j, j < l.length → badW l j = false) : fstW l = (0, false) := by
  unfold fstW
  have : (List.range l.length).find? (badW l) = none := by
    rw [List.find?_range_eq_none]
    exact fun j hj => by rw [hn j hj]; rfl
  rw [this]
theorem fstW_right (l : List Nd) : (fstW l).2 = false ↔ ∀ j, j < l.length → badW l j = false := by
  constructor
  · intro h
    unfold fstW at h
    cases hf : (List.range l.length).find? (badW l) with
    | some i => rw [hf] at h; cases h
    | none =>
      rw [List.find?_range_eq_none] at hf
      exact fun j hj => by simpa using hf j hj
  · intro h; rw [fstW_none h]
/-- Right. -/
def Rgt (l : List Nd) : Prop := Form l ∧ ∀ i, i < l.length → badW l i = false
/-- Of a description that has its form. -/
theorem badW_form {l : List Nd} (h : Form l) {i : Nat} (hi : i < l.length) : badW l i = true ↔ ((atN l i).kind = 6 ∨ (atN l i).kind = 7) ∧ wyN l (i - 1) ≠ 0 := by
  unfold badW
  rw [decide_eq_true_iff]
  have hc := (h.2.1 i hi).cs rfl
  constructor
  · rintro ⟨hk, hp⟩
    cases hc with
    | leaf hl hf => unfold leafK at hl; omega
    | two hl => omega
    | one hl h0 ha hb h7 hr hc hf =>
      rw [partW_at (by omega) (by omega), show (atN l i).a.toNat = i - 1 by omega] at hp
      exact ⟨hk, hp⟩
  · rintro ⟨hk, hp⟩
    cases hc with
    | leaf hl hf => unfold leafK at hl; omega
    | two hl => omega
    | one hl h0 ha hb h7 hr hc hf =>
      rw [partW_at (by omega) (by omega), show (atN l i).a.toNat = i - 1 by omega]
      exact ⟨hk, hp⟩
theorem rgt_iff {l : List Nd} (h : Form l) : Rgt l ↔ ∀ i, i < l.length → ((atN l i).kind = 6 ∨ (atN l i).kind = 7) → wyN l (i - 1) = 0 := by
  constructor
  · intro hr i hi hk
    have h1 := hr.2 i hi
    by_cases hw : wyN l (i - 1) = 0
    · exact hw
    · have := (badW_form h hi).2 ⟨hk, hw⟩
      rw [h1] at this; cases this
  · intro hr
    refine ⟨h, fun i hi => ?_⟩
    cases hb : badW l i with
    | false => rfl
    | true => obtain ⟨hk, hw⟩ := (badW_form h hi).1 hb; exact absurd (hr i hi hk) hw
theorem rgt_sub {l : List Nd} (h : Rgt l) {i : Nat} (hi : i < l.length) : Rgt (subL l i) := by
  have hok := h.1.okTo hi
  have hle := firstP_le l i
  have hlen := subL_length hi
  have hin := first_in hok
  have hF := sub_form hi hok
  have hat : ∀ j, firstP l i ≤ j → j ≤ i → 0 ≤ (j : Int) + -(firstP l i : Int) ∧ atN (subL l i) ((j : Int) + -(firstP l i : Int)).toNat = mvN (-(firstP l i : Int)) (atN l j) := fun j h1 h2 => by
    refine ⟨by omega, ?_⟩
    unfold subL
    rw [atN_map (by rw [seg_length (by omega)]; omega), seg_at (by omega)]
    congr 2; omega
  have hw := ways_moved hat (fun j h1 h2 => ⟨hok j h2, hin j h1 h2⟩)
  rw [rgt_iff hF]
  intro j hj hk
  rw [hlen] at hj
  have h0 : 0 < j := by
    cases (hF.2.1 j (by rw [hlen]; exact hj)).cs rfl with
    | leaf hl hf => unfold leafK at hl; omega
    | two hl => omega
    | one hl h0 => exact h0
  have e := (hat (firstP l i + j) (by omega) (by omega)).2
  rw [show (((firstP l i + j : Nat) : Int) + -(firstP l i : Int)).toNat = j by omega] at e
  rw [e, mvN_kind] at hk
  have e2 := hw (firstP l i + j - 1) (by omega) (by omega)
  rw [show (((firstP l i + j - 1 : Nat) : Int) + -(firstP l i : Int)).toNat = j - 1 by omega] at e2
  rw [e2]
  exact (rgt_iff h.1).1 h (firstP l i + j) (by omega) hk
theorem wrap_at {l : List Nd} {kind lo hi : Int} : (∀ j, j < l.length → atN (wrapL kind lo hi l) j = atN l j) ∧ atN (wrapL kind lo hi l) l.length = { kind := kind, a := (l.length : Int) - 1, lo := lo, hi := hi } := by
  refine ⟨fun j hj => by unfold wrapL; exact atN_left hj, ?_⟩
  unfold wrapL; rw [atN_right (Nat.le_refl _), Nat.sub_self]; rfl
theorem wyN_wrap {l : List Nd} {kind lo hi : Int} : (∀ j, j < l.length → wyN (wrapL kind lo hi l) j = wyN l j) ∧ (0 < l.length → 6 ≤ kind ∧ kind ≤ 9 → wyN (wrapL kind lo hi l) l.length = oneW kind lo hi (wyN l (l.length - 1))) := by
  obtain ⟨h1, h2⟩ := wrap_at (l := l) (kind := kind) (lo := lo) (hi := hi)
  refine ⟨fun j hj => wyN_congr (fun k hk => h1 k (by omega)), fun h hk => ?_⟩
  rw [wyN_one h (by rw [h2]; exact hk) (by rw [h2]), h2]
  rw [wyN_congr (m := l) (fun j hj => h1 j (by omega))]
theorem rgt_wrap {l : List Nd} (h : Form l) {kind lo hi : Int} (hF : Form (wrapL kind lo hi l)) (hk : 6 ≤ kind ∧ kind ≤ 9) : Rgt (wrapL kind lo hi l) ↔ Rgt l ∧ ((kind = 6 ∨ kind = 7) → wyN l (l.length - 1) = 0) := by
  obtain ⟨h1, h2⟩ := wrap_at (l := l) (kind := kind) (lo := lo) (hi := hi)
  obtain ⟨w1, w2⟩ := wyN_wrap (l := l) (kind := kind) (lo := lo) (hi := hi)
  have hlen : (wrapL kind lo hi l).length = l.length + 1 := by unfold wrapL; rw [List.length_append]; rfl
  have hpos := h.1
  rw [rgt_iff hF, rgt_iff h, hlen]
  constructor
  · intro hr
    refine ⟨fun i hi hki => ?_, fun hkk => ?_⟩
    · have := hr i (by omega) (by rw [h1 i hi]; exact hki)
      by_cases h0 : i = 0
      · subst h0; rwa [w1 _ (by omega)] at this
      · rwa [w1 _ (by omega)] at this
    · have := hr l.length (by omega) (by rw [h2]; exact hkk)
      rwa [w1 _ (by omega)] at this
  · rintro ⟨hr, hkk⟩ i hi hki
    by_cases he : i = l.length
    · subst he
      rw [h2] at hki
      rw [w1 _ (by omega)]
      exact hkk hki
    · rw [h1 i (by omega)] at hki
      rw [w1 _ (by omega)]
      exact hr i (by omega) hki
theorem wyN_pair {l m : List Nd} (hl : 0 < l.length) (hm : Form m) {kind : Int} (hk : kind = 4 ∨ kind = 5) : (∀ j, j < l.length → wyN (pairL kind l m) j = wyN l j) ∧ (∀ j, j < m.length → wyN (pairL kind l m) (l.length + j) = wyN m j) ∧ wyN (pairL kind l m) (l.length + m.length) = twoW kind (wyN l (l.length - 1)) (wyN m (m.length - 1)) := by
  obtain ⟨h1, h2, h3⟩ := pair_at (l := l) (m := m) (kind := kind)
  have hmp := hm.1
  have hv := ways_moved (l := m) (m := pairL kind l m) (d := (l.length : Int)) (f := 0) (i := m.length - 1) (fun j _ hj => ⟨by omega, by rw [show ((j : Int) + (l.length : Int)).toNat = l.length + j by omega]; exact h2 j (by omega)⟩) (fun j _ hj => ⟨hm.2.1 j (by omega), Nat.zero_le _⟩)
  have hv2 : ∀ j, j < m.length → wyN (pairL kind l m) (l.length + j) = wyN m j := fun j hj => by
    have := hv j (Nat.zero_le _) (by omega)
    rwa [show ((j : Int) + (l.length : Int)).toNat = l.length + j by omega] at this
  have hv1 : ∀ j, j < l.length → wyN (pairL kind l m) j = wyN l j := fun j hj => wyN_congr (fun k hk => h1 k (by omega))
  refine ⟨hv1, hv2, ?_⟩
  rw [wyN_two (p := l.length - 1) (by omega) (by rw [h3]; exact hk) (by rw [h3]; show (l.length : Int) - 1 = _; omega) (by omega) (by rw [h3]; show (l.length : Int) + (m.length : Int) - 1 = _; omega)]
  rw [h3, hv1 _ (by omega), show l.length + m.length - 1 = l.length + (m.length - 1) by omega, hv2 _ (by omega)]
theorem rgt_pair {l m : List Nd} (hl : Form l) (hm : Form m) {kind : Int} (hk : kind = 4 ∨ kind = 5) : Rgt (pairL kind l m) ↔ Rgt l ∧ Rgt m := by
  obtain ⟨h1, h2, h3⟩ := pair_at (l := l) (m := m) (kind := kind)
  obtain ⟨w1, w2, w3⟩ := wyN_pair (l := l) hl.1 hm hk
  have hlen : (pairL kind l m).length = l.length + m.length + 1 := by unfold pairL; rw [List.length_append, List.length_append, List.length_map]; rfl
  have hlp := hl.1
  have hmp := hm.1
  have hz : ∀ {x : List Nd}, Form x → ∀ i, i < x.length → ((atN x i).kind = 6 ∨ (atN x i).kind = 7) → 0 < i := fun hx i hi hk => by
    cases (hx.2.1 i hi).cs rfl with
    | leaf hl hf => unfold leafK at hl; omega
    | two hl => omega
    | one hl h0 => exact h0
  rw [rgt_iff (pair_form hl hm hk), rgt_iff hl, rgt_iff hm, hlen]
  constructor
  · intro hr
    refine ⟨fun i hi hki => ?_, fun i hi hki => ?_⟩
    · have h0 := hz hl i hi hki
      have := hr i (by omega) (by rw [h1 i hi]; exact hki)
      rwa [w1 _ (by omega)] at this
    · have h0 := hz hm i hi hki
      have := hr (l.length + i) (by omega) (by rw [h2 i hi, mvN_kind]; exact hki)
      rwa [show l.length + i - 1 = l.length + (i - 1) by omega, w2 _ (by omega)] at this
  · rintro ⟨hr, hs⟩ i hi hki
    by_cases he : i = l.length + m.length
    · subst he
      rw [h3] at hki
      simp only at hki
      omega
    · by_cases hlt : i < l.length
      · rw [h1 i hlt] at hki
        rw [w1 _ (by omega)]
        exact hr i hlt hki
      · obtain ⟨j, rfl⟩ : ∃ j, i = l.length + j := ⟨i - l.length, by omega⟩
        rw [h2 j (by omega), mvN_kind] at hki
        have h0 := hz hm j (by omega) hki
        rw [show l.length + j - 1 = l.length + (j - 1) by omega, w2 _ (by omega)]
        exact hs j (by omega) hki
/-- Step by step, as many as there are numbers of times. -/
def rsW (a : Nat) (lo : Int) : Nat → Nat
  | 0 => 0
  | k + 1 => min 2 (rsW a lo k + powW a (lo + k))
theorem powW_step {a : Nat} (ha : a ≤ 2) {k : Nat} : min 2 (powW a (k : Int) * a) = powW a ((k + 1 : Nat) : Int) := by
  unfold powW
  rw [if_neg (show ¬ ((k + 1 : Nat) : Int) = 0 by omega)]
  have : a = 0 ∨ a = 1 ∨ a = 2 := by omega
  by_cases h : (k : Int) = 0
  · rw [if_pos h]; omega
  · rw [if_neg h]; rcases this with rfl | rfl | rfl <;> rfl
theorem powW_le {a : Nat} (ha : a ≤ 2) (k : Int) : powW a k ≤ 2 := by unfold powW; split <;> omega
theorem rsW_le (a : Nat) (lo : Int) (k : Nat) : rsW a lo k ≤ 2 := by
  cases k with
  | zero => exact Nat.zero_le _
  | succ k => exact Nat.min_le_left _ _
theorem rsW_more {a : Nat} (ha : a ≤ 2) {lo : Int} (hl : 0 ≤ lo) : ∀ k : Nat, rsW a lo (k + 2) = min (powW a lo + powW a (lo + 1)) 2
  | 0 => by
    have h1 := powW_le ha lo
    show min 2 (min 2 (0 + powW a (lo + ((0 : Nat) : Int))) + powW a (lo + ((1 : Nat) : Int))) = _
    have e0 : lo + ((0 : Nat) : Int) = lo := by omega
    have e1 : lo + ((1 : Nat) : Int) = lo + 1 := by omega
    rw [e0, e1]; omega
  | k + 1 => by
    rw [rsW, rsW_more ha hl k]
    unfold powW
    rw [if_neg (show ¬ lo + 1 = 0 by omega), if_neg (show ¬ lo + ((k + 2 : Nat) : Int) = 0 by omega)]
    split <;> omega
theorem rsW_all {a : Nat} (ha : a ≤ 2) {lo hi : Int} (hl : 0 ≤ lo) (h : lo ≤ hi) : rsW a lo (hi - lo + 1).toNat = tmsW a lo hi := by
  unfold tmsW
  by_cases he : lo < hi
  · rw [if_pos he]
    obtain ⟨k, hk⟩ : ∃ k : Nat, hi = lo + 1 + k := ⟨(hi - lo - 1).toNat, by omega⟩
    rw [show (hi - lo + 1).toNat = k + 2 by omega, rsW_more ha hl]
  · rw [if_neg he]
    rw [show (hi - lo + 1).toNat = 1 by omega]
    show min 2 (0 + powW a (lo + ((0 : Nat) : Int))) = _
    have e0 : lo + ((0 : Nat) : Int) = lo := by omega
    rw [e0]; omega
/-- A node's number is a number of Go's. -/
def IntOk (n : Nd) : Prop := -9223372036854775808 ≤ n.lo ∧ n.hi ≤ 9223372036854775807
end Go.Proofs.YtpbadglfegcdjaaDoor
/- Descriptions opened as arguments, their numbers within what Go holds. -/
namespace Go.Proofs.YtpbadglfegcdjaaDoor
open Go Go.RowKit Go.ChangeShapes Go.WideShapes Go.ChangeAt Go.Joins
set_option maxRecDepth 100000
set_option linter.unusedVariables false
set_option linter.unusedSimpArgs false

theorem i64_wf {a : Int} (h : (Lit.int .i64 a).wf = true) : -9223372036854775808 ≤ a ∧ a ≤ 9223372036854775807 := by
  simpa [Lit.wf, IntKind.min, IntKind.max, IntKind.signed, IntKind.bits] using h
section
variable {H : Type} {enc : TypeId × Value → H} {W : World} {base : Nat} {v : Value} {d : DataW H} {p : List MemPlace}
theorem node_wordsI {n : Nat} {cs : List Value} {x : DataW H × List MemPlace} (hlen : cs.length = 10) (h : DataW.trod enc Tryd.prog W 0 (fun _ => true) true n 36 cs = some x) :
    ∃ nd : Nd, (∀ j, j < 10 → cs[j]? = (ndC nd)[j]?) ∧ nd.text.length ∈ x.1.weights Tryd.prog 36 ∧ IntOk nd := by
  obtain ⟨xs, m, _, rfl, _, hn, hel⟩ := DataW.trod_struct Tryd.underlying36 h
  match cs, hlen with
  | [c0, c1, c2, c3, c4, c5, c6, c7, c8, c9], _ =>
    match xs, hn with
    | [y0, y1, y2, y3, y4, y5, y6], _ =>
      have e0 : DataW.trod enc Tryd.prog W 0 (fun _ => true) true m 3 [c0] = some y0 := by have h := hel 0 _ rfl; simp [cellsI] at h; exact h
      have e1 : DataW.trod enc Tryd.prog W 0 (fun _ => true) true m 3 [c1] = some y1 := by have h := hel 1 _ rfl; simp [cellsI] at h; exact h
      have e2 : DataW.trod enc Tryd.prog W 0 (fun _ => true) true m 3 [c2] = some y2 := by have h := hel 2 _ rfl; simp [cellsI] at h; exact h
      have e3 : DataW.trod enc Tryd.prog W 0 (fun _ => true) true m 3 [c3] = some y3 := by have h := hel 3 _ rfl; simp [cellsI] at h; exact h
      have e4 : DataW.trod enc Tryd.prog W 0 (fun _ => true) true m 3 [c4] = some y4 := by have h := hel 4 _ rfl; simp [cellsI] at h; exact h
      have e5 : DataW.trod enc Tryd.prog W 0 (fun _ => true) true m 34 [c5, c6, c7, c8] = some y5 := by have h := hel 5 _ rfl; simp [cellsCls] at h; exact h
      have e6 : DataW.trod enc Tryd.prog W 0 (fun _ => true) true m 9 [c9] = some y6 := by have h := hel 6 _ rfl; simp [cellsS] at h; exact h
      obtain ⟨a0, h0, _, _⟩ := DataW.trod_int Tryd.underlying3 e0
      obtain ⟨a1, h1, _, _⟩ := DataW.trod_int Tryd.underlying3 e1
      obtain ⟨a2, h2, _, _⟩ := DataW.trod_int Tryd.underlying3 e2
      obtain ⟨a3, h3, _, wf3⟩ := DataW.trod_int Tryd.underlying3 e3
      obtain ⟨a4, h4, _, wf4⟩ := DataW.trod_int Tryd.underlying3 e4
      obtain ⟨s, h5⟩ := cls_words rfl e5
      obtain ⟨t, h6, hy6, _⟩ := DataW.trod_string Tryd.underlying9 e6
      simp at h0 h1 h2 h3 h4 h5 h6
      subst h0 h1 h2 h3 h4 h6
      have k0 := h5 0 (by omega)
      have k1 := h5 1 (by omega)
      have k2 := h5 2 (by omega)
      have k3 := h5 3 (by omega)
      simp at k0 k1 k2 k3
      subst k0 k1 k2 k3
      refine ⟨⟨a0, a1, a2, a3, a4, s, t.data.toList⟩, fun j hj => ?_, ?_, (i64_wf wf3).1, (i64_wf wf4).2⟩
      · unfold ndC
        rcases (by omega : j = 0 ∨ j = 1 ∨ j = 2 ∨ j = 3 ∨ j = 4 ∨ j = 5 ∨ j = 6 ∨ j = 7 ∨ j = 8 ∨ j = 9) with rfl | rfl | rfl | rfl | rfl | rfl | rfl | rfl | rfl | rfl <;> first | rfl | (simp; exact (bs_self t).symm)
      · subst hy6
        simp [DataW.weights, DataW.weightsEach, Tryd.underlying36]
theorem open_descI (hv : Value.okWide Tryd.prog W .any base 24 v) (h : DataW.Trod enc Tryd.prog W 0 (fun _ => true) true 24 v d p) (hw : ∀ x ∈ d.weights Tryd.prog 24, x ≤ reachBytes) :
    ∃ (l : List Nd) (A : Option Addr) (C : Nat), v = .agg #[.slice A l.length C] ∧ NRow W A l ∧ l.length ≤ C ∧ l.length ≤ 9223372036854775807 ∧ Txt l ∧ ∀ n ∈ l, IntOk n := by
  obtain ⟨cs, rfl, hsz⟩ := okWide_struct Tryd.underlying24 hv
  rw [cellsDesc] at hsz
  obtain ⟨c, rfl⟩ : ∃ c, cs = #[c] := by
    obtain ⟨l⟩ := cs
    match l, hsz with
    | [c], _ => exact ⟨c, rfl⟩
  obtain ⟨fuel, hf⟩ := h
  obtain ⟨y0, n, hx, _, hy⟩ := trod_struct1 Tryd.underlying24 hf
  simp only [Prod.mk.injEq] at hx
  obtain ⟨rfl, _⟩ := hx
  simp only [cellsNds] at hy
  rcases Go.Deep.open_slice Tryd.underlying22 hy with ⟨hcs, _⟩ | ⟨x, ln, cp, m, n', D, Pl, hcs, hb, hl, hm, hmm, hx, hi⟩
  · simp [Value.cells] at hcs
    subst hcs
    exact ⟨[], none, 0, rfl, NRow.nil _ _, Nat.le_refl _, by simp, (fun n hn => by cases hn), fun n hn => by cases hn⟩
  · simp [Value.cells] at hcs
    subst hcs
    simp only [if_true] at hmm
    subst hmm
    unfold maxLen at hm
    have key : ∀ i, i < ln → ∃ nd : Nd, (∀ j, j < 10 → W.cell? (x.add (i * 10 + j)) = (ndC nd)[j]?) ∧ nd.text.length ∈ (D i).weights Tryd.prog 36 ∧ IntOk nd := by
      intro i hil
      obtain ⟨cs', hc, ht⟩ := hi i (by omega)
      rw [cellsNd] at hc
      obtain ⟨_, hcl, hat⟩ := World.cells?_some hc
      obtain ⟨nd, h1, h2, h3⟩ := node_wordsI hcl ht
      exact ⟨nd, fun j hj => by rw [← Go.Deep.add_add, hat j hj, h1 j hj], h2, h3⟩
    let f : Nat → Nd := fun i => if h : i < ln then Classical.choose (key i h) else nd0
    have hfs : ∀ i (hil : i < ln), (∀ j, j < 10 → W.cell? (x.add (i * 10 + j)) = (ndC (f i))[j]?) ∧ (f i).text.length ∈ (D i).weights Tryd.prog 36 ∧ IntOk (f i) := fun i hil => by
      have hfi : f i = Classical.choose (key i hil) := by simp [f, hil]
      rw [hfi]; exact Classical.choose_spec (key i hil)
    have hfl : ((List.range ln).map f).length = ln := by simp
    refine ⟨(List.range ln).map f, some x, m, by rw [hfl], fun i hil => ?_, by rw [hfl]; exact hl, by rw [hfl]; omega, (fun nd hnd => ?_), fun nd hnd => ?_⟩
    · rw [hfl] at hil
      have hgd : ((List.range ln).map f).getD i nd0 = f i := by simp [hil]
      have hs := (hfs i hil).1
      obtain ⟨b, off, spot⟩ := x
      have hc00 := (hfs 0 (by omega)).1 0 (by omega)
      have hspot : spot = none := by
        have hc : (ndC (f 0))[0]? = some (.int .i64 (f 0).kind) := rfl
        rw [hc] at hc00
        simpa [Addr.add] using World.cell?_spot hc00
      subst hspot
      have hadd : ∀ k, (⟨b, off, none⟩ : Addr).add k = ⟨b, off + k, none⟩ := fun k => by cases k <;> simp [Addr.add]
      refine ⟨b, off, rfl, ?_, fun j hj => ?_⟩
      · have hc : (ndC (f i))[0]? = some (.int .i64 (f i).kind) := rfl
        have := hs 0 (by omega)
        rw [hc] at this
        have := World.block_lt_of_cell? W _ this
        rw [hadd] at this; exact this
      · have := hs j hj
        rw [hadd] at this
        rw [hgd, Nat.add_assoc]; exact this
    · obtain ⟨i, hi2, rfl⟩ := List.mem_map.1 hnd
      have hil := List.mem_range.1 hi2
      have hmem := (hfs i hil).2.1
      have : (f i).text.length ≤ reachBytes := by
        apply hw
        subst hx
        unfold DataW.weights
        simp only [Tryd.underlying24]
        simp only [DataW.weightsEach, DataW.weights, Tryd.underlying22, List.map_cons, List.map_nil, List.append_nil]
        refine List.mem_cons_of_mem _ (List.mem_append_left _ (mem_weightsAll (List.mem_map.2 ⟨i, hi2, rfl⟩) hmem))
      unfold reachBytes at this
      omega
    · obtain ⟨i, hi2, rfl⟩ := List.mem_map.1 hnd
      exact (hfs i (List.mem_range.1 hi2)).2.2
end
end Go.Proofs.YtpbadglfegcdjaaDoor
/- Tokens of a text: what follows for whole texts. -/
namespace Go.Proofs.YtpbadglfegcdjaaDoor
open Go
set_option linter.unusedVariables false

/-- A token depends on its own bytes alone. -/
theorem closed_tok {c : UInt8} {e : Nat} {l : List UInt8} {f : List UInt8 → One} {t : Tok} {n : Nat} (hf : ∀ a t n, f a = .tok t n → n = a.length + 1) (h : closed c e l f = .tok t n) :
    n ≤ l.length ∧ 1 ≤ n ∧ l.getD (n - 1) 0 = c ∧ ∀ x, closed c e (l.take n ++ x) f = .tok t n := by
  unfold closed at h
  cases hc : cutAt c l with
  | none => rw [hc] at h; cases h
  | some p =>
    obtain ⟨a, b⟩ := p
    rw [hc] at h
    have hn := hf a t n h
    obtain ⟨h1, h2⟩ := cutAt_some hc
    subst h1; subst hn
    refine ⟨by simp, by omega, by simp, fun x => ?_⟩
    have e1 : (a ++ c :: b).take (a.length + 1) = a ++ [c] := by
      rw [show a ++ c :: b = (a ++ [c]) ++ b by simp, show a.length + 1 = (a ++ [c]).length by simp, List.take_left']
      rfl
    rw [e1, List.append_assoc]
    unfold closed
    rw [show a ++ ([c] ++ x) = a ++ c :: x by simp, cutAt_app h2]
    exact h
theorem closed_bad {c : UInt8} {e e' : Nat} {l : List UInt8} {f : List UInt8 → One} (h : closed c e l f = .bad e') (P : Nat → Prop) (he : P e) (hf : ∀ a e', f a = .bad e' → P e') : P e' := by
  unfold closed at h
  cases hc : cutAt c l with
  | none => rw [hc] at h; cases h; exact he
  | some p => rw [hc] at h; exact hf _ _ h
def clsF (a : List UInt8) : One := match classV a with
    | none => .bad 2
    | some s => .tok { kind := 1, at_ := 0, cls := s } (a.length + 1)
def txtF (a : List UInt8) : One := match textV a with
    | none => .bad 3
    | some t => .tok { kind := 2, at_ := 0, text := t } (a.length + 1)
def repF (a : List UInt8) : One := match repV a with
    | none => .bad 4
    | some (x, y) => if 255 < y ∨ y < x then .bad 5 else .tok { kind := 7, at_ := 0, lo := x, hi := y } (a.length + 1)
theorem clsF_tok (a : List UInt8) (t : Tok) (n : Nat) (h : clsF a = .tok t n) : n = a.length + 1 ∧ t.kind = 1 := by
  unfold clsF at h; split at h
  · cases h
  · cases h; exact ⟨rfl, rfl⟩
theorem txtF_tok (a : List UInt8) (t : Tok) (n : Nat) (h : txtF a = .tok t n) : n = a.length + 1 ∧ t.kind = 2 := by
  unfold txtF at h; split at h
  · cases h
  · cases h; exact ⟨rfl, rfl⟩
theorem repF_tok (a : List UInt8) (t : Tok) (n : Nat) (h : repF a = .tok t n) : n = a.length + 1 ∧ t.kind = 7 := by
  unfold repF at h; split at h
  · cases h
  · split at h
    · cases h
    · cases h; exact ⟨rfl, rfl⟩
theorem clsF_bad (a : List UInt8) (e : Nat) (h : clsF a = .bad e) : 1 ≤ e ∧ e ≤ 5 := by
  unfold clsF at h; split at h <;> cases h; decide
theorem txtF_bad (a : List UInt8) (e : Nat) (h : txtF a = .bad e) : 1 ≤ e ∧ e ≤ 5 := by
  unfold txtF at h; split at h <;> cases h; decide
theorem repF_bad (a : List UInt8) (e : Nat) (h : repF a = .bad e) : 1 ≤ e ∧ e ≤ 5 := by
  unfold repF at h; split at h
  · cases h; decide
  · split at h <;> cases h; decide
/-- The kind of a token of one byte. -/
def shortV (c : UInt8) : Option Tok :=
  if c = 46 then some { kind := 1, at_ := 0, cls := rowB 0 255 } else if c = 40 then some { kind := 3, at_ := 0 } else if c = 41 then some { kind := 4, at_ := 0 } else if c = 124 then some { kind := 5, at_ := 0 }
  else if c = 42 then some { kind := 6, at_ := 0 } else if c = 98 then some { kind := 8, at_ := 0 } else if c = 119 then some { kind := 9, at_ := 0 } else none
theorem oneV_eq (c : UInt8) (l : List UInt8) : oneV c l = match shortV c with
    | some t => .tok t 0
    | none => if c = 60 then closed 62 2 l clsF else if c = 34 then closed 34 3 l txtF else if c = 123 then closed 125 4 l repF else .bad 1 := by
  unfold oneV shortV
  by_cases h1 : c = 46
  · simp only [h1, if_true]
  by_cases h2 : c = 40
  · simp only [h2, if_true]; rfl
  by_cases h3 : c = 41
  · simp only [h3, if_true]; rfl
  by_cases h4 : c = 124
  · simp only [h4, if_true]; rfl
  by_cases h5 : c = 42
  · simp only [h5, if_true]; rfl
  by_cases h6 : c = 98
  · simp only [h6, if_true]; rfl
  by_cases h7 : c = 119
  · simp only [h7, if_true]; rfl
  simp only [h1, h2, h3, h4, h5, h6, h7, if_false]
  rfl
theorem readL_c0 (c : UInt8) (l : List UInt8) (p : Nat) : readL (c :: l) p 0 = if c = 32 then readL l (p + 1) 0 else match oneV c l with
    | .bad e => .error (e, p)
    | .tok t n => (readL l (p + 1) n).map fun r => { t with at_ := p } :: r := rfl
theorem readL_ne : ∀ (l : List UInt8) (p k : Nat), readL l p k ≠ .ok []
  | [], p, k => by rw [readL_nil]; intro h; cases h
  | c :: l, p, k + 1 => readL_ne l (p + 1) k
  | c :: l, p, 0 => by
    rw [readL_c0]
    split
    · exact readL_ne l (p + 1) 0
    · split
      · intro h; cases h
      · rename_i t n _
        cases readL l (p + 1) n with
        | error q => intro h; cases h
        | ok r => intro h; cases h
theorem short_kind {c : UInt8} {t : Tok} (h : shortV c = some t) : 1 ≤ t.kind ∧ t.kind ≤ 9 ∧ c.toNat < 128 := by
  unfold shortV at h
  repeat' (split at h; · cases h; rename_i e; subst e; decide)
  cases h
theorem oneV_tok {c : UInt8} {l : List UInt8} {t : Tok} {n : Nat} (h : oneV c l = .tok t n) :
    1 ≤ t.kind ∧ t.kind ≤ 9 ∧ n ≤ l.length ∧ (1 ≤ n → (l.getD (n - 1) 0).toNat < 128) ∧ c.toNat < 128 ∧ ∀ x, oneV c (l.take n ++ x) = .tok t n := by
  simp only [oneV_eq] at h ⊢
  cases hs : shortV c with
  | some t' =>
    rw [hs] at h; cases h
    obtain ⟨h1, h2, h3⟩ := short_kind hs
    exact ⟨h1, h2, by omega, by omega, h3, fun x => rfl⟩
  | none =>
    rw [hs] at h
    simp only at h ⊢
    by_cases e1 : c = 60
    · subst e1
      simp only [if_true] at h ⊢
      obtain ⟨g1, g0, g2, g3⟩ := closed_tok (fun a t n h => (clsF_tok a t n h).1) h
      unfold closed at h
      split at h
      · cases h
      · have := (clsF_tok _ _ _ h).2; exact ⟨by omega, by omega, g1, fun _ => by rw [g2]; decide, by decide, g3⟩
    · simp only [e1, if_false] at h ⊢
      by_cases e2 : c = 34
      · subst e2
        simp only [if_true] at h ⊢
        obtain ⟨g1, g0, g2, g3⟩ := closed_tok (fun a t n h => (txtF_tok a t n h).1) h
        unfold closed at h
        split at h
        · cases h
        · have := (txtF_tok _ _ _ h).2; exact ⟨by omega, by omega, g1, fun _ => by rw [g2]; decide, by decide, g3⟩
      · simp only [e2, if_false] at h ⊢
        by_cases e3 : c = 123
        · subst e3
          simp only [if_true] at h ⊢
          obtain ⟨g1, g0, g2, g3⟩ := closed_tok (fun a t n h => (repF_tok a t n h).1) h
          unfold closed at h
          split at h
          · cases h
          · have := (repF_tok _ _ _ h).2; exact ⟨by omega, by omega, g1, fun _ => by rw [g2]; decide, by decide, g3⟩
        · simp only [e3, if_false] at h; cases h
theorem oneV_bad {c : UInt8} {l : List UInt8} {e : Nat} (h : oneV c l = .bad e) : 1 ≤ e ∧ e ≤ 5 := by
  rw [oneV_eq] at h
  cases hs : shortV c with
  | some t' => rw [hs] at h; cases h
  | none =>
    rw [hs] at h; simp only at h
    split at h
    · exact closed_bad h (fun e => 1 ≤ e ∧ e ≤ 5) (by decide) clsF_bad
    · split at h
      · exact closed_bad h (fun e => 1 ≤ e ∧ e ≤ 5) (by decide) txtF_bad
      · split at h
        · exact closed_bad h (fun e => 1 ≤ e ∧ e ≤ 5) (by decide) repF_bad
        · cases h; decide
theorem oneV_app {c : UInt8} {l : List UInt8} {t : Tok} {n : Nat} (h : oneV c l = .tok t n) (x : List UInt8) : oneV c (l ++ x) = .tok t n := by
  have := (oneV_tok h).2.2.2.2.2 (l.drop n ++ x)
  rwa [← List.append_assoc, List.take_append_drop] at this
theorem oneV_take {c : UInt8} {l : List UInt8} {t : Tok} {n : Nat} (h : oneV c l = .tok t n) {m : Nat} (hm : n ≤ m) : oneV c (l.take m) = .tok t n := by
  have := (oneV_tok h).2.2.2.2.2 ((l.take m).drop n)
  rw [show l.take n = (l.take m).take n by rw [List.take_take]; congr 1; omega, List.take_append_drop] at this
  exact this
/-- A text with more behind it. -/
theorem readL_app : ∀ (l : List UInt8) (p k : Nat) (r : List Tok) (x : List UInt8), k ≤ l.length → readL l p k = .ok r → readL (l ++ x) p k = (readL x (p + l.length) 0).map (r.dropLast ++ ·)
  | [], p, k, r, x, hk, h => by
    obtain rfl : k = 0 := by simpa using hk
    cases h
    show readL x p 0 = _
    simp
    cases readL x p 0 <;> rfl
  | c :: l, p, k + 1, r, x, hk, h => by
    show readL (l ++ x) (p + 1) k = _
    rw [readL_app l (p + 1) k r x (by simpa using hk) h]
    simp only [List.length_cons]; rw [show p + 1 + l.length = p + (l.length + 1) by omega]
  | c :: l, p, 0, r, x, hk, h => by
    rw [readL_c0] at h
    show readL (c :: (l ++ x)) p 0 = _
    rw [readL_c0]
    by_cases e : c = 32
    · rw [if_pos e] at h ⊢
      rw [readL_app l (p + 1) 0 r x (by omega) h]
      simp only [List.length_cons]; rw [show p + 1 + l.length = p + (l.length + 1) by omega]
    · rw [if_neg e] at h ⊢
      cases ho : oneV c l with
      | bad e => rw [ho] at h; cases h
      | tok t n =>
        rw [ho] at h; simp only at h
        rw [oneV_app ho]
        simp only
        cases hr : readL l (p + 1) n with
        | error q => rw [hr] at h; cases h
        | ok r' =>
          rw [hr] at h; cases h
          rw [readL_app l (p + 1) n r' x (oneV_tok ho).2.2.1 hr]
          simp only [List.length_cons]; rw [show p + 1 + l.length = p + (l.length + 1) by omega]
          have hne : r' ≠ [] := by rintro rfl; exact readL_ne _ _ _ hr
          rw [List.dropLast_cons_of_ne_nil hne]
          cases readL x (p + (l.length + 1)) 0 <;> rfl
/-- All places further on. -/
def Tok.shift (d : Nat) (t : Tok) : Tok := { t with at_ := t.at_ + d }
def shiftR (d : Nat) : Except (Nat × Nat) (List Tok) → Except (Nat × Nat) (List Tok)
  | .ok r => .ok (r.map (Tok.shift d))
  | .error (e, q) => .error (e, q + d)
theorem readL_shift (d : Nat) : ∀ (l : List UInt8) (p k : Nat), readL l (p + d) k = shiftR d (readL l p k)
  | [], p, k => by rw [readL_nil, readL_nil]; rfl
  | c :: l, p, k + 1 => by
    show readL l (p + d + 1) k = shiftR d (readL l (p + 1) k)
    rw [← readL_shift d l (p + 1) k]; congr 1; omega
  | c :: l, p, 0 => by
    rw [readL_c0, readL_c0]
    by_cases e : c = 32
    · rw [if_pos e, if_pos e, ← readL_shift d l (p + 1) 0]; congr 1; omega
    · rw [if_neg e, if_neg e]
      cases oneV c l with
      | bad e => rfl
      | tok t n =>
        simp only
        rw [show p + d + 1 = p + 1 + d by omega, readL_shift d l (p + 1) n]
        cases readL l (p + 1) n with
        | error q => rfl
        | ok r => rfl
theorem readL_spaces : ∀ (m : Nat) (x : List UInt8) (p : Nat), readL (List.replicate m 32 ++ x) p 0 = readL x (p + m) 0
  | 0, x, p => by simp
  | m + 1, x, p => by
    rw [List.replicate_succ]
    show readL (32 :: (List.replicate m 32 ++ x)) p 0 = _
    rw [readL_c0]
    rw [if_pos rfl, readL_spaces m x (p + 1)]; congr 1; omega
/-- What a read text is. -/
structure Whole (l : List UInt8) (p k : Nat) (r : List Tok) : Prop where
  ne : r ≠ []
  last : r.getLast? = some { kind := 10, at_ := p + l.length }
  low : ∀ t ∈ r, p + k ≤ t.at_
  kinds : ∀ t ∈ r.dropLast, 1 ≤ t.kind ∧ t.kind ≤ 9 ∧ t.at_ < p + l.length ∧ l.getD (t.at_ - p) 0 ≠ 32
  rise : r.Pairwise (fun a b => a.at_ < b.at_)
  gap : ∀ t, r.head? = some t → ∀ i, k ≤ i → p + i < t.at_ → l.getD i 0 = 32
theorem readL_whole : ∀ (l : List UInt8) (p k : Nat) (r : List Tok), k ≤ l.length → readL l p k = .ok r → Whole l p k r
  | [], p, k, r, hk, h => by
    obtain rfl : k = 0 := by simpa using hk
    rw [readL_nil] at h; cases h
    exact ⟨by simp, by simp, by simp, by simp, by simp, by intro t ht i _ hi; simp at ht; subst ht; simp at hi; omega⟩
  | c :: l, p, k + 1, r, hk, h => by
    have w := readL_whole l (p + 1) k r (by simpa using hk) h
    refine ⟨w.ne, by rw [w.last]; simp; omega, fun t ht => by have := w.low t ht; omega, fun t ht => ?_, w.rise, fun t ht i hi h2 => ?_⟩
    · obtain ⟨a, b, c', d⟩ := w.kinds t ht
      have hl := w.low t (List.dropLast_subset _ ht)
      refine ⟨a, b, by simp; omega, ?_⟩
      rw [show t.at_ - p = (t.at_ - (p + 1)) + 1 by omega]; simpa using d
    · obtain ⟨j, rfl⟩ : ∃ j, i = j + 1 := ⟨i - 1, by omega⟩
      have := w.gap t ht j (by omega) (by omega)
      simpa using this
  | c :: l, p, 0, r, hk, h => by
    rw [readL_c0] at h
    by_cases e : c = 32
    · rw [if_pos e] at h
      have w := readL_whole l (p + 1) 0 r (by omega) h
      refine ⟨w.ne, by rw [w.last]; simp; omega, fun t ht => by have := w.low t ht; omega, fun t ht => ?_, w.rise, fun t ht i hi h2 => ?_⟩
      · obtain ⟨a, b, c', d⟩ := w.kinds t ht
        have hl := w.low t (List.dropLast_subset _ ht)
        refine ⟨a, b, by simp; omega, ?_⟩
        rw [show t.at_ - p = (t.at_ - (p + 1)) + 1 by omega]; simpa using d
      · cases i with
        | zero => simpa using e
        | succ j => have := w.gap t ht j (by omega) (by omega); simpa using this
    · rw [if_neg e] at h
      cases ho : oneV c l with
      | bad e => rw [ho] at h; cases h
      | tok t n =>
        rw [ho] at h; simp only at h
        cases hr : readL l (p + 1) n with
        | error q => rw [hr] at h; cases h
        | ok r' =>
          rw [hr] at h; cases h
          obtain ⟨o1, o2, o3, _, _, _⟩ := oneV_tok ho
          have w := readL_whole l (p + 1) n r' o3 hr
          refine ⟨by simp, ?_, fun u hu => ?_, fun u hu => ?_, ?_, fun u hu i hi h2 => ?_⟩
          · have := w.last
            rw [List.getLast?_cons, this]; simp; omega
          · rcases List.mem_cons.1 hu with rfl | hu
            · exact Nat.le_refl _
            · have := w.low u hu; omega
          · rw [List.dropLast_cons_of_ne_nil w.ne] at hu
            rcases List.mem_cons.1 hu with rfl | hu
            · exact ⟨o1, o2, by simp, by simpa using e⟩
            · obtain ⟨a, b, c', d⟩ := w.kinds u hu
              have hl := w.low u (List.dropLast_subset _ hu)
              refine ⟨a, b, by simp; omega, ?_⟩
              rw [show u.at_ - p = (u.at_ - (p + 1)) + 1 by omega]; simpa using d
          · refine List.pairwise_cons.2 ⟨fun u hu => ?_, w.rise⟩
            have := w.low u hu; show p < u.at_; omega
          · simp at hu; subst hu; simp at h2; omega
/-- A fault: what stands ahead is read, and the fault is that of the text from there on. -/
theorem readL_fault : ∀ (l : List UInt8) (p k e q : Nat), k ≤ l.length → readL l p k = .error (e, q) →
    p + k ≤ q ∧ q < p + l.length ∧ l.getD (q - p) 0 ≠ 32 ∧ (1 ≤ e ∧ e ≤ 5) ∧ (∃ r, readL (l.take (q - p)) p k = .ok r) ∧ readL (l.drop (q - p)) q 0 = .error (e, q)
  | [], p, k, e, q, hk, h => by rw [readL_nil] at h; cases h
  | c :: l, p, k + 1, e, q, hk, h => by
    obtain ⟨h1, h2, h3, h4, ⟨r, h5⟩, h6⟩ := readL_fault l (p + 1) k e q (by simpa using hk) h
    rw [show q - p = (q - (p + 1)) + 1 by omega]
    exact ⟨by omega, by simp; omega, by simpa using h3, h4, ⟨r, by rw [List.take_succ_cons]; exact h5⟩, by simpa using h6⟩
  | c :: l, p, 0, e, q, hk, h => by
    have h0 := h
    rw [readL_c0] at h
    by_cases e1 : c = 32
    · rw [if_pos e1] at h
      obtain ⟨h1, h2, h3, h4, ⟨r, h5⟩, h6⟩ := readL_fault l (p + 1) 0 e q (by omega) h
      rw [show q - p = (q - (p + 1)) + 1 by omega]
      exact ⟨by omega, by simp; omega, by simpa using h3, h4, ⟨r, by rw [List.take_succ_cons]; rw [readL_c0, if_pos e1]; exact h5⟩, by simpa using h6⟩
    · rw [if_neg e1] at h
      cases ho : oneV c l with
      | bad e2 =>
        rw [ho] at h; cases h
        refine ⟨by omega, by simp, by simpa using e1, oneV_bad ho, ⟨_, by simp [readL_nil]; rfl⟩, by simpa using h0⟩
      | tok t n =>
        rw [ho] at h; simp only at h
        cases hr : readL l (p + 1) n with
        | ok r' => rw [hr] at h; cases h
        | error z =>
          rw [hr] at h; cases h
          obtain ⟨o1, o2, o3, _, _, _⟩ := oneV_tok ho
          obtain ⟨h1, h2, h3, h4, ⟨r, h5⟩, h6⟩ := readL_fault l (p + 1) n e q o3 hr
          rw [show q - p = (q - (p + 1)) + 1 by omega]
          refine ⟨by omega, by simp; omega, by simpa using h3, h4, ⟨{ t with at_ := p } :: r, ?_⟩, by simpa using h6⟩
          rw [List.take_succ_cons]; rw [readL_c0, if_neg e1, oneV_take ho (by omega)]
          simp only; rw [h5]; rfl
/-- A read text falls in two ahead of each of its tokens. -/
theorem readL_split : ∀ (l : List UInt8) (p k : Nat) (r : List Tok), k ≤ l.length → readL l p k = .ok r → ∀ i t, r[i]? = some t →
    p + k ≤ t.at_ ∧ t.at_ ≤ p + l.length ∧ readL (l.take (t.at_ - p)) p k = .ok (r.take i ++ [{ kind := 10, at_ := t.at_ }]) ∧ readL (l.drop (t.at_ - p)) t.at_ 0 = .ok (r.drop i)
  | [], p, k, r, hk, h, i, t, hi => by
    obtain rfl : k = 0 := by simpa using hk
    rw [readL_nil] at h; cases h
    cases i with
    | zero => simp at hi; subst hi; simp [readL_nil]
    | succ i => simp at hi
  | c :: l, p, k + 1, r, hk, h, i, t, hi => by
    obtain ⟨h1, h2, h3, h4⟩ := readL_split l (p + 1) k r (by simpa using hk) h i t hi
    rw [show t.at_ - p = (t.at_ - (p + 1)) + 1 by omega]
    exact ⟨by omega, by simp; omega, by rw [List.take_succ_cons]; exact h3, by simpa using h4⟩
  | c :: l, p, 0, r, hk, h, i, t, hi => by
    have h0 := h
    rw [readL_c0] at h
    by_cases e1 : c = 32
    · rw [if_pos e1] at h
      obtain ⟨h1, h2, h3, h4⟩ := readL_split l (p + 1) 0 r (by omega) h i t hi
      rw [show t.at_ - p = (t.at_ - (p + 1)) + 1 by omega]
      exact ⟨by omega, by simp; omega, by rw [List.take_succ_cons]; rw [readL_c0, if_pos e1]; exact h3, by simpa using h4⟩
    · rw [if_neg e1] at h
      cases ho : oneV c l with
      | bad e2 => rw [ho] at h; cases h
      | tok u n =>
        rw [ho] at h; simp only at h
        cases hr : readL l (p + 1) n with
        | error z => rw [hr] at h; cases h
        | ok r' =>
          rw [hr] at h; cases h
          obtain ⟨o1, o2, o3, _, _, _⟩ := oneV_tok ho
          cases i with
          | zero =>
            simp at hi; subst hi
            refine ⟨Nat.le_refl _, by simp, by simp [readL_nil], by simpa using h0⟩
          | succ i =>
            obtain ⟨h1, h2, h3, h4⟩ := readL_split l (p + 1) n r' o3 hr i t (by simpa using hi)
            rw [show t.at_ - p = (t.at_ - (p + 1)) + 1 by omega]
            refine ⟨by omega, by simp; omega, ?_, by simpa using h4⟩
            rw [List.take_succ_cons]; rw [readL_c0, if_neg e1, oneV_take ho (by omega)]
            simp only; rw [h3]; rfl
end Go.Proofs.YtpbadglfegcdjaaDoor
