/- In how many ways nothing is read: the plain mathematics. -/
import Derived.Test.YtplgokgjcclhaaaM15
import Derived.Test.YtplgokgjcclhaaaM18
namespace Go.Proofs.Ytplgokgjcclhaaa
open Go
set_option linter.unusedVariables false
set_option linter.unusedSimpArgs false

/-- To the power of k, of what is at most as much as is counted. -/
def powW (a : Nat) (k : Int) : Nat := if k = 0 then 1 else a
/-- Of a repeat, by its part's. -/
def tmsW (a : Nat) (lo hi : Int) : Nat := min (powW a lo + (if lo < hi then powW a (lo + 1) else 0)) 2
/-- The ways of nothing of a node, its parts' being among those. -/
def waysW (n : Nd) (S : List Nat) : Nat :=
  if n.kind = 1 then 1
  else if n.kind = 4 then min (partS S n.a * partS S n.b) 2
  else if n.kind = 5 then min (partS S n.a + partS S n.b) 2
  else if n.kind = 6 then min (1 + partS S n.a) 2
  else if n.kind = 7 then tmsW (partS S n.a) n.lo n.hi
  else 0
/-- .. of the first nodes. -/
def wys (l : List Nd) : Nat → List Nat
  | 0 => []
  | k + 1 => wys l k ++ [waysW (atN l k) (wys l k)]
/-- .. of a node. -/
def wyN (l : List Nd) (i : Nat) : Nat := waysW (atN l i) (wys l i)
theorem wys_length (l : List Nd) : ∀ k, (wys l k).length = k
  | 0 => rfl
  | k + 1 => by rw [wys, List.length_append, wys_length l k]; rfl
theorem wys_get (l : List Nd) : ∀ k j, j < k → (wys l k).getD j 0 = wyN l j
  | 0, j, h => absurd h (Nat.not_lt_zero j)
  | k + 1, j, h => by
    rw [wys, List.getD_eq_getElem?_getD]
    rcases Nat.lt_or_ge j k with h1 | h1
    · rw [List.getElem?_append_left (by rw [wys_length]; exact h1), ← List.getD_eq_getElem?_getD]; exact wys_get l k j h1
    · rw [List.getElem?_append_right (by rw [wys_length]; exact h1), wys_length, show j = k by omega, Nat.sub_self]; rfl
theorem partW_at {l : List Nd} {i : Nat} {a : Int} (h0 : 0 ≤ a) (h1 : a < (i : Int)) : partS (wys l i) a = wyN l a.toNat := by
  unfold partS
  rw [wys_length, if_pos ⟨h0, h1⟩, wys_get l i _ (by omega)]
theorem partS_two {S : List Nat} (h : ∀ x ∈ S, x ≤ 2) (a : Int) : partS S a ≤ 2 := by
  unfold partS
  split
  · rename_i hh
    rw [List.getD_eq_getElem?_getD, List.getElem?_eq_getElem (by omega)]
    exact h _ (List.getElem_mem _)
  · exact Nat.zero_le _
theorem waysW_le (n : Nd) (S : List Nat) : waysW n S ≤ 2 := by
  unfold waysW tmsW
  (repeat' split) <;> first | exact Nat.min_le_right _ _ | omega
theorem wys_le (l : List Nd) : ∀ k, ∀ x ∈ wys l k, x ≤ 2
  | 0, x, h => by simp [wys] at h
  | k + 1, x, h => by
    rw [wys, List.mem_append] at h
    rcases h with h | h
    · exact wys_le l k x h
    · rw [List.mem_singleton.mp h]; exact waysW_le _ _
/-- By the parts'. -/
def leafW (n : Nd) : Nat := if n.kind = 1 then 1 else 0
theorem wyN_leaf {l : List Nd} {i : Nat} (hk : leafK (atN l i).kind) : wyN l i = leafW (atN l i) := by
  unfold wyN waysW leafW
  unfold leafK at hk
  rcases hk with hk | hk | hk <;> simp [hk]
/-- Of a node of one part. -/
def oneW (kind lo hi : Int) (a : Nat) : Nat := if kind = 6 then min (1 + a) 2 else if kind = 7 then tmsW a lo hi else 0
theorem wyN_one {l : List Nd} {i : Nat} (h : 0 < i) (hk : 6 ≤ (atN l i).kind ∧ (atN l i).kind ≤ 9) (ha : (atN l i).a = (i : Int) - 1) : wyN l i = oneW (atN l i).kind (atN l i).lo (atN l i).hi (wyN l (i - 1)) := by
  unfold wyN waysW oneW
  rw [if_neg (by omega), if_neg (by omega), if_neg (by omega), partW_at (by omega) (by omega), show (atN l i).a.toNat = i - 1 by omega]; rfl
/-- Of a node of two parts. -/
def twoW (kind : Int) (a b : Nat) : Nat := if kind = 4 then min (a * b) 2 else min (a + b) 2
theorem wyN_two {l : List Nd} {i p : Nat} (h : 0 < i) (hk : (atN l i).kind = 4 ∨ (atN l i).kind = 5) (ha : (atN l i).a = (p : Int)) (hp : p < i) (hb : (atN l i).b = (i : Int) - 1) : wyN l i = twoW (atN l i).kind (wyN l p) (wyN l (i - 1)) := by
  unfold wyN waysW twoW
  rw [if_neg (by omega), partW_at (by omega) (by omega), partW_at (by omega) (by omega), show (atN l i).a.toNat = p by omega, show (atN l i).b.toNat = i - 1 by omega]
  rcases hk with hk | hk
  · rw [if_pos hk, if_pos hk]; rfl
  · rw [if_neg (by omega), if_pos hk, if_neg (by omega)]; rfl
/-- What isn't right: a star, or a repeat, of what may be nothing. -/
def badW (l : List Nd) (i : Nat) : Bool := decide (((atN l i).kind = 6 ∨ (atN l i).kind = 7) ∧ partS (wys l l.length) (atN l i).a ≠ 0)
def fstW (l : List Nd) : Nat × Bool := match (List.range l.length).find? (badW l) with | some i => (i, true) | none => (0, false)
theorem fstW_some {l : List Nd} {i : Nat} (hi : i < l.length) (h : badW l i = true) (hn : ∀ j, j < i → badW l j = false) : fstW l = (i, true) := by
  unfold fstW
  have : (List.range l.length).find? (badW l) = some i := by
    rw [List.find?_range_eq_some]
    exact ⟨h, List.mem_range.2 hi, fun j hj => by rw [hn j hj]; rfl⟩
  rw [this]
theorem fstW_none {l : List Nd} (hn : ∀ j, j < l.length → badW l j = false) : fstW l = (0, false) := by
  unfold fstW
  have : (List.range l.length).find? (badW l) = none := by
    rw [List.find?_range_eq_none]
    exact fun j hj => by rw [hn j hj]; rfl
  rw [this]
theorem fstW_right (l : List Nd) : (fstW l).2 = false ↔ ∀ j, j < l.length → badW l j = false := by
  constructor
  · intro h
    unfold fstW at h
    cases hf : (List.range l.length).find? (badW l) with
    | some i => rw [hf] at h; cases h
    | none =>
      rw [List.find?_range_eq_none] at hf
      exact fun j hj => by simpa using hf j hj
  · intro h; rw [fstW_none h]
/-- Right. -/
def Rgt (l : List Nd) : Prop := Form l ∧ ∀ i, i < l.length → badW l i = false
/-- Of a description that has its form. -/
theorem badW_form {l : List Nd} (h : Form l) {i : Nat} (hi : i < l.length) : badW l i = true ↔ ((atN l i).kind = 6 ∨ (atN l i).kind = 7) ∧ wyN l (i - 1) ≠ 0 := by
  unfold badW
  rw [decide_eq_true_iff]
  have hc := (h.2.1 i hi).cs rfl
  constructor
  · rintro ⟨hk, hp⟩
    cases hc with
    | leaf hl hf => unfold leafK at hl; omega
    | two hl => omega
    | one hl h0 ha hb h7 hr hc hf =>
      rw [partW_at (by omega) (by omega), show (atN l i).a.toNat = i - 1 by omega] at hp
      exact ⟨hk, hp⟩
  · rintro ⟨hk, hp⟩
    cases hc with
    | leaf hl hf => unfold leafK at hl; omega
    | two hl => omega
    | one hl h0 ha hb h7 hr hc hf =>
      rw [partW_at (by omega) (by omega), show (atN l i).a.toNat = i - 1 by omega]
      exact ⟨hk, hp⟩
theorem rgt_iff {l : List Nd} (h : Form l) : Rgt l ↔ ∀ i, i < l.length → ((atN l i).kind = 6 ∨ (atN l i).kind = 7) → wyN l (i - 1) = 0 := by
  constructor
  · intro hr i hi hk
    have h1 := hr.2 i hi
    by_cases hw : wyN l (i - 1) = 0
    · exact hw
    · have := (badW_form h hi).2 ⟨hk, hw⟩
      rw [h1] at this; cases this
  · intro hr
    refine ⟨h, fun i hi => ?_⟩
    cases hb : badW l i with
    | false => rfl
    | true => obtain ⟨hk, hw⟩ := (badW_form h hi).1 hb; exact absurd (hr i hi hk) hw
/-- Step by step, as many as there are numbers of times. -/
def rsW (a : Nat) (lo : Int) : Nat → Nat
  | 0 => 0
  | k + 1 => min 2 (rsW a lo k + powW a (lo + k))
theorem powW_step {a : Nat} (ha : a ≤ 2) {k : Nat} : min 2 (powW a (k : Int) * a) = powW a ((k + 1 : Nat) : Int) := by
  unfold powW
  rw [if_neg (show ¬ ((k + 1 : Nat) : Int) = 0 by omega)]
  have : a = 0 ∨ a = 1 ∨ a = 2 := by omega
  by_cases h : (k : Int) = 0
  · rw [if_pos h]; omega
  · rw [if_neg h]; rcases this with rfl | rfl | rfl <;> rfl
theorem powW_le {a : Nat} (ha : a ≤ 2) (k : Int) : powW a k ≤ 2 := by unfold powW; split <;> omega
theorem rsW_le (a : Nat) (lo : Int) (k : Nat) : rsW a lo k ≤ 2 := by
  cases k with
  | zero => exact Nat.zero_le _
  | succ k => exact Nat.min_le_left _ _
theorem rsW_more {a : Nat} (ha : a ≤ 2) {lo : Int} (hl : 0 ≤ lo) : ∀ k : Nat, rsW a lo (k + 2) = min (powW a lo + powW a (lo + 1)) 2
  | 0 => by
    have h1 := powW_le ha lo
    show min 2 (min 2 (0 + powW a (lo + ((0 : Nat) : Int))) + powW a (lo + ((1 : Nat) : Int))) = _
    have e0 : lo + ((0 : Nat) : Int) = lo := by omega
    have e1 : lo + ((1 : Nat) : Int) = lo + 1 := by omega
    rw [e0, e1]; omega
  | k + 1 => by
    rw [rsW, rsW_more ha hl k]
    unfold powW
    rw [if_neg (show ¬ lo + 1 = 0 by omega), if_neg (show ¬ lo + ((k + 2 : Nat) : Int) = 0 by omega)]
    split <;> omega
theorem rsW_all {a : Nat} (ha : a ≤ 2) {lo hi : Int} (hl : 0 ≤ lo) (h : lo ≤ hi) : rsW a lo (hi - lo + 1).toNat = tmsW a lo hi := by
  unfold tmsW
  by_cases he : lo < hi
  · rw [if_pos he]
    obtain ⟨k, hk⟩ : ∃ k : Nat, hi = lo + 1 + k := ⟨(hi - lo - 1).toNat, by omega⟩
    rw [show (hi - lo + 1).toNat = k + 2 by omega, rsW_more ha hl]
  · rw [if_neg he]
    rw [show (hi - lo + 1).toNat = 1 by omega]
    show min 2 (0 + powW a (lo + ((0 : Nat) : Int))) = _
    have e0 : lo + ((0 : Nat) : Int) = lo := by omega
    rw [e0]; omega
end Go.Proofs.Ytplgokgjcclhaaa
/- How long words are, by node: the plain mathematics. -/
namespace Go.Proofs.Ytplgokgjcclhaaa
open Go
set_option linter.unusedVariables false
set_option linter.unusedSimpArgs false

/-- A span: a least and a greatest length; -1 is no bound, and of nothing at all. -/
abbrev Spn := Int × Int
def mxS : Int := 1099511627776
def bndS (n : Int) : Int := if mxS < n then -1 else n
/-- Of a part so many times. -/
def repS (lo hi : Int) (p : Spn) : Spn :=
  if p.1 < 0 then (if 0 < lo then (-1, -1) else (0, 0))
  else if hi = 0 then (0, 0)
  else (min mxS (p.1 * lo), if p.2 < 0 then -1 else bndS (p.2 * hi))
/-- Of a frame. -/
def frmS (most head : Int) (p : Spn) : Spn :=
  if p.1 < 0 ∨ most < p.1 then (-1, -1) else (p.1 + head, (if p.2 < 0 ∨ most < p.2 then most else p.2) + head)
/-- Of a node of one part. -/
def onePs (kind lo hi : Int) (p : Spn) : Spn :=
  if kind = 6 then (if p.1 < 0 ∨ p.2 = 0 then (0, 0) else (0, -1))
  else if kind = 7 then repS lo hi p
  else if kind = 8 then frmS 255 1 p
  else frmS 65535 2 p
def seqS (p q : Spn) : Spn :=
  if p.1 < 0 ∨ q.1 < 0 then (-1, -1) else (min mxS (p.1 + q.1), if p.2 < 0 ∨ q.2 < 0 then -1 else bndS (p.2 + q.2))
def orS (p q : Spn) : Spn :=
  if p.1 < 0 then q else if q.1 < 0 then p else (min p.1 q.1, if p.2 < 0 ∨ q.2 < 0 then -1 else max p.2 q.2)
/-- Of a node of two parts. -/
def twoPs (kind : Int) (p q : Spn) : Spn := if kind = 4 then seqS p q else orS p q
/-- Of a node of none. -/
def leafPs (n : Nd) : Spn := if n.kind = 1 then (0, 0) else if n.kind = 2 then (if n.cls = 0 then (-1, -1) else (1, 1)) else ((n.text.length : Int), (n.text.length : Int))
def pairS (S : List Spn) (a : Int) : Spn := if 0 ≤ a ∧ a < (S.length : Int) then S.getD a.toNat (-1, -1) else (-1, -1)
/-- The span of a node, its parts' being among those. -/
def spanS (n : Nd) (S : List Spn) : Spn :=
  if n.kind = 1 ∨ n.kind = 2 ∨ n.kind = 3 then leafPs n
  else if n.kind = 4 ∨ n.kind = 5 then twoPs n.kind (pairS S n.a) (pairS S n.b)
  else onePs n.kind n.lo n.hi (pairS S n.a)
/-- .. of the first nodes. -/
def sps (l : List Nd) : Nat → List Spn
  | 0 => []
  | k + 1 => sps l k ++ [spanS (atN l k) (sps l k)]
/-- .. of a node. -/
def spN (l : List Nd) (i : Nat) : Spn := spanS (atN l i) (sps l i)
theorem sps_length (l : List Nd) : ∀ k, (sps l k).length = k
  | 0 => rfl
  | k + 1 => by rw [sps, List.length_append, sps_length l k]; rfl
theorem sps_get (l : List Nd) : ∀ k j, j < k → (sps l k).getD j (-1, -1) = spN l j
  | 0, j, h => absurd h (Nat.not_lt_zero j)
  | k + 1, j, h => by
    rw [sps, List.getD_eq_getElem?_getD]
    rcases Nat.lt_or_ge j k with h1 | h1
    · rw [List.getElem?_append_left (by rw [sps_length]; exact h1), ← List.getD_eq_getElem?_getD]; exact sps_get l k j h1
    · rw [List.getElem?_append_right (by rw [sps_length]; exact h1), sps_length, show j = k by omega, Nat.sub_self]; rfl
theorem pairS_at {l : List Nd} {i : Nat} {a : Int} (h0 : 0 ≤ a) (h1 : a < (i : Int)) : pairS (sps l i) a = spN l a.toNat := by
  unfold pairS
  rw [sps_length, if_pos ⟨h0, h1⟩, sps_get l i _ (by omega)]
theorem spN_leaf {l : List Nd} {i : Nat} (hk : leafK (atN l i).kind) : spN l i = leafPs (atN l i) := by
  unfold leafK at hk
  unfold spN spanS
  rw [if_pos hk]
theorem spN_one {l : List Nd} {i : Nat} (h : 0 < i) (hk : 6 ≤ (atN l i).kind ∧ (atN l i).kind ≤ 9) (ha : (atN l i).a = (i : Int) - 1) : spN l i = onePs (atN l i).kind (atN l i).lo (atN l i).hi (spN l (i - 1)) := by
  unfold spN spanS
  rw [if_neg (by omega), if_neg (by omega), pairS_at (by omega) (by omega), show (atN l i).a.toNat = i - 1 by omega]; rfl
theorem spN_two {l : List Nd} {i p : Nat} (h : 0 < i) (hk : (atN l i).kind = 4 ∨ (atN l i).kind = 5) (ha : (atN l i).a = (p : Int)) (hp : p < i) (hb : (atN l i).b = (i : Int) - 1) : spN l i = twoPs (atN l i).kind (spN l p) (spN l (i - 1)) := by
  unfold spN spanS
  rw [if_neg (by omega), if_pos hk, pairS_at (by omega) (by omega), pairS_at (by omega) (by omega), show (atN l i).a.toNat = p by omega, show (atN l i).b.toNat = i - 1 by omega]; rfl
theorem sps_congr {l m : List Nd} : ∀ {k : Nat}, (∀ j, j < k → atN l j = atN m j) → sps l k = sps m k
  | 0, _ => rfl
  | k + 1, h => by rw [sps, sps, sps_congr (k := k) (fun j hj => h j (by omega)), h k (by omega)]
theorem spN_congr {l m : List Nd} {i : Nat} (h : ∀ j, j ≤ i → atN l j = atN m j) : spN l i = spN m i := by
  unfold spN
  rw [sps_congr (fun j hj => h j (by omega)), h i (Nat.le_refl i)]
/-- Nodes laid elsewhere. -/
theorem span_moved {l m : List Nd} {d : Int} {f i : Nat} (hat : ∀ j, f ≤ j → j ≤ i → 0 ≤ (j : Int) + d ∧ atN m ((j : Int) + d).toNat = mvN d (atN l j)) (hok : ∀ j, f ≤ j → j ≤ i → okN l j (atN l j) ∧ f ≤ firstP l j) :
    ∀ j, f ≤ j → j ≤ i → spN m ((j : Int) + d).toNat = spN l j := by
  intro j
  induction j using Nat.strongRecOn with
  | ind j ih =>
    intro h1 h2
    obtain ⟨e0, e⟩ := hat j h1 h2
    obtain ⟨ho, hfj⟩ := hok j h1 h2
    generalize hn : atN l j = n at e ho
    cases ho.cs hn with
    | leaf hk hf =>
      rw [mvN_leaf hk] at e
      rw [spN_leaf (by rw [e]; exact hk), spN_leaf (by rw [hn]; exact hk), e, hn]
    | one hk hi ha hb h7 hr hc hf =>
      have hfl := firstP_le l (j - 1)
      have e2 : (mvN d n).a = n.a + d := by unfold mvN; rw [if_pos hk]
      have e4 : (mvN d n).hi = n.hi := by unfold mvN; rw [if_pos hk]
      have e5 : (mvN d n).lo = n.lo := by unfold mvN; rw [if_pos hk]
      have e3 := mvN_kind d n
      have hj1 := (hat (j - 1) (by omega) (by omega)).1
      rw [spN_one (by omega) (by rw [e, e3]; exact hk) (by rw [e, e2]; omega), spN_one hi (by rw [hn]; exact hk) (by rw [hn]; exact ha), e, hn, e3, e4, e5]
      rw [← ih (j - 1) (by omega) (by omega) (by omega)]
      congr 2; omega
    | two hk hi hb ha hf0 hl hc hf =>
      have hle := firstP_le l (j - 1)
      have hle2 := firstP_le l (firstP l (j - 1) - 1)
      have e2 : (mvN d n).a = n.a + d := by unfold mvN; rw [if_neg (by omega), if_pos hk]
      have e5 : (mvN d n).b = n.b + d := by unfold mvN; rw [if_neg (by omega), if_pos hk]
      have e3 := mvN_kind d n
      have hj1 := (hat (firstP l (j - 1) - 1) (by omega) (by omega)).1
      rw [spN_two (p := (((firstP l (j - 1) - 1 : Nat) : Int) + d).toNat) (by omega) (by rw [e, e3]; exact hk) (by rw [e, e2]; omega) (by omega) (by rw [e, e5]; omega), spN_two (p := firstP l (j - 1) - 1) hi (by rw [hn]; exact hk) (by rw [hn]; omega) (by omega) (by rw [hn]; exact hb)]
      rw [e, hn, e3, ih (firstP l (j - 1) - 1) (by omega) (by omega) (by omega), show ((j : Int) + d).toNat - 1 = (((j - 1 : Nat) : Int) + d).toNat by omega, ih (j - 1) (by omega) (by omega) (by omega)]
/-- The description's own. -/
def spD (l : List Nd) : Spn := spN l (l.length - 1)
theorem span_sub {l : List Nd} {i : Nat} (hi : i < l.length) (h : okTo l i) : spD (subL l i) = spN l i := by
  have hle := firstP_le l i
  have hlen := subL_length hi
  have hin := first_in h
  have hat : ∀ j, firstP l i ≤ j → j ≤ i → 0 ≤ (j : Int) + -(firstP l i : Int) ∧ atN (subL l i) ((j : Int) + -(firstP l i : Int)).toNat = mvN (-(firstP l i : Int)) (atN l j) := fun j h1 h2 => by
    refine ⟨by omega, ?_⟩
    unfold subL
    rw [atN_map (by rw [seg_length (by omega)]; omega), seg_at (by omega)]
    congr 2; omega
  have := span_moved hat (fun j h1 h2 => ⟨h j h2, hin j h1 h2⟩) i hle (Nat.le_refl i)
  unfold spD
  rw [hlen, show i + 1 - firstP l i - 1 = ((i : Int) + -(firstP l i : Int)).toNat by omega, this]
theorem span_wrap {l : List Nd} (h : 0 < l.length) {kind lo hi : Int} (hk : 6 ≤ kind ∧ kind ≤ 9) : spD (wrapL kind lo hi l) = onePs kind lo hi (spD l) := by
  have hat : ∀ j, j < l.length → atN (wrapL kind lo hi l) j = atN l j := fun j hj => by unfold wrapL; exact atN_left hj
  have hl : atN (wrapL kind lo hi l) l.length = { kind := kind, a := (l.length : Int) - 1, lo := lo, hi := hi } := by
    unfold wrapL; rw [atN_right (Nat.le_refl _), Nat.sub_self]; rfl
  unfold spD
  have e : (wrapL kind lo hi l).length - 1 = l.length := by unfold wrapL; rw [List.length_append]; rfl
  rw [e, spN_one h (by rw [hl]; exact hk) (by rw [hl]), hl]
  rw [spN_congr (m := l) (fun j hj => hat j (by omega))]
theorem span_pair {l m : List Nd} (hl : 0 < l.length) (hm : Form m) {kind : Int} (hk : kind = 4 ∨ kind = 5) : spD (pairL kind l m) = twoPs kind (spD l) (spD m) := by
  obtain ⟨h1, h2, h3⟩ := pair_at (l := l) (m := m) (kind := kind)
  have hmp := hm.1
  have e : (pairL kind l m).length - 1 = l.length + m.length := by unfold pairL; rw [List.length_append, List.length_append, List.length_map]; rfl
  unfold spD
  rw [e, spN_two (p := l.length - 1) (by omega) (by rw [h3]; exact hk) (by rw [h3]; show (l.length : Int) - 1 = _; omega) (by omega) (by rw [h3]; show (l.length : Int) + (m.length : Int) - 1 = _; omega)]
  rw [spN_congr (m := l) (fun j hj => h1 j (by omega)), h3]
  have := span_moved (l := m) (m := pairL kind l m) (d := (l.length : Int)) (f := 0) (i := m.length - 1) (fun j _ hj => ⟨by omega, by rw [show ((j : Int) + (l.length : Int)).toNat = l.length + j by omega]; exact h2 j (by omega)⟩) (fun j _ hj => ⟨hm.2.1 j (by omega), Nat.zero_le _⟩) (m.length - 1) (Nat.zero_le _) (Nat.le_refl _)
  rw [show l.length + m.length - 1 = (((m.length - 1 : Nat) : Int) + (l.length : Int)).toNat by omega, this]
/-- What a span may be. -/
def SpOk (p : Spn) : Prop := (p.1 = -1 ∧ p.2 = -1) ∨ (0 ≤ p.1 ∧ (p.2 = -1 ∨ p.1 ≤ p.2))
theorem bndS_cases (n : Int) : bndS n = -1 ∨ (bndS n = n ∧ n ≤ mxS) := by unfold bndS; split <;> omega
theorem repS_ok {lo hi : Int} {p : Spn} (h : SpOk p) (h0 : 0 ≤ lo) (h1 : lo ≤ hi) : SpOk (repS lo hi p) := by
  unfold repS
  split
  · split
    · exact .inl ⟨rfl, rfl⟩
    · exact .inr ⟨by simp, .inr (by simp)⟩
  · split
    · exact .inr ⟨by simp, .inr (by simp)⟩
    · rename_i h2 h3
      rcases h with h | ⟨h4, h5⟩
      · omega
      · have hm : 0 ≤ p.1 * lo := Int.mul_nonneg h4 h0
        refine .inr ⟨by show 0 ≤ min mxS _; unfold mxS; omega, ?_⟩
        show (if p.2 < 0 then (-1 : Int) else bndS (p.2 * hi)) = -1 ∨ min mxS (p.1 * lo) ≤ _
        split
        · exact .inl rfl
        · rename_i h6
          have hle : p.1 * lo ≤ p.2 * hi := Int.mul_le_mul (by omega) h1 h0 (by omega)
          rcases bndS_cases (p.2 * hi) with h7 | ⟨h7, h8⟩
          · exact .inl h7
          · right; show min mxS (p.1 * lo) ≤ bndS (p.2 * hi); rw [h7]; omega
theorem frmS_ok {most head : Int} {p : Spn} (h : SpOk p) (h0 : 0 ≤ most) (h1 : 0 < head) : SpOk (frmS most head p) := by
  unfold frmS
  split
  · exact .inl ⟨rfl, rfl⟩
  · rename_i h2
    refine .inr ⟨by show 0 ≤ p.1 + head; omega, .inr ?_⟩
    show p.1 + head ≤ (if p.2 < 0 ∨ most < p.2 then most else p.2) + head
    rcases h with h | ⟨h4, h5⟩
    · omega
    · split <;> omega
theorem onePs_ok {kind lo hi : Int} {p : Spn} (h : SpOk p) (h7 : kind = 7 → 0 ≤ lo ∧ lo ≤ hi) : SpOk (onePs kind lo hi p) := by
  unfold onePs
  split
  · split
    · exact .inr ⟨by simp, .inr (by simp)⟩
    · exact .inr ⟨by simp, .inl rfl⟩
  · split
    · rename_i h2; exact repS_ok h (h7 h2).1 (h7 h2).2
    · split
      · exact frmS_ok h (by decide) (by decide)
      · exact frmS_ok h (by decide) (by decide)
theorem seqS_ok {p q : Spn} (h : SpOk p) (k : SpOk q) : SpOk (seqS p q) := by
  unfold seqS
  split
  · exact .inl ⟨rfl, rfl⟩
  · rename_i h2
    rcases h with h | ⟨h4, h5⟩
    · omega
    · rcases k with k | ⟨k4, k5⟩
      · omega
      · refine .inr ⟨by show 0 ≤ min mxS _; unfold mxS; omega, ?_⟩
        show (if p.2 < 0 ∨ q.2 < 0 then (-1 : Int) else bndS (p.2 + q.2)) = -1 ∨ min mxS (p.1 + q.1) ≤ (if p.2 < 0 ∨ q.2 < 0 then (-1 : Int) else bndS (p.2 + q.2))
        split
        · exact .inl rfl
        · rcases bndS_cases (p.2 + q.2) with h7 | ⟨h7, h8⟩
          · exact .inl h7
          · right; rw [h7]; omega
theorem orS_ok {p q : Spn} (h : SpOk p) (k : SpOk q) : SpOk (orS p q) := by
  unfold orS
  split
  · exact k
  · split
    · exact h
    · rename_i h2 h3
      rcases h with h | ⟨h4, h5⟩
      · omega
      · rcases k with k | ⟨k4, k5⟩
        · omega
        · refine .inr ⟨by show 0 ≤ min p.1 q.1; omega, ?_⟩
          show (if p.2 < 0 ∨ q.2 < 0 then (-1 : Int) else max p.2 q.2) = -1 ∨ min p.1 q.1 ≤ (if p.2 < 0 ∨ q.2 < 0 then (-1 : Int) else max p.2 q.2)
          split
          · exact .inl rfl
          · right; omega
theorem leafPs_ok (n : Nd) : SpOk (leafPs n) := by
  unfold leafPs
  split
  · exact .inr ⟨by simp, .inr (by simp)⟩
  · split
    · split
      · exact .inl ⟨rfl, rfl⟩
      · exact .inr ⟨by simp, .inr (by simp)⟩
    · exact .inr ⟨by simp, .inr (by simp)⟩
/-- Of formed nodes. -/
theorem spN_ok {l : List Nd} (hF : Form l) : ∀ i, i < l.length → SpOk (spN l i) := fun i => by
  induction i using Nat.strongRecOn with
  | ind i ih =>
    intro hi0
    have ho := hF.2.1 i hi0
    obtain ⟨n, hn⟩ : ∃ n, atN l i = n := ⟨_, rfl⟩
    have ho2 := ho
    rw [hn] at ho
    cases ho.cs hn with
    | leaf hk hf => rw [spN_leaf (by rw [hn]; exact hk)]; exact leafPs_ok _
    | one hk hi ha hb h7 hr hc hf =>
      rw [spN_one hi (by rw [hn]; exact hk) (by rw [hn]; exact ha), hn]
      refine onePs_ok (ih _ (by omega) (by omega)) (fun h => ?_)
      unfold okN at ho
      omega
    | two hk hi hb ha hf0 hl hc hf =>
      have hle := firstP_le l (i - 1)
      rw [spN_two (p := firstP l (i - 1) - 1) hi (by rw [hn]; exact hk) (by rw [hn]; omega) (by omega) (by rw [hn]; exact hb), hn]
      unfold twoPs
      split
      · exact seqS_ok (ih _ (by omega) (by omega)) (ih _ (by omega) (by omega))
      · exact orS_ok (ih _ (by omega) (by omega)) (ih _ (by omega) (by omega))
/-- A least length of 0: what may be nothing. -/
theorem onePs_zero {kind lo hi : Int} {p : Spn} {a : Nat} (h : SpOk p) (hz : p.1 = 0 ↔ 0 < a) (hk : 6 ≤ kind ∧ kind ≤ 9) (ha : kind = 6 ∨ kind = 7 → a = 0) (h7 : kind = 7 → 0 ≤ lo ∧ lo ≤ hi) : (onePs kind lo hi p).1 = 0 ↔ 0 < oneW kind lo hi a := by
  unfold onePs oneW
  by_cases k6 : kind = 6
  · rw [if_pos k6, if_pos k6]
    have := ha (.inl k6)
    constructor
    · intro _; omega
    · intro _; split <;> rfl
  · rw [if_neg k6, if_neg k6]
    by_cases k7 : kind = 7
    · rw [if_pos k7, if_pos k7]
      obtain ⟨h0, h1⟩ := h7 k7
      have hza := ha (.inr k7)
      subst hza
      have hp : p.1 ≠ 0 := fun e => absurd (hz.1 e) (Nat.lt_irrefl _)
      have e1 : 0 < tmsW 0 lo hi ↔ lo = 0 := by
        unfold tmsW powW
        by_cases hl : lo = 0
        · rw [if_pos hl]; constructor
          · intro _; exact hl
          · intro _; omega
        · rw [if_neg hl, if_neg (show ¬ lo + 1 = 0 by omega)]; constructor
          · intro hh; simp at hh
          · intro hh; exact absurd hh hl
      rw [e1]
      unfold repS
      split
      · split
        · constructor
          · intro hh; exact absurd hh (by decide)
          · intro hh; omega
        · constructor
          · intro _; omega
          · intro _; rfl
      · rename_i h2
        split
        · constructor
          · intro _; omega
          · intro _; rfl
        · show min mxS (p.1 * lo) = 0 ↔ lo = 0
          have hp1 : 1 ≤ p.1 := by omega
          constructor
          · intro hh
            have hm : lo ≤ p.1 * lo := by
              have := Int.mul_le_mul_of_nonneg_right hp1 h0
              omega
            unfold mxS at hh
            omega
          · intro hh; rw [hh, Int.mul_zero]; rfl
    · rw [if_neg k7, if_neg k7]
      have key : ∀ most head : Int, 0 < head → ((frmS most head p).1 = 0 ↔ 0 < 0) := fun most head hh => by
        unfold frmS
        split
        · constructor
          · intro hx; exact absurd hx (by decide)
          · intro hx; omega
        · constructor
          · intro hx
            have hx : p.1 + head = 0 := hx
            omega
          · intro hx; omega
      split
      · exact key 255 1 (by decide)
      · exact key 65535 2 (by decide)
theorem twoPs_zero {kind : Int} {p q : Spn} {a b : Nat} (h : SpOk p) (k : SpOk q) (hz : p.1 = 0 ↔ 0 < a) (kz : q.1 = 0 ↔ 0 < b) (hk : kind = 4 ∨ kind = 5) : (twoPs kind p q).1 = 0 ↔ 0 < twoW kind a b := by
  unfold twoPs twoW
  unfold SpOk at h k
  by_cases k4 : kind = 4
  · rw [if_pos k4, if_pos k4]
    have e : 0 < min (a * b) 2 ↔ 0 < a ∧ 0 < b := by
      rw [Nat.lt_min]
      constructor
      · intro ⟨h1, _⟩; exact ⟨Nat.pos_of_mul_pos_right h1, Nat.pos_of_mul_pos_left h1⟩
      · intro ⟨h1, h2⟩; exact ⟨Nat.mul_pos h1 h2, by decide⟩
    rw [e, ← hz, ← kz]
    unfold seqS
    split
    · constructor
      · intro hx; exact absurd hx (by decide)
      · intro hx; omega
    · show min mxS (p.1 + q.1) = 0 ↔ _
      unfold mxS
      omega
  · rw [if_neg k4, if_neg k4]
    have e : 0 < min (a + b) 2 ↔ 0 < a ∨ 0 < b := by omega
    rw [e, ← hz, ← kz]
    unfold orS
    split
    · omega
    · split
      · omega
      · show min p.1 q.1 = 0 ↔ _
        omega
theorem leafPs_zero {l : List Nd} {i : Nat} {n : Nd} (hk : leafK n.kind) (ho : okN l i n) : (leafPs n).1 = 0 ↔ 0 < leafW n := by
  unfold leafPs leafW
  unfold leafK at hk
  by_cases h1 : n.kind = 1
  · rw [if_pos h1, if_pos h1]; simp
  · rw [if_neg h1, if_neg h1]
    by_cases h2 : n.kind = 2
    · rw [if_pos h2]
      split
      · constructor
        · intro hx; exact absurd hx (by decide)
        · intro hx; omega
      · constructor
        · intro hx; exact absurd hx (by decide)
        · intro hx; omega
    · rw [if_neg h2]
      have h3 : n.kind = 3 := by omega
      have ht : textOk n.text = true := by
        obtain ⟨_, h | h | ⟨_, h⟩ | ⟨h, _⟩ | ⟨h, _⟩ | ⟨h, _⟩⟩ := ho
        · omega
        · omega
        · exact h
        · omega
        · omega
        · omega
      have hne : n.text ≠ [] := by
        unfold textOk at ht
        simp at ht
        exact ht.1.1
      have := List.length_pos_iff.2 hne
      show (n.text.length : Int) = 0 ↔ 0 < 0
      omega
/-- Of right nodes: a least length is 0 just where nothing may be read. -/
theorem spN_zero {l : List Nd} (hR : Rgt l) : ∀ i, i < l.length → ((spN l i).1 = 0 ↔ 0 < wyN l i) := fun i => by
  have hF := hR.1
  induction i using Nat.strongRecOn with
  | ind i ih =>
    intro hi0
    have ho := hF.2.1 i hi0
    have hr9 := (rgt_iff hF).1 hR i hi0
    obtain ⟨n, hn⟩ : ∃ n, atN l i = n := ⟨_, rfl⟩
    rw [hn] at ho hr9
    cases ho.cs hn with
    | leaf hk hf => rw [spN_leaf (by rw [hn]; exact hk), wyN_leaf (by rw [hn]; exact hk), hn]; exact leafPs_zero hk ho
    | one hk hi ha hb h7 hr hc hf =>
      rw [spN_one hi (by rw [hn]; exact hk) (by rw [hn]; exact ha), wyN_one hi (by rw [hn]; exact hk) (by rw [hn]; exact ha), hn]
      refine onePs_zero (spN_ok hF _ (by omega)) (ih _ (by omega) (by omega)) hk hr9 (fun h => ?_)
      unfold okN at ho
      omega
    | two hk hi hb ha hf0 hl hc hf =>
      have hle := firstP_le l (i - 1)
      rw [spN_two (p := firstP l (i - 1) - 1) hi (by rw [hn]; exact hk) (by rw [hn]; omega) (by omega) (by rw [hn]; exact hb), wyN_two (p := firstP l (i - 1) - 1) hi (by rw [hn]; exact hk) (by rw [hn]; omega) (by omega) (by rw [hn]; exact hb), hn]
      exact twoPs_zero (spN_ok hF _ (by omega)) (spN_ok hF _ (by omega)) (ih _ (by omega) (by omega)) (ih _ (by omega) (by omega)) hk
end Go.Proofs.Ytplgokgjcclhaaa
/- What the statements ask of spans: plain mathematics. -/
namespace Go.Proofs.Ytplgokgjcclhaaa
open Go
set_option linter.unusedVariables false
set_option linter.unusedSimpArgs false

/-- A row's, an or's, a frame's: what SpanBuilt asks. -/
structure BuiltS (p q s o f : Spn) : Prop where
  s1 : s.1 = -1 ↔ p.1 = -1 ∨ q.1 = -1
  o1 : o.1 = -1 ↔ p.1 = -1 ∧ q.1 = -1
  f1 : f.1 = -1 ↔ p.1 = -1 ∨ 255 < p.1
  f2 : f.1 ≠ -1 → f.1 = p.1 + 1 ∧ f.2 ≤ 256 ∧ f.1 ≤ f.2 ∧ (p.2 ≠ -1 → p.2 ≤ 255 → f.2 = p.2 + 1)
  s2 : s.1 ≠ -1 → s.1 = min (p.1 + q.1) mxS ∧ (s.2 = -1 ↔ p.2 = -1 ∨ q.2 = -1 ∨ mxS < p.2 + q.2) ∧ (s.2 ≠ -1 → s.2 = p.2 + q.2)
  o2 : p.1 ≠ -1 → q.1 ≠ -1 → o.1 = min p.1 q.1 ∧ (o.2 = -1 ↔ p.2 = -1 ∨ q.2 = -1) ∧ (o.2 = -1 ∨ o.2 = max p.2 q.2)
theorem built_s {p q : Spn} (h : SpOk p) (k : SpOk q) : BuiltS p q (seqS p q) (orS q p) (frmS 255 1 p) := by
  obtain ⟨a, b⟩ := p
  obtain ⟨x, y⟩ := q
  unfold SpOk at h k
  unfold seqS orS frmS
  simp only at h k ⊢
  refine ⟨?_, ?_, ?_, ?_, ?_, ?_⟩
  · split
    · exact ⟨fun _ => by omega, fun _ => rfl⟩
    · refine ⟨fun e => ?_, fun e => by omega⟩
      have e : min mxS (a + x) = -1 := e
      unfold mxS at e; omega
  · split
    · exact ⟨fun e => ⟨e, by omega⟩, fun e => e.1⟩
    · split
      · exact ⟨fun e => by have e : x = -1 := e; omega, fun e => by omega⟩
      · refine ⟨fun e => ?_, fun e => by omega⟩
        have e : min x a = -1 := e
        omega
  · split
    · exact ⟨fun _ => by omega, fun _ => rfl⟩
    · refine ⟨fun e => ?_, fun e => by omega⟩
      have e : a + 1 = -1 := e
      omega
  · split <;> simp only
    · omega
    · intro _; refine ⟨trivial, ?_, ?_, ?_⟩ <;> split <;> omega
  · split <;> simp only
    · omega
    · intro _
      refine ⟨by omega, ?_⟩
      split
      · omega
      · rcases bndS_cases (b + y) with e | ⟨e, e2⟩
        · unfold bndS at e ⊢; split <;> (rename_i h9; simp only [h9] at e; omega)
        · rw [e]; omega
  · intro h1 h2
    rw [if_neg (by omega), if_neg (by omega)]
    simp only
    refine ⟨by omega, ?_, ?_⟩ <;> split <;> omega
/-- A star's, a repeat's: what SpanTimes asks. -/
theorem star_s {p : Spn} (h : SpOk p) (h0 : p.1 ≠ 0) {lo hi : Int} : onePs 6 lo hi p = if p.1 = -1 then (0, 0) else (0, -1) := by
  unfold onePs
  rw [if_pos rfl]
  unfold SpOk at h
  by_cases e : p.1 = -1
  · rw [if_pos e, if_pos (by omega)]
  · rw [if_neg e, if_neg (by omega)]
theorem times_s {p : Spn} (h : SpOk p) (n : Nat) : (p.1 = -1 → repS n n p = if n = 0 then (0, 0) else (-1, -1)) ∧ (p.1 ≠ -1 → (repS n n p).1 = min (p.1 * n) mxS ∧ (n = 0 → (repS n n p).2 = 0) ∧
    (n ≠ 0 → ((repS n n p).2 = -1 ↔ p.2 = -1 ∨ mxS < p.2 * n) ∧ ((repS n n p).2 = -1 ∨ (repS n n p).2 = p.2 * n))) := by
  unfold SpOk at h
  unfold repS
  constructor
  · intro e
    rw [if_pos (by omega)]
    by_cases h0 : n = 0
    · rw [if_neg (by omega), if_pos h0]
    · rw [if_pos (by omega), if_neg h0]
  · intro e
    rw [if_neg (by omega)]
    by_cases h0 : n = 0
    · subst h0
      simp only [Int.natCast_zero, if_true, Int.mul_zero]
      exact ⟨by decide, fun _ => trivial, fun h => absurd rfl h⟩
    · rw [if_neg (by omega)]
      refine ⟨by simp only; omega, fun h => absurd h h0, fun _ => ?_⟩
      simp only
      split
      · exact ⟨⟨fun _ => .inl (by omega), fun _ => rfl⟩, .inl rfl⟩
      · rename_i h2
        have hb : 0 ≤ p.2 * (n : Int) := Int.mul_nonneg (by omega) (by omega)
        rcases bndS_cases (p.2 * (n : Int)) with e2 | ⟨e2, e3⟩
        · have e4 : mxS < p.2 * (n : Int) := by
            unfold bndS at e2
            split at e2
            · assumption
            · omega
          exact ⟨⟨fun _ => .inr e4, fun _ => e2⟩, .inl e2⟩
        · rw [e2]
          exact ⟨⟨fun h => by omega, fun h => by omega⟩, .inr rfl⟩
end Go.Proofs.Ytplgokgjcclhaaa
/- Rows of spans in memory. -/
namespace Go.Proofs.Ytplgokgjcclhaaa
open Go Go.RowKit
set_option linter.unusedVariables false
set_option linter.unusedSimpArgs false

/-- A span's cells, its value. -/
def spC (p : Spn) : Array Value := #[.int .i64 p.1, .int .i64 p.2]
def sp0 : Spn := (-1, -1)
def flatS : List Spn → List Value
  | [] => []
  | t :: l => (spC t).toList ++ flatS l
theorem spC_size (t : Spn) : (spC t).toList.length = 2 := rfl
theorem flatS_length : ∀ l, (flatS l).length = l.length * 2
  | [] => rfl
  | t :: l => by rw [flatS, List.length_append, flatS_length l, spC_size, List.length_cons]; omega
theorem flatS_append : ∀ l m, flatS (l ++ m) = flatS l ++ flatS m
  | [], m => rfl
  | t :: l, m => by show (spC t).toList ++ flatS (l ++ m) = _; rw [flatS_append l m, flatS, List.append_assoc]
theorem flatS_get : ∀ (l : List Spn) (i j : Nat), i < l.length → j < 2 → (flatS l)[i * 2 + j]? = (spC (l.getD i sp0))[j]?
  | [], i, j, h, _ => by simp at h
  | s :: l, 0, j, _, hj => by
    rw [flatS, List.getElem?_append_left (by rw [spC_size]; omega)]
    simp
  | s :: l, i + 1, j, hi, hj => by
    have ih := flatS_get l i j (by simpa using hi) hj
    show ((spC s).toList ++ flatS l)[(i + 1) * 2 + j]? = _
    rw [List.getElem?_append_right (by rw [spC_size]; omega), spC_size, show (i + 1) * 2 + j - 2 = i * 2 + j by omega, ih]
    simp
theorem flatS_ones : ∀ (l : List Spn) (u : Value), u ∈ flatS l → u.oneCell' = true
  | [], u, h => by cases h
  | t :: l, u, h => by
    rw [flatS, List.mem_append] at h
    rcases h with h | h
    · simp [spC] at h
      rcases h with rfl | rfl <;> rfl
    · exact flatS_ones l u h
/-- A row of spans that is read. -/
def SRow (w : World) (a : Option Addr) (l : List Spn) : Prop :=
  ∀ i, i < l.length → ∃ b off, a = some ⟨b, off, none⟩ ∧ b < w.heap.size ∧ ∀ j, j < 2 → w.cell? ⟨b, off + i * 2 + j, none⟩ = (spC (l.getD i sp0))[j]?
theorem SRow.later {w w' : World} {a : Option Addr} {l : List Spn} (h : SRow w a l) (hb : Below w.heap.size w w') : SRow w' a l := fun i hi => by
  obtain ⟨b, off, ha, hlt, hc⟩ := h i hi
  exact ⟨b, off, ha, Nat.lt_of_lt_of_le hlt hb.size, fun j hj => (hb.cell (p := ⟨b, off + i * 2 + j, none⟩) hlt).trans (hc j hj)⟩
theorem SRow.nil (w : World) (a : Option Addr) : SRow w a [] := fun i hi => by simp at hi
theorem SRow.two {w : World} {a : Option Addr} {l : List Spn} (h : SRow w a l) {i : Nat} (hi : i < l.length) : ∃ b off, a = some ⟨b, off, none⟩ ∧ b < w.heap.size ∧ w.cell? ⟨b, off + i * 2, none⟩ = some (.int .i64 (l.getD i sp0).1) ∧ w.cell? ⟨b, off + i * 2 + 1, none⟩ = some (.int .i64 (l.getD i sp0).2) := by
  obtain ⟨b, off, ha, hlt, hc⟩ := h i hi
  exact ⟨b, off, ha, hlt, hc 0 (by decide), hc 1 (by decide)⟩
/-- Spans that a call owns. -/
def OwnS (w : World) (base : Nat) (v : Value) (l : List Spn) : Prop := w.ownsRow base 48 2 v l.length (flatS l)
theorem OwnS.later {w w' : World} {base : Nat} {v : Value} {l : List Spn} (h : OwnS w base v l) (hb : Below w.heap.size w w') : OwnS w' base v l := ownsRow_later h hb
theorem OwnS.lower {w : World} {base base' : Nat} {v : Value} {l : List Spn} (h : OwnS w base v l) (hb : base' ≤ base) : OwnS w base' v l := by
  obtain ⟨h0, ⟨hv, hn⟩ | ⟨g, cap, cur, hv, hg, hr⟩⟩ := h
  · exact ⟨h0, .inl ⟨hv, hn⟩⟩
  · exact ⟨h0, .inr ⟨g, cap, cur, hv, Nat.le_trans hb hg, hr⟩⟩
theorem OwnS.row {w : World} {base : Nat} {v : Value} {l : List Spn} (h : OwnS w base v l) : ∃ a cap, v = .slice a l.length cap ∧ SRow w a l := by
  obtain ⟨_, ⟨hv, hn⟩ | ⟨g, cap, cur, hv, hb, hg, hc, hm, hs, ht⟩⟩ := h
  · have : l = [] := List.length_eq_zero_iff.1 hn
    subst this
    exact ⟨none, 0, hv, SRow.nil w none⟩
  · refine ⟨_, cap, hv, fun i hi => ⟨g, 0, rfl, Blk.lt (w := w) (b := g) (vs := cur) (t := 48) hg, fun j hj => ?_⟩⟩
    rw [Blk.cell (w := w) (b := g) (vs := cur) (t := 48) hg, ← flatS_get l i j hi hj, ← ht, List.getElem?_take, if_pos (by omega)]
    simp
theorem infoSp : (Try.prog.info? 48).map (fun i => (i.zero, i.size, i.bytes)) = some (some (.agg #[.int .i64 0, .int .i64 0]), 2, 16) := by kernel_rfl
theorem SRow.news {w : World} {b oo : Nat} {r : List Spn} (hr : SRow w (some ⟨b, oo, none⟩) r) : ∀ (j : Nat) (u : Value), (flatS r)[j]? = some u → w.cell? ((⟨b, oo, none⟩ : Addr).add j) = some u := by
  intro j u hu
  have hj : j < r.length * 2 := by rw [← flatS_length]; exact (List.getElem?_eq_some_iff.1 hu).1
  have hd : j / 2 < r.length := by omega
  obtain ⟨b', off, hA, _, hc⟩ := hr (j / 2) hd
  cases hA
  have h1 := hc (j % 2) (Nat.mod_lt _ (by decide))
  rw [← flatS_get r (j / 2) (j % 2) hd (Nat.mod_lt _ (by decide)), show j / 2 * 2 + j % 2 = j by omega, hu] at h1
  have hadd : (⟨b, oo, none⟩ : Addr).add j = ⟨b, oo + j, none⟩ := by unfold Addr.add; split <;> simp_all
  rw [hadd, ← h1]; congr 2; omega
theorem SRow.one {w : World} {b : Nat} {p : Spn} (h : Blk w b (spC p) 48) : SRow w (some ⟨b, 0, none⟩) [p] := fun i hi => by
  have hi : i < 1 := hi
  obtain rfl : i = 0 := by omega
  exact ⟨b, 0, rfl, h.lt, fun j hj => by rw [h.cell]; simp⟩
set_option maxRecDepth 100000 in
/-- An append of a span to spans of its own. -/
theorem wp_append_sp {w : World} {o : Oper} {a : Act} {K : Act → World → Prop} {Q : Exit → Act → World → Prop} (s x : Operand)
    (ho : o.op = .call { callee := .builtin .append, args := #[s, x], argTypes := #[46, 46] })
    (base : Nat) (v : Value) (l : List Spn) (hs : a.eval s = v) (hown : OwnS w base v l)
    (b : Nat) (p : Spn) (hx : a.eval x = .slice (some ⟨b, 0, none⟩) 1 1) (hnew : Blk w b (spC p) 48) (hlen : l.length < 1073741824) (hbase : base ≤ w.heap.size)
    (h : ∀ v' w', OwnS w' base v' (l ++ [p]) → w.grownBy w' v.ownBlock → K (a.put o.dst v') w') : o.wp Try.prog a w K Q := by
  obtain ⟨ib, hib, hz0, hz1, hz2⟩ := info_parts infoSp
  obtain ⟨v', w', hr, h2, h3, _⟩ := run_append_own (P := Try.prog) w base 46 o.type 48 ib _ 2 16 Try.underlying46 hib hz0 hz1 hz2 rfl (by decide) v l.length (flatS l) hown ⟨b, 0, none⟩ 1 1 (flatS [p]) (by rw [flatS_length]; rfl) (SRow.one hnew).news (flatS_ones [p]) (by unfold maxLen; omega) (by omega) hbase
  unfold Oper.wp execOp
  simp only [ho, resolve, invoke, builtin, Sem.run_bind, Sem.run_pure, Result.andThen_ok, List.map_toArray, List.map_cons, List.map_nil, hs, hx, hr]
  exact h v' w' (by unfold OwnS; rw [List.length_append, flatS_append]; exact h2) h3
theorem wpList_append_sp {w : World} {ops : Array Oper} {rest : List Oper} {o : Oper} {a : Act} {Q : Exit → Act → World → Prop} (hgd : o.guard = none) (s x : Operand)
    (ho : o.op = .call { callee := .builtin .append, args := #[s, x], argTypes := #[46, 46] })
    (base : Nat) (v : Value) (l : List Spn) (hs : a.eval s = v) (hown : OwnS w base v l)
    (b : Nat) (p : Spn) (hx : a.eval x = .slice (some ⟨b, 0, none⟩) 1 1) (hnew : Blk w b (spC p) 48) (hlen : l.length < 1073741824) (hbase : base ≤ w.heap.size)
    (h : ∀ v' w', OwnS w' base v' (l ++ [p]) → w.grownBy w' v.ownBlock → wpList Try.prog ops Q rest (a.put o.dst v') w') : wpList Try.prog ops Q (o :: rest) a w :=
  wpList_plain hgd fun K hK => wp_append_sp s x ho base v l hs hown b p hx hnew hlen hbase fun v' w' h1 h2 => hK _ _ (h v' w' h1 h2)
theorem wpList_make_sp {w : World} {ops : Array Oper} {rest : List Oper} {o : Oper} {a : Act} {Q : Exit → Act → World → Prop} (hgd : o.guard = none) (l c : Operand) (hop : o.op = Op.makeSlice 46 l c)
    (C : Int) (n : Nat) (hl : a.eval l = .int .i64 0) (hc : a.eval c = .int .i64 C) (hC : C = (n : Int)) (hn : n ≤ 1073741824)
    (hK : ∀ w', OwnS w' w.heap.size (.slice (some ⟨w.heap.size, 0, none⟩) 0 n) [] → Below w.heap.size w w' → wpList Try.prog ops Q rest (a.put o.dst (.slice (some ⟨w.heap.size, 0, none⟩) 0 n)) w') : wpList Try.prog ops Q (o :: rest) a w := by
  obtain ⟨ib, hib, hz0, hz1, hz2⟩ := info_parts infoSp
  exact wpList_make_own w hgd l c 46 hop w.heap.size 48 ib _ 2 Try.underlying46 hib hz0 hz1 .i64 .i64 C n hl hc hC (by rw [hz2]; omega) (by unfold maxLen; omega) (Nat.le_refl _)
    fun w' h1 h2 => hK w' h1 ⟨h2.os, h2.tape, h2.output, h2.size, fun k hk => h2.block k hk (by simp)⟩
end Go.Proofs.Ytplgokgjcclhaaa
