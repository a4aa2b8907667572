/- Sizes: sums, times, parts, bounds: walked. -/
import Derived.Test.YtgabifebcfgngaaM21
import Derived.Test.YtgabifebcfgngaaM10
import Derived.Laws.MakeOwn
namespace Go.Proofs.Ytgabifebcfgngaa
open Go Go.RowKit
set_option linter.unusedVariables false
set_option linter.unusedSimpArgs false

/-- Numbers as the rows have them. -/
def natI (l : List Nat) : List Int := l.map (fun n : Nat => (n : Int))
theorem natI_length (l : List Nat) : (natI l).length = l.length := List.length_map _
theorem natI_get {l : List Nat} {i : Nat} (h : i < l.length) : (natI l).getD i 0 = ((l.getD i 0 : Nat) : Int) := by
  unfold natI
  rw [List.getD_eq_getElem?_getD, List.getD_eq_getElem?_getD, List.getElem?_map, List.getElem?_eq_getElem h]; rfl
end Go.Proofs.Ytgabifebcfgngaa
/- In how many ways nothing is read: the plain mathematics. -/
namespace Go.Proofs.Ytgabifebcfgngaa
open Go
set_option linter.unusedVariables false
set_option linter.unusedSimpArgs false

/-- To the power of k, of what is at most as much as is counted. -/
def powW (a : Nat) (k : Int) : Nat := if k = 0 then 1 else a
/-- Of a repeat, by its part's. -/
def tmsW (a : Nat) (lo hi : Int) : Nat := min (powW a lo + (if lo < hi then powW a (lo + 1) else 0)) 2
/-- The ways of nothing of a node, its parts' being among those. -/
def waysW (n : Nd) (S : List Nat) : Nat :=
  if n.kind = 1 then 1
  else if n.kind = 4 then min (partS S n.a * partS S n.b) 2
  else if n.kind = 5 then min (partS S n.a + partS S n.b) 2
  else if n.kind = 6 then min (1 + partS S n.a) 2
  else if n.kind = 7 then tmsW (partS S n.a) n.lo n.hi
  else 0
/-- .. of the first nodes. -/
def wys (l : List Nd) : Nat → List Nat
  | 0 => []
  | k + 1 => wys l k ++ [waysW (atN l k) (wys l k)]
/-- .. of a node. -/
def wyN (l : List Nd) (i : Nat) : Nat := waysW (atN l i) (wys l i)
theorem wys_length (l : List Nd) : ∀ k, (wys l k).length = k
  | 0 => rfl
  | k + 1 => by rw [wys, List.length_append, wys_length l k]; rfl
theorem wys_get (l : List Nd) : ∀ k j, j < k → (wys l k).getD j 0 = wyN l j
  | 0, j, h => absurd h (Nat.not_lt_zero j)
  | k + 1, j, h => by
    rw [wys, List.getD_eq_getElem?_getD]
    rcases Nat.lt_or_ge j k with h1 | h1
    · rw [List.getElem?_append_left (by rw [wys_length]; exact h1), ← List.getD_eq_getElem?_getD]; exact wys_get l k j h1
    · rw [List.getElem?_append_right (by rw [wys_length]; exact h1), wys_length, show j = k by omega, Nat.sub_self]; rfl
theorem partW_at {l : List Nd} {i : Nat} {a : Int} (h0 : 0 ≤ a) (h1 : a < (i : Int)) : partS (wys l i) a = wyN l a.toNat := by
  unfold partS
  rw [wys_length, if_pos ⟨h0, h1⟩, wys_get l i _ (by omega)]
theorem partS_two {S : List Nat} (h : ∀ x ∈ S, x ≤ 2) (a : Int) : partS S a ≤ 2 := by
  unfold partS
  split
  · rename_i hh
    rw [List.getD_eq_getElem?_getD, List.getElem?_eq_getElem (by omega)]
    exact h _ (List.getElem_mem _)
  · exact Nat.zero_le _
theorem waysW_le (n : Nd) (S : List Nat) : waysW n S ≤ 2 := by
  unfold waysW tmsW
  (repeat' split) <;> first | exact Nat.min_le_right _ _ | omega
theorem wyN_le (l : List Nd) (i : Nat) : wyN l i ≤ 2 := waysW_le _ _
theorem wys_le (l : List Nd) : ∀ k, ∀ x ∈ wys l k, x ≤ 2
  | 0, x, h => by simp [wys] at h
  | k + 1, x, h => by
    rw [wys, List.mem_append] at h
    rcases h with h | h
    · exact wys_le l k x h
    · rw [List.mem_singleton.mp h]; exact waysW_le _ _
/-- By the parts'. -/
def leafW (n : Nd) : Nat := if n.kind = 1 then 1 else 0
theorem wyN_leaf {l : List Nd} {i : Nat} (hk : leafK (atN l i).kind) : wyN l i = leafW (atN l i) := by
  unfold wyN waysW leafW
  unfold leafK at hk
  rcases hk with hk | hk | hk <;> simp [hk]
/-- Of a node of one part. -/
def oneW (kind lo hi : Int) (a : Nat) : Nat := if kind = 6 then min (1 + a) 2 else if kind = 7 then tmsW a lo hi else 0
theorem wyN_one {l : List Nd} {i : Nat} (h : 0 < i) (hk : 6 ≤ (atN l i).kind ∧ (atN l i).kind ≤ 9) (ha : (atN l i).a = (i : Int) - 1) : wyN l i = oneW (atN l i).kind (atN l i).lo (atN l i).hi (wyN l (i - 1)) := by
  unfold wyN waysW oneW
  rw [if_neg (by omega), if_neg (by omega), if_neg (by omega), partW_at (by omega) (by omega), show (atN l i).a.toNat = i - 1 by omega]; rfl
/-- Of a node of two parts. -/
def twoW (kind : Int) (a b : Nat) : Nat := if kind = 4 then min (a * b) 2 else min (a + b) 2
theorem wyN_two {l : List Nd} {i p : Nat} (h : 0 < i) (hk : (atN l i).kind = 4 ∨ (atN l i).kind = 5) (ha : (atN l i).a = (p : Int)) (hp : p < i) (hb : (atN l i).b = (i : Int) - 1) : wyN l i = twoW (atN l i).kind (wyN l p) (wyN l (i - 1)) := by
  unfold wyN waysW twoW
  rw [if_neg (by omega), partW_at (by omega) (by omega), partW_at (by omega) (by omega), show (atN l i).a.toNat = p by omega, show (atN l i).b.toNat = i - 1 by omega]
  rcases hk with hk | hk
  · rw [if_pos hk, if_pos hk]; rfl
  · rw [if_neg (by omega), if_pos hk, if_neg (by omega)]; rfl
/-- What isn't right: a star, or a repeat, of what may be nothing. -/
def badW (l : List Nd) (i : Nat) : Bool := decide (((atN l i).kind = 6 ∨ (atN l i).kind = 7) ∧ partS (wys l l.length) (atN l i).a ≠ 0)
def fstW (l : List Nd) : Nat × Bool := match (List.range l.length).find? (badW l) with | some i => (i, true) | none => (0, false)
theorem fstW_some {l : List Nd} {i : Nat} (hi : i < l.length) (h : badW l i = true) (hn : ∀ j, j < i → badW l j = false) : fstW l = (i, true) := by
  unfold fstW
  have : (List.range l.length).find? (badW l) = some i := by
    rw [List.find?_range_eq_some]
    exact ⟨h, List.mem_range.2 hi, fun j hj => by rw [hn j hj]; rfl⟩
  rw [this]
theorem fstW_none {l : List Nd} (hn : ∀ j, j < l.length → badW l j = false) : fstW l = (0, false) := by
  unfold fstW
  have : (List.range l.length).find? (badW l) = none := by
    rw [List.find?_range_eq_none]
    exact fun j hj => by rw [hn j hj]; rfl
  rw [this]
theorem fstW_right (l : List Nd) : (fstW l).2 = false ↔ ∀ j, j < l.length → badW l j = false := by
  constructor
  · intro h
    unfold fstW at h
    cases hf : (List.range l.length).find? (badW l) with
    | some i => rw [hf] at h; cases h
    | none =>
      rw [List.find?_range_eq_none] at hf
      exact fun j hj => by simpa using hf j hj
  · intro h; rw [fstW_none h]
/-- Right. -/
def Rgt (l : List Nd) : Prop := Form l ∧ ∀ i, i < l.length → badW l i = false
/-- Of a description that has its form. -/
theorem badW_form {l : List Nd} (h : Form l) {i : Nat} (hi : i < l.length) : badW l i = true ↔ ((atN l i).kind = 6 ∨ (atN l i).kind = 7) ∧ wyN l (i - 1) ≠ 0 := by
  unfold badW
  rw [decide_eq_true_iff]
  have hc := (h.2.1 i hi).cs rfl
  constructor
  · rintro ⟨hk, hp⟩
    cases hc with
    | leaf hl hf => unfold leafK at hl; omega
    | two hl => omega
    | one hl h0 ha hb h7 hr hc hf =>
      rw [partW_at (by omega) (by omega), show (atN l i).a.toNat = i - 1 by omega] at hp
      exact ⟨hk, hp⟩
  · rintro ⟨hk, hp⟩
    cases hc with
    | leaf hl hf => unfold leafK at hl; omega
    | two hl => omega
    | one hl h0 ha hb h7 hr hc hf =>
      rw [partW_at (by omega) (by omega), show (atN l i).a.toNat = i - 1 by omega]
      exact ⟨hk, hp⟩
theorem rgt_iff {l : List Nd} (h : Form l) : Rgt l ↔ ∀ i, i < l.length → ((atN l i).kind = 6 ∨ (atN l i).kind = 7) → wyN l (i - 1) = 0 := by
  constructor
  · intro hr i hi hk
    have h1 := hr.2 i hi
    by_cases hw : wyN l (i - 1) = 0
    · exact hw
    · have := (badW_form h hi).2 ⟨hk, hw⟩
      rw [h1] at this; cases this
  · intro hr
    refine ⟨h, fun i hi => ?_⟩
    cases hb : badW l i with
    | false => rfl
    | true => obtain ⟨hk, hw⟩ := (badW_form h hi).1 hb; exact absurd (hr i hi hk) hw
/-- Step by step, as many as there are numbers of times. -/
def rsW (a : Nat) (lo : Int) : Nat → Nat
  | 0 => 0
  | k + 1 => min 2 (rsW a lo k + powW a (lo + k))
theorem powW_step {a : Nat} (ha : a ≤ 2) {k : Nat} : min 2 (powW a (k : Int) * a) = powW a ((k + 1 : Nat) : Int) := by
  unfold powW
  rw [if_neg (show ¬ ((k + 1 : Nat) : Int) = 0 by omega)]
  have : a = 0 ∨ a = 1 ∨ a = 2 := by omega
  by_cases h : (k : Int) = 0
  · rw [if_pos h]; omega
  · rw [if_neg h]; rcases this with rfl | rfl | rfl <;> rfl
theorem powW_le {a : Nat} (ha : a ≤ 2) (k : Int) : powW a k ≤ 2 := by unfold powW; split <;> omega
theorem rsW_le (a : Nat) (lo : Int) (k : Nat) : rsW a lo k ≤ 2 := by
  cases k with
  | zero => exact Nat.zero_le _
  | succ k => exact Nat.min_le_left _ _
theorem rsW_more {a : Nat} (ha : a ≤ 2) {lo : Int} (hl : 0 ≤ lo) : ∀ k : Nat, rsW a lo (k + 2) = min (powW a lo + powW a (lo + 1)) 2
  | 0 => by
    have h1 := powW_le ha lo
    show min 2 (min 2 (0 + powW a (lo + ((0 : Nat) : Int))) + powW a (lo + ((1 : Nat) : Int))) = _
    have e0 : lo + ((0 : Nat) : Int) = lo := by omega
    have e1 : lo + ((1 : Nat) : Int) = lo + 1 := by omega
    rw [e0, e1]; omega
  | k + 1 => by
    rw [rsW, rsW_more ha hl k]
    unfold powW
    rw [if_neg (show ¬ lo + 1 = 0 by omega), if_neg (show ¬ lo + ((k + 2 : Nat) : Int) = 0 by omega)]
    split <;> omega
theorem rsW_all {a : Nat} (ha : a ≤ 2) {lo hi : Int} (hl : 0 ≤ lo) (h : lo ≤ hi) : rsW a lo (hi - lo + 1).toNat = tmsW a lo hi := by
  unfold tmsW
  by_cases he : lo < hi
  · rw [if_pos he]
    obtain ⟨k, hk⟩ : ∃ k : Nat, hi = lo + 1 + k := ⟨(hi - lo - 1).toNat, by omega⟩
    rw [show (hi - lo + 1).toNat = k + 2 by omega, rsW_more ha hl]
  · rw [if_neg he]
    rw [show (hi - lo + 1).toNat = 1 by omega]
    show min 2 (0 + powW a (lo + ((0 : Nat) : Int))) = _
    have e0 : lo + ((0 : Nat) : Int) = lo := by omega
    rw [e0]; omega
end Go.Proofs.Ytgabifebcfgngaa
/- Leaf, Wrap, Pair: walked. -/
namespace Go.Proofs.Ytgabifebcfgngaa
open Go Go.RowKit
set_option linter.unusedVariables false
set_option linter.unusedSimpArgs false

theorem Blk.grow {w w' : World} {b g : Nat} {vs : Array Value} {t : TypeId} (h : Blk w b vs t) (hne : b ≠ g) (hg : w.grownBy w' (some g)) : Blk w' b vs t := (hg.block b h.lt (fun e => hne (Option.some.inj e))).trans h
end Go.Proofs.Ytgabifebcfgngaa
/- Ways of nothing: what they are made of, walked. -/
namespace Go.Proofs.Ytgabifebcfgngaa
open Go Go.RowKit
set_option linter.unusedVariables false
set_option linter.unusedSimpArgs false

end Go.Proofs.Ytgabifebcfgngaa
