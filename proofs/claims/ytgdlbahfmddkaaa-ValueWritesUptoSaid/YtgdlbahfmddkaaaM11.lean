/- Texts and numbers of two bytes, opened as arguments: for seats of plain rows. -/
import Derived.Test.YtgdlbahfmddkaaaM10
import Derived.Test.YtgdlbahfmddkaaaM07
import Derived.ChangeMaps5
namespace Go.Proofs.Ytgdlbahfmddkaaa
open Go Go.RowKit Go.ChangeShapes Go.WideShapes Go.ChangeAt Go.Joins
set_option maxRecDepth 100000

section
variable {H : Type} {enc : TypeId × Value → H} {W : World} {base : Nat} {v : Value} {d : DataW H} {p : List MemPlace}
end
end Go.Proofs.Ytgdlbahfmddkaaa
/- How much a description may leave to read: the plain mathematics. -/
namespace Go.Proofs.Ytgdlbahfmddkaaa
open Go
set_option linter.unusedVariables false
set_option linter.unusedSimpArgs false

/-- The size of a part that stands among those. -/
def partS (S : List Nat) (a : Int) : Nat := if 0 ≤ a ∧ a < (S.length : Int) then S.getD a.toNat 0 else 0
end Go.Proofs.Ytgdlbahfmddkaaa
/- In how many ways nothing is read: the plain mathematics. -/
namespace Go.Proofs.Ytgdlbahfmddkaaa
open Go
set_option linter.unusedVariables false
set_option linter.unusedSimpArgs false

/-- To the power of k, of what is at most as much as is counted. -/
def powW (a : Nat) (k : Int) : Nat := if k = 0 then 1 else a
/-- Of a repeat, by its part's. -/
def tmsW (a : Nat) (lo hi : Int) : Nat := min (powW a lo + (if lo < hi then powW a (lo + 1) else 0)) 2
/-- The ways of nothing of a node, its parts' being among those. -/
def waysW (n : Nd) (S : List Nat) : Nat :=
  if n.kind = 1 then 1
  else if n.kind = 4 then min (partS S n.a * partS S n.b) 2
  else if n.kind = 5 then min (partS S n.a + partS S n.b) 2
  else if n.kind = 6 then min (1 + partS S n.a) 2
  else if n.kind = 7 then tmsW (partS S n.a) n.lo n.hi
  else 0
/-- .. of the first nodes. -/
def wys (l : List Nd) : Nat → List Nat
  | 0 => []
  | k + 1 => wys l k ++ [waysW (atN l k) (wys l k)]
/-- .. of a node. -/
def wyN (l : List Nd) (i : Nat) : Nat := waysW (atN l i) (wys l i)
theorem wys_length (l : List Nd) : ∀ k, (wys l k).length = k
  | 0 => rfl
  | k + 1 => by rw [wys, List.length_append, wys_length l k]; rfl
theorem wys_get (l : List Nd) : ∀ k j, j < k → (wys l k).getD j 0 = wyN l j
  | 0, j, h => absurd h (Nat.not_lt_zero j)
  | k + 1, j, h => by
    rw [wys, List.getD_eq_getElem?_getD]
    rcases Nat.lt_or_ge j k with h1 | h1
    · rw [List.getElem?_append_left (by rw [wys_length]; exact h1), ← List.getD_eq_getElem?_getD]; exact wys_get l k j h1
    · rw [List.getElem?_append_right (by rw [wys_length]; exact h1), wys_length, show j = k by omega, Nat.sub_self]; rfl
theorem partW_at {l : List Nd} {i : Nat} {a : Int} (h0 : 0 ≤ a) (h1 : a < (i : Int)) : partS (wys l i) a = wyN l a.toNat := by
  unfold partS
  rw [wys_length, if_pos ⟨h0, h1⟩, wys_get l i _ (by omega)]
theorem partS_two {S : List Nat} (h : ∀ x ∈ S, x ≤ 2) (a : Int) : partS S a ≤ 2 := by
  unfold partS
  split
  · rename_i hh
    rw [List.getD_eq_getElem?_getD, List.getElem?_eq_getElem (by omega)]
    exact h _ (List.getElem_mem _)
  · exact Nat.zero_le _
theorem waysW_le (n : Nd) (S : List Nat) : waysW n S ≤ 2 := by
  unfold waysW tmsW
  (repeat' split) <;> first | exact Nat.min_le_right _ _ | omega
theorem wys_le (l : List Nd) : ∀ k, ∀ x ∈ wys l k, x ≤ 2
  | 0, x, h => by simp [wys] at h
  | k + 1, x, h => by
    rw [wys, List.mem_append] at h
    rcases h with h | h
    · exact wys_le l k x h
    · rw [List.mem_singleton.mp h]; exact waysW_le _ _
/-- What isn't right: a star, or a repeat, of what may be nothing. -/
def badW (l : List Nd) (i : Nat) : Bool := decide (((atN l i).kind = 6 ∨ (atN l i).kind = 7) ∧ partS (wys l l.length) (atN l i).a ≠ 0)
def fstW (l : List Nd) : Nat × Bool := match (List.range l.length).find? (badW l) with | some i => (i, true) | none => (0, false)
theorem fstW_some {l : List Nd} {i : Nat} (hi : i < l.length) (h : badW l i = true) (hn : ∀ j, j < i → badW l j = false) : fstW l = (i, true) := by
  unfold fstW
  have : (List.range l.length).find? (badW l) = some i := by
    rw [List.find?_range_eq_some]
    exact ⟨h, List.mem_range.2 hi, fun j hj => by rw [hn j hj]; rfl⟩
  rw [this]
theorem fstW_none {l : List Nd} (hn : ∀ j, j < l.length → badW l j = false) : fstW l = (0, false) := by
  unfold fstW
  have : (List.range l.length).find? (badW l) = none := by
    rw [List.find?_range_eq_none]
    exact fun j hj => by rw [hn j hj]; rfl
  rw [this]
theorem fstW_right (l : List Nd) : (fstW l).2 = false ↔ ∀ j, j < l.length → badW l j = false := by
  constructor
  · intro h
    unfold fstW at h
    cases hf : (List.range l.length).find? (badW l) with
    | some i => rw [hf] at h; cases h
    | none =>
      rw [List.find?_range_eq_none] at hf
      exact fun j hj => by simpa using hf j hj
  · intro h; rw [fstW_none h]
/-- Right. -/
def Rgt (l : List Nd) : Prop := Form l ∧ ∀ i, i < l.length → badW l i = false
/-- Of a description that has its form. -/
theorem badW_form {l : List Nd} (h : Form l) {i : Nat} (hi : i < l.length) : badW l i = true ↔ ((atN l i).kind = 6 ∨ (atN l i).kind = 7) ∧ wyN l (i - 1) ≠ 0 := by
  unfold badW
  rw [decide_eq_true_iff]
  have hc := (h.2.1 i hi).cs rfl
  constructor
  · rintro ⟨hk, hp⟩
    cases hc with
    | leaf hl hf => unfold leafK at hl; omega
    | two hl => omega
    | one hl h0 ha hb h7 hr hc hf =>
      rw [partW_at (by omega) (by omega), show (atN l i).a.toNat = i - 1 by omega] at hp
      exact ⟨hk, hp⟩
  · rintro ⟨hk, hp⟩
    cases hc with
    | leaf hl hf => unfold leafK at hl; omega
    | two hl => omega
    | one hl h0 ha hb h7 hr hc hf =>
      rw [partW_at (by omega) (by omega), show (atN l i).a.toNat = i - 1 by omega]
      exact ⟨hk, hp⟩
/-- Step by step, as many as there are numbers of times. -/
def rsW (a : Nat) (lo : Int) : Nat → Nat
  | 0 => 0
  | k + 1 => min 2 (rsW a lo k + powW a (lo + k))
theorem powW_step {a : Nat} (ha : a ≤ 2) {k : Nat} : min 2 (powW a (k : Int) * a) = powW a ((k + 1 : Nat) : Int) := by
  unfold powW
  rw [if_neg (show ¬ ((k + 1 : Nat) : Int) = 0 by omega)]
  have : a = 0 ∨ a = 1 ∨ a = 2 := by omega
  by_cases h : (k : Int) = 0
  · rw [if_pos h]; omega
  · rw [if_neg h]; rcases this with rfl | rfl | rfl <;> rfl
theorem powW_le {a : Nat} (ha : a ≤ 2) (k : Int) : powW a k ≤ 2 := by unfold powW; split <;> omega
theorem rsW_le (a : Nat) (lo : Int) (k : Nat) : rsW a lo k ≤ 2 := by
  cases k with
  | zero => exact Nat.zero_le _
  | succ k => exact Nat.min_le_left _ _
theorem rsW_more {a : Nat} (ha : a ≤ 2) {lo : Int} (hl : 0 ≤ lo) : ∀ k : Nat, rsW a lo (k + 2) = min (powW a lo + powW a (lo + 1)) 2
  | 0 => by
    have h1 := powW_le ha lo
    show min 2 (min 2 (0 + powW a (lo + ((0 : Nat) : Int))) + powW a (lo + ((1 : Nat) : Int))) = _
    have e0 : lo + ((0 : Nat) : Int) = lo := by omega
    have e1 : lo + ((1 : Nat) : Int) = lo + 1 := by omega
    rw [e0, e1]; omega
  | k + 1 => by
    rw [rsW, rsW_more ha hl k]
    unfold powW
    rw [if_neg (show ¬ lo + 1 = 0 by omega), if_neg (show ¬ lo + ((k + 2 : Nat) : Int) = 0 by omega)]
    split <;> omega
theorem rsW_all {a : Nat} (ha : a ≤ 2) {lo hi : Int} (hl : 0 ≤ lo) (h : lo ≤ hi) : rsW a lo (hi - lo + 1).toNat = tmsW a lo hi := by
  unfold tmsW
  by_cases he : lo < hi
  · rw [if_pos he]
    obtain ⟨k, hk⟩ : ∃ k : Nat, hi = lo + 1 + k := ⟨(hi - lo - 1).toNat, by omega⟩
    rw [show (hi - lo + 1).toNat = k + 2 by omega, rsW_more ha hl]
  · rw [if_neg he]
    rw [show (hi - lo + 1).toNat = 1 by omega]
    show min 2 (0 + powW a (lo + ((0 : Nat) : Int))) = _
    have e0 : lo + ((0 : Nat) : Int) = lo := by omega
    rw [e0]; omega
end Go.Proofs.Ytgdlbahfmddkaaa
/- How long words are, by node: the plain mathematics. -/
namespace Go.Proofs.Ytgdlbahfmddkaaa
open Go
set_option linter.unusedVariables false
set_option linter.unusedSimpArgs false

/-- A span: a least and a greatest length; -1 is no bound, and of nothing at all. -/
abbrev Spn := Int × Int
def mxS : Int := 1099511627776
def bndS (n : Int) : Int := if mxS < n then -1 else n
/-- Of a part so many times. -/
def repS (lo hi : Int) (p : Spn) : Spn :=
  if p.1 < 0 then (if 0 < lo then (-1, -1) else (0, 0))
  else if hi = 0 then (0, 0)
  else (min mxS (p.1 * lo), if p.2 < 0 then -1 else bndS (p.2 * hi))
/-- Of a frame. -/
def frmS (most head : Int) (p : Spn) : Spn :=
  if p.1 < 0 ∨ most < p.1 then (-1, -1) else (p.1 + head, (if p.2 < 0 ∨ most < p.2 then most else p.2) + head)
/-- Of a node of one part. -/
def onePs (kind lo hi : Int) (p : Spn) : Spn :=
  if kind = 6 then (if p.1 < 0 ∨ p.2 = 0 then (0, 0) else (0, -1))
  else if kind = 7 then repS lo hi p
  else if kind = 8 then frmS 255 1 p
  else frmS 65535 2 p
def seqS (p q : Spn) : Spn :=
  if p.1 < 0 ∨ q.1 < 0 then (-1, -1) else (min mxS (p.1 + q.1), if p.2 < 0 ∨ q.2 < 0 then -1 else bndS (p.2 + q.2))
def orS (p q : Spn) : Spn :=
  if p.1 < 0 then q else if q.1 < 0 then p else (min p.1 q.1, if p.2 < 0 ∨ q.2 < 0 then -1 else max p.2 q.2)
/-- Of a node of two parts. -/
def twoPs (kind : Int) (p q : Spn) : Spn := if kind = 4 then seqS p q else orS p q
/-- Of a node of none. -/
def leafPs (n : Nd) : Spn := if n.kind = 1 then (0, 0) else if n.kind = 2 then (if n.cls = 0 then (-1, -1) else (1, 1)) else ((n.text.length : Int), (n.text.length : Int))
def pairS (S : List Spn) (a : Int) : Spn := if 0 ≤ a ∧ a < (S.length : Int) then S.getD a.toNat (-1, -1) else (-1, -1)
/-- The span of a node, its parts' being among those. -/
def spanS (n : Nd) (S : List Spn) : Spn :=
  if n.kind = 1 ∨ n.kind = 2 ∨ n.kind = 3 then leafPs n
  else if n.kind = 4 ∨ n.kind = 5 then twoPs n.kind (pairS S n.a) (pairS S n.b)
  else onePs n.kind n.lo n.hi (pairS S n.a)
/-- .. of the first nodes. -/
def sps (l : List Nd) : Nat → List Spn
  | 0 => []
  | k + 1 => sps l k ++ [spanS (atN l k) (sps l k)]
/-- .. of a node. -/
def spN (l : List Nd) (i : Nat) : Spn := spanS (atN l i) (sps l i)
theorem sps_length (l : List Nd) : ∀ k, (sps l k).length = k
  | 0 => rfl
  | k + 1 => by rw [sps, List.length_append, sps_length l k]; rfl
theorem sps_get (l : List Nd) : ∀ k j, j < k → (sps l k).getD j (-1, -1) = spN l j
  | 0, j, h => absurd h (Nat.not_lt_zero j)
  | k + 1, j, h => by
    rw [sps, List.getD_eq_getElem?_getD]
    rcases Nat.lt_or_ge j k with h1 | h1
    · rw [List.getElem?_append_left (by rw [sps_length]; exact h1), ← List.getD_eq_getElem?_getD]; exact sps_get l k j h1
    · rw [List.getElem?_append_right (by rw [sps_length]; exact h1), sps_length, show j = k by omega, Nat.sub_self]; rfl
theorem pairS_at {l : List Nd} {i : Nat} {a : Int} (h0 : 0 ≤ a) (h1 : a < (i : Int)) : pairS (sps l i) a = spN l a.toNat := by
  unfold pairS
  rw [sps_length, if_pos ⟨h0, h1⟩, sps_get l i _ (by omega)]
theorem spN_leaf {l : List Nd} {i : Nat} (hk : leafK (atN l i).kind) : spN l i = leafPs (atN l i) := by
  unfold leafK at hk
  unfold spN spanS
  rw [if_pos hk]
theorem spN_one {l : List Nd} {i : Nat} (h : 0 < i) (hk : 6 ≤ (atN l i).kind ∧ (atN l i).kind ≤ 9) (ha : (atN l i).a = (i : Int) - 1) : spN l i = onePs (atN l i).kind (atN l i).lo (atN l i).hi (spN l (i - 1)) := by
  unfold spN spanS
  rw [if_neg (by omega), if_neg (by omega), pairS_at (by omega) (by omega), show (atN l i).a.toNat = i - 1 by omega]; rfl
theorem spN_two {l : List Nd} {i p : Nat} (h : 0 < i) (hk : (atN l i).kind = 4 ∨ (atN l i).kind = 5) (ha : (atN l i).a = (p : Int)) (hp : p < i) (hb : (atN l i).b = (i : Int) - 1) : spN l i = twoPs (atN l i).kind (spN l p) (spN l (i - 1)) := by
  unfold spN spanS
  rw [if_neg (by omega), if_pos hk, pairS_at (by omega) (by omega), pairS_at (by omega) (by omega), show (atN l i).a.toNat = p by omega, show (atN l i).b.toNat = i - 1 by omega]; rfl
/-- What a span may be. -/
def SpOk (p : Spn) : Prop := (p.1 = -1 ∧ p.2 = -1) ∨ (0 ≤ p.1 ∧ (p.2 = -1 ∨ p.1 ≤ p.2))
theorem bndS_cases (n : Int) : bndS n = -1 ∨ (bndS n = n ∧ n ≤ mxS) := by unfold bndS; split <;> omega
theorem repS_ok {lo hi : Int} {p : Spn} (h : SpOk p) (h0 : 0 ≤ lo) (h1 : lo ≤ hi) : SpOk (repS lo hi p) := by
  unfold repS
  split
  · split
    · exact .inl ⟨rfl, rfl⟩
    · exact .inr ⟨by simp, .inr (by simp)⟩
  · split
    · exact .inr ⟨by simp, .inr (by simp)⟩
    · rename_i h2 h3
      rcases h with h | ⟨h4, h5⟩
      · omega
      · have hm : 0 ≤ p.1 * lo := Int.mul_nonneg h4 h0
        refine .inr ⟨by show 0 ≤ min mxS _; unfold mxS; omega, ?_⟩
        show (if p.2 < 0 then (-1 : Int) else bndS (p.2 * hi)) = -1 ∨ min mxS (p.1 * lo) ≤ _
        split
        · exact .inl rfl
        · rename_i h6
          have hle : p.1 * lo ≤ p.2 * hi := Int.mul_le_mul (by omega) h1 h0 (by omega)
          rcases bndS_cases (p.2 * hi) with h7 | ⟨h7, h8⟩
          · exact .inl h7
          · right; show min mxS (p.1 * lo) ≤ bndS (p.2 * hi); rw [h7]; omega
theorem frmS_ok {most head : Int} {p : Spn} (h : SpOk p) (h0 : 0 ≤ most) (h1 : 0 < head) : SpOk (frmS most head p) := by
  unfold frmS
  split
  · exact .inl ⟨rfl, rfl⟩
  · rename_i h2
    refine .inr ⟨by show 0 ≤ p.1 + head; omega, .inr ?_⟩
    show p.1 + head ≤ (if p.2 < 0 ∨ most < p.2 then most else p.2) + head
    rcases h with h | ⟨h4, h5⟩
    · omega
    · split <;> omega
theorem onePs_ok {kind lo hi : Int} {p : Spn} (h : SpOk p) (h7 : kind = 7 → 0 ≤ lo ∧ lo ≤ hi) : SpOk (onePs kind lo hi p) := by
  unfold onePs
  split
  · split
    · exact .inr ⟨by simp, .inr (by simp)⟩
    · exact .inr ⟨by simp, .inl rfl⟩
  · split
    · rename_i h2; exact repS_ok h (h7 h2).1 (h7 h2).2
    · split
      · exact frmS_ok h (by decide) (by decide)
      · exact frmS_ok h (by decide) (by decide)
theorem seqS_ok {p q : Spn} (h : SpOk p) (k : SpOk q) : SpOk (seqS p q) := by
  unfold seqS
  split
  · exact .inl ⟨rfl, rfl⟩
  · rename_i h2
    rcases h with h | ⟨h4, h5⟩
    · omega
    · rcases k with k | ⟨k4, k5⟩
      · omega
      · refine .inr ⟨by show 0 ≤ min mxS _; unfold mxS; omega, ?_⟩
        show (if p.2 < 0 ∨ q.2 < 0 then (-1 : Int) else bndS (p.2 + q.2)) = -1 ∨ min mxS (p.1 + q.1) ≤ (if p.2 < 0 ∨ q.2 < 0 then (-1 : Int) else bndS (p.2 + q.2))
        split
        · exact .inl rfl
        · rcases bndS_cases (p.2 + q.2) with h7 | ⟨h7, h8⟩
          · exact .inl h7
          · right; rw [h7]; omega
theorem orS_ok {p q : Spn} (h : SpOk p) (k : SpOk q) : SpOk (orS p q) := by
  unfold orS
  split
  · exact k
  · split
    · exact h
    · rename_i h2 h3
      rcases h with h | ⟨h4, h5⟩
      · omega
      · rcases k with k | ⟨k4, k5⟩
        · omega
        · refine .inr ⟨by show 0 ≤ min p.1 q.1; omega, ?_⟩
          show (if p.2 < 0 ∨ q.2 < 0 then (-1 : Int) else max p.2 q.2) = -1 ∨ min p.1 q.1 ≤ (if p.2 < 0 ∨ q.2 < 0 then (-1 : Int) else max p.2 q.2)
          split
          · exact .inl rfl
          · right; omega
theorem leafPs_ok (n : Nd) : SpOk (leafPs n) := by
  unfold leafPs
  split
  · exact .inr ⟨by simp, .inr (by simp)⟩
  · split
    · split
      · exact .inl ⟨rfl, rfl⟩
      · exact .inr ⟨by simp, .inr (by simp)⟩
    · exact .inr ⟨by simp, .inr (by simp)⟩
/-- Of formed nodes. -/
theorem spN_ok {l : List Nd} (hF : Form l) : ∀ i, i < l.length → SpOk (spN l i) := fun i => by
  induction i using Nat.strongRecOn with
  | ind i ih =>
    intro hi0
    have ho := hF.2.1 i hi0
    obtain ⟨n, hn⟩ : ∃ n, atN l i = n := ⟨_, rfl⟩
    have ho2 := ho
    rw [hn] at ho
    cases ho.cs hn with
    | leaf hk hf => rw [spN_leaf (by rw [hn]; exact hk)]; exact leafPs_ok _
    | one hk hi ha hb h7 hr hc hf =>
      rw [spN_one hi (by rw [hn]; exact hk) (by rw [hn]; exact ha), hn]
      refine onePs_ok (ih _ (by omega) (by omega)) (fun h => ?_)
      unfold okN at ho
      omega
    | two hk hi hb ha hf0 hl hc hf =>
      have hle := firstP_le l (i - 1)
      rw [spN_two (p := firstP l (i - 1) - 1) hi (by rw [hn]; exact hk) (by rw [hn]; omega) (by omega) (by rw [hn]; exact hb), hn]
      unfold twoPs
      split
      · exact seqS_ok (ih _ (by omega) (by omega)) (ih _ (by omega) (by omega))
      · exact orS_ok (ih _ (by omega) (by omega)) (ih _ (by omega) (by omega))
end Go.Proofs.Ytgdlbahfmddkaaa
