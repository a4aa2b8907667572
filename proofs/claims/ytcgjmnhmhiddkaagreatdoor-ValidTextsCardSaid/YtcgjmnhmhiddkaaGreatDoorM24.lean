/- How much a description may leave to read: the plain mathematics. -/
import Derived.Test.YtcgjmnhmhiddkaaGreatDoorM08
import Derived.Test.YtcgjmnhmhiddkaaGreatDoorM13
import Derived.Test.YtcgjmnhmhiddkaaGreatDoorM22
import Derived.Test.YtcgjmnhmhiddkaaGreatDoorM18
import Derived.Test.YtcgjmnhmhiddkaaGreatDoorM19
import Derived.Test.YtcgjmnhmhiddkaaGreatDoorM21
namespace Go.Proofs.YtcgjmnhmhiddkaaGreatDoor
open Go
set_option linter.unusedVariables false
set_option linter.unusedSimpArgs false

/-- The size of a part that stands among those. -/
def partS (S : List Nat) (a : Int) : Nat := if 0 ≤ a ∧ a < (S.length : Int) then S.getD a.toNat 0 else 0
end Go.Proofs.YtcgjmnhmhiddkaaGreatDoor
/- In how many ways nothing is read: the plain mathematics. -/
namespace Go.Proofs.YtcgjmnhmhiddkaaGreatDoor
open Go
set_option linter.unusedVariables false
set_option linter.unusedSimpArgs false

/-- To the power of k, of what is at most as much as is counted. -/
def powW (a : Nat) (k : Int) : Nat := if k = 0 then 1 else a
/-- Of a repeat, by its part's. -/
def tmsW (a : Nat) (lo hi : Int) : Nat := min (powW a lo + (if lo < hi then powW a (lo + 1) else 0)) 2
/-- The ways of nothing of a node, its parts' being among those. -/
def waysW (n : Nd) (S : List Nat) : Nat :=
  if n.kind = 1 then 1
  else if n.kind = 4 then min (partS S n.a * partS S n.b) 2
  else if n.kind = 5 then min (partS S n.a + partS S n.b) 2
  else if n.kind = 6 then min (1 + partS S n.a) 2
  else if n.kind = 7 then tmsW (partS S n.a) n.lo n.hi
  else 0
/-- .. of the first nodes. -/
def wys (l : List Nd) : Nat → List Nat
  | 0 => []
  | k + 1 => wys l k ++ [waysW (atN l k) (wys l k)]
/-- .. of a node. -/
def wyN (l : List Nd) (i : Nat) : Nat := waysW (atN l i) (wys l i)
theorem wys_length (l : List Nd) : ∀ k, (wys l k).length = k
  | 0 => rfl
  | k + 1 => by rw [wys, List.length_append, wys_length l k]; rfl
theorem wys_get (l : List Nd) : ∀ k j, j < k → (wys l k).getD j 0 = wyN l j
  | 0, j, h => absurd h (Nat.not_lt_zero j)
  | k + 1, j, h => by
    rw [wys, List.getD_eq_getElem?_getD]
    rcases Nat.lt_or_ge j k with h1 | h1
    · rw [List.getElem?_append_left (by rw [wys_length]; exact h1), ← List.getD_eq_getElem?_getD]; exact wys_get l k j h1
    · rw [List.getElem?_append_right (by rw [wys_length]; exact h1), wys_length, show j = k by omega, Nat.sub_self]; rfl
theorem partW_at {l : List Nd} {i : Nat} {a : Int} (h0 : 0 ≤ a) (h1 : a < (i : Int)) : partS (wys l i) a = wyN l a.toNat := by
  unfold partS
  rw [wys_length, if_pos ⟨h0, h1⟩, wys_get l i _ (by omega)]
theorem partS_two {S : List Nat} (h : ∀ x ∈ S, x ≤ 2) (a : Int) : partS S a ≤ 2 := by
  unfold partS
  split
  · rename_i hh
    rw [List.getD_eq_getElem?_getD, List.getElem?_eq_getElem (by omega)]
    exact h _ (List.getElem_mem _)
  · exact Nat.zero_le _
theorem waysW_le (n : Nd) (S : List Nat) : waysW n S ≤ 2 := by
  unfold waysW tmsW
  (repeat' split) <;> first | exact Nat.min_le_right _ _ | omega
theorem wys_le (l : List Nd) : ∀ k, ∀ x ∈ wys l k, x ≤ 2
  | 0, x, h => by simp [wys] at h
  | k + 1, x, h => by
    rw [wys, List.mem_append] at h
    rcases h with h | h
    · exact wys_le l k x h
    · rw [List.mem_singleton.mp h]; exact waysW_le _ _
/-- What isn't right: a star, or a repeat, of what may be nothing. -/
def badW (l : List Nd) (i : Nat) : Bool := decide (((atN l i).kind = 6 ∨ (atN l i).kind = 7) ∧ partS (wys l l.length) (atN l i).a ≠ 0)
def fstW (l : List Nd) : Nat × Bool := match (List.range l.length).find? (badW l) with | some i => (i, true) | none => (0, false)
theorem fstW_some {l : List Nd} {i : Nat} (hi : i < l.length) (h : badW l i = true) (hn : ∀ j, j < i → badW l j = false) : fstW l = (i, true) := by
  unfold fstW
  have : (List.range l.length).find? (badW l) = some i := by
    rw [List.find?_range_eq_some]
    exact ⟨h, List.mem_range.2 hi, fun j hj => by rw [hn j hj]; rfl⟩
  rw [this]
theorem fstW_none {l : List Nd} (hn : ∀ j, j < l.length → badW l j = false) : fstW l = (0, false) := by
  unfold fstW
  have : (List.range l.length).find? (badW l) = none := by
    rw [List.find?_range_eq_none]
    exact fun j hj => by rw [hn j hj]; rfl
  rw [this]
/-- Of a description that has its form. -/
theorem badW_form {l : List Nd} (h : Form l) {i : Nat} (hi : i < l.length) : badW l i = true ↔ ((atN l i).kind = 6 ∨ (atN l i).kind = 7) ∧ wyN l (i - 1) ≠ 0 := by
  unfold badW
  rw [decide_eq_true_iff]
  have hc := (h.2.1 i hi).cs rfl
  constructor
  · rintro ⟨hk, hp⟩
    cases hc with
    | leaf hl hf => unfold leafK at hl; omega
    | two hl => omega
    | one hl h0 ha hb h7 hr hc hf =>
      rw [partW_at (by omega) (by omega), show (atN l i).a.toNat = i - 1 by omega] at hp
      exact ⟨hk, hp⟩
  · rintro ⟨hk, hp⟩
    cases hc with
    | leaf hl hf => unfold leafK at hl; omega
    | two hl => omega
    | one hl h0 ha hb h7 hr hc hf =>
      rw [partW_at (by omega) (by omega), show (atN l i).a.toNat = i - 1 by omega]
      exact ⟨hk, hp⟩
/-- Step by step, as many as there are numbers of times. -/
def rsW (a : Nat) (lo : Int) : Nat → Nat
  | 0 => 0
  | k + 1 => min 2 (rsW a lo k + powW a (lo + k))
theorem powW_step {a : Nat} (ha : a ≤ 2) {k : Nat} : min 2 (powW a (k : Int) * a) = powW a ((k + 1 : Nat) : Int) := by
  unfold powW
  rw [if_neg (show ¬ ((k + 1 : Nat) : Int) = 0 by omega)]
  have : a = 0 ∨ a = 1 ∨ a = 2 := by omega
  by_cases h : (k : Int) = 0
  · rw [if_pos h]; omega
  · rw [if_neg h]; rcases this with rfl | rfl | rfl <;> rfl
theorem powW_le {a : Nat} (ha : a ≤ 2) (k : Int) : powW a k ≤ 2 := by unfold powW; split <;> omega
theorem rsW_le (a : Nat) (lo : Int) (k : Nat) : rsW a lo k ≤ 2 := by
  cases k with
  | zero => exact Nat.zero_le _
  | succ k => exact Nat.min_le_left _ _
theorem rsW_more {a : Nat} (ha : a ≤ 2) {lo : Int} (hl : 0 ≤ lo) : ∀ k : Nat, rsW a lo (k + 2) = min (powW a lo + powW a (lo + 1)) 2
  | 0 => by
    have h1 := powW_le ha lo
    show min 2 (min 2 (0 + powW a (lo + ((0 : Nat) : Int))) + powW a (lo + ((1 : Nat) : Int))) = _
    have e0 : lo + ((0 : Nat) : Int) = lo := by omega
    have e1 : lo + ((1 : Nat) : Int) = lo + 1 := by omega
    rw [e0, e1]; omega
  | k + 1 => by
    rw [rsW, rsW_more ha hl k]
    unfold powW
    rw [if_neg (show ¬ lo + 1 = 0 by omega), if_neg (show ¬ lo + ((k + 2 : Nat) : Int) = 0 by omega)]
    split <;> omega
theorem rsW_all {a : Nat} (ha : a ≤ 2) {lo hi : Int} (hl : 0 ≤ lo) (h : lo ≤ hi) : rsW a lo (hi - lo + 1).toNat = tmsW a lo hi := by
  unfold tmsW
  by_cases he : lo < hi
  · rw [if_pos he]
    obtain ⟨k, hk⟩ : ∃ k : Nat, hi = lo + 1 + k := ⟨(hi - lo - 1).toNat, by omega⟩
    rw [show (hi - lo + 1).toNat = k + 2 by omega, rsW_more ha hl]
  · rw [if_neg he]
    rw [show (hi - lo + 1).toNat = 1 by omega]
    show min 2 (0 + powW a (lo + ((0 : Nat) : Int))) = _
    have e0 : lo + ((0 : Nat) : Int) = lo := by omega
    rw [e0]; omega
/-- A node's number is a number of Go's. -/
def IntOk (n : Nd) : Prop := -9223372036854775808 ≤ n.lo ∧ n.hi ≤ 9223372036854775807
end Go.Proofs.YtcgjmnhmhiddkaaGreatDoor
/- Spaces put in, and texts put together: the plain mathematics of LexSpaces and LexOn. -/
namespace Go.Proofs.YtcgjmnhmhiddkaaGreatDoor
open Go
set_option linter.unusedVariables false

end Go.Proofs.YtcgjmnhmhiddkaaGreatDoor
/- How big is what is parsed, and its text, of tokens whose texts are short: plain mathematics. -/
namespace Go.Proofs.YtcgjmnhmhiddkaaGreatDoor
open Go
set_option linter.unusedVariables false
set_option linter.unusedSimpArgs false

/-- More than twice as many? -/
def insM : Md → Nat
  | .inside => 1
  | _ => 0
def TxP (M : Nat) (s : PS) : Prop := ∀ n ∈ s.nodes, n.text.length ≤ M
theorem TxP.lay {M : Nat} {s : PS} (h : TxP M s) {n : Nd} (hn : n.text.length ≤ M) (p : Int) : TxP M (s.lay n p) := fun m hm => by
  unfold PS.lay at hm
  split at hm
  · rcases List.mem_append.1 hm with h1 | h1
    · exact h m h1
    · rw [List.mem_singleton.1 h1]; exact hn
  · exact h m hm
/-- How big a run makes it. -/
structure Big (l : List Tk) (M : Nat) (m : Md) (s t : PS) : Prop where
  cnt : t.count + eats m + 2 * s.read ≤ s.count + 2 * t.read + insM m
  le : s.read ≤ t.read
  rd : s.read ≤ l.length → t.read ≤ l.length
  tx : TxP M s → TxP M t
theorem run_big {l : List Tk} {M : Nat} (hM : ∀ p, (tkAt l p).text.length ≤ M) : ∀ (n : Nat) (m : Md) (s : PS) (k : Int) (t : PS), run l n m s = .ok k t → Big l M m s t
  | 0, _, _, _, _, h => by cases h
  | n + 1, .or, s, k, t, h => by
    obtain ⟨a, u, h1, h2⟩ := bind_ok h
    have q1 := run_big hM n _ _ _ _ h1
    have q2 := run_big hM n _ _ _ _ h2
    have c1 := q1.cnt
    have c2 := q2.cnt
    simp only [eats, insM] at c1 c2
    exact ⟨by simp only [eats, insM]; omega, Nat.le_trans q1.le q2.le, fun h => q2.rd (q1.rd h), fun h => q2.tx (q1.tx h)⟩
  | n + 1, .orL a, s, k, t, h => by
    simp only [run] at h
    split at h
    · rename_i hk
      have hin : s.read < l.length := tk_in (by rw [hk]; decide)
      obtain ⟨b, u, h1, h2⟩ := bind_ok h
      have q1 := run_big hM n _ _ _ _ h1
      have q2 := run_big hM n _ _ _ _ h2
      have q3 := lay_read u { kind := 5, a := a, b := b } (-1)
      have c1 := q1.cnt
      have c2 := q2.cnt
      have l1 := q1.le
      have l2 := q2.le
      simp only [eats, insM, PS.next] at c1 c2 l1
      rw [q3.2.2, q3.1] at c2
      rw [q3.1] at l2
      exact ⟨by simp only [eats, insM]; omega, by omega, fun h => q2.rd (by rw [q3.1]; exact q1.rd hin), fun h => q2.tx ((q1.tx h).lay (Nat.zero_le _) _)⟩
    · cases h; exact ⟨by simp only [eats, insM]; omega, Nat.le_refl _, id, id⟩
  | n + 1, .row, s, k, t, h => by
    obtain ⟨a, u, h1, h2⟩ := bind_ok h
    have q1 := run_big hM n _ _ _ _ h1
    have q2 := run_big hM n _ _ _ _ h2
    have c1 := q1.cnt
    have c2 := q2.cnt
    simp only [eats, insM] at c1 c2
    exact ⟨by simp only [eats, insM]; omega, Nat.le_trans q1.le q2.le, fun h => q2.rd (q1.rd h), fun h => q2.tx (q1.tx h)⟩
  | n + 1, .rowL a, s, k, t, h => by
    simp only [run] at h
    split at h
    · obtain ⟨b, u, h1, h2⟩ := bind_ok h
      have q1 := run_big hM n _ _ _ _ h1
      have q2 := run_big hM n _ _ _ _ h2
      have q3 := lay_read u { kind := 4, a := a, b := b } (-1)
      have c1 := q1.cnt
      have c2 := q2.cnt
      have l1 := q1.le
      have l2 := q2.le
      simp only [eats, insM] at c1 c2
      rw [q3.2.2, q3.1] at c2
      rw [q3.1] at l2
      exact ⟨by simp only [eats, insM]; omega, by omega, fun h => q2.rd (by rw [q3.1]; exact q1.rd h), fun h => q2.tx ((q1.tx h).lay (Nat.zero_le _) _)⟩
    · cases h; exact ⟨by simp only [eats, insM]; omega, Nat.le_refl _, id, id⟩
  | n + 1, .post, s, k, t, h => by
    obtain ⟨a, u, h1, h2⟩ := bind_ok h
    have q1 := run_big hM n _ _ _ _ h1
    have q2 := run_big hM n _ _ _ _ h2
    have c1 := q1.cnt
    have c2 := q2.cnt
    simp only [eats, insM] at c1 c2
    exact ⟨by simp only [eats, insM]; omega, Nat.le_trans q1.le q2.le, fun h => q2.rd (q1.rd h), fun h => q2.tx (q1.tx h)⟩
  | n + 1, .postL a, s, k, t, h => by
    simp only [run] at h
    split at h
    · rename_i hk
      have hin : s.read < l.length := tk_in (by rw [hk]; decide)
      have q2 := run_big hM n _ _ _ _ h
      have q3 := lay_read s { kind := 6, a := a } (tkAt l s.read).at_
      have c2 := q2.cnt
      have l2 := q2.le
      simp only [eats, insM, PS.next] at c2 l2
      rw [q3.2.2, q3.1] at c2
      rw [q3.1] at l2
      exact ⟨by simp only [eats, insM]; omega, by omega, fun h => q2.rd (by simp only [PS.next]; rw [q3.1]; exact hin), fun h => q2.tx (show TxP M _ from (h.lay (n := { kind := 6, a := a }) (Nat.zero_le _) _))⟩
    · split at h
      · rename_i hk
        have hin : s.read < l.length := tk_in (by rw [hk]; decide)
        have q2 := run_big hM n _ _ _ _ h
        have q3 := lay_read s { kind := 7, a := a, lo := (tkAt l s.read).lo, hi := (tkAt l s.read).hi } (tkAt l s.read).at_
        have c2 := q2.cnt
        have l2 := q2.le
        simp only [eats, insM, PS.next] at c2 l2
        rw [q3.2.2, q3.1] at c2
        rw [q3.1] at l2
        exact ⟨by simp only [eats, insM]; omega, by omega, fun h => q2.rd (by simp only [PS.next]; rw [q3.1]; exact hin), fun h => q2.tx (show TxP M _ from (h.lay (n := { kind := 7, a := a, lo := (tkAt l s.read).lo, hi := (tkAt l s.read).hi }) (Nat.zero_le _) _))⟩
      · cases h; exact ⟨by simp only [eats, insM]; omega, Nat.le_refl _, id, id⟩
  | n + 1, .atom, s, k, t, h => by
    simp only [run] at h
    have leafC : ∀ {nd : Nd}, nd.text.length ≤ M → s.read < l.length → layK s.next nd (-1) = .ok k t → Big l M .atom s t := fun {nd} hx hin e => by
      cases e
      have q3 := lay_read s.next nd (-1)
      have e2 : s.next.count = s.count := rfl
      have e3 : s.next.read = s.read + 1 := rfl
      exact ⟨by rw [q3.2.2, q3.1, e2, e3]; simp only [eats, insM]; omega, by rw [q3.1, e3]; omega, fun _ => by rw [q3.1, e3]; omega, fun h => TxP.lay (s := s.next) h hx _⟩
    split at h
    · rename_i hk
      exact leafC (Nat.zero_le _) (tk_in (by rw [hk]; decide)) h
    · split at h
      · rename_i hk
        exact leafC (hM _) (tk_in (by rw [hk]; decide)) h
      · split at h
        · have q := run_big hM n _ _ _ _ h
          have c1 := q.cnt
          simp only [eats, insM] at c1
          exact ⟨by simp only [eats, insM]; omega, q.le, q.rd, q.tx⟩
        · split at h
          · rename_i hk
            have hin : s.read < l.length := tk_in (by rw [hk]; decide)
            obtain ⟨b, u, h1, h2⟩ := bind_ok h
            cases h2
            have q3 := lay_read u { kind := 8, a := b } (-1)
            have q := run_big hM n _ _ _ _ h1
            have c1 := q.cnt
            have l1 := q.le
            simp only [eats, insM, PS.next] at c1 l1
            exact ⟨by rw [q3.2.2, q3.1]; simp only [eats, insM]; omega, by rw [q3.1]; omega, fun _ => by rw [q3.1]; exact q.rd hin, fun h => (q.tx h).lay (Nat.zero_le _) _⟩
          · split at h
            · rename_i hk
              have hin : s.read < l.length := tk_in (by rw [hk]; decide)
              obtain ⟨b, u, h1, h2⟩ := bind_ok h
              cases h2
              have q3 := lay_read u { kind := 9, a := b } (-1)
              have q := run_big hM n _ _ _ _ h1
              have c1 := q.cnt
              have l1 := q.le
              simp only [eats, insM, PS.next] at c1 l1
              exact ⟨by rw [q3.2.2, q3.1]; simp only [eats, insM]; omega, by rw [q3.1]; omega, fun _ => by rw [q3.1]; exact q.rd hin, fun h => (q.tx h).lay (Nat.zero_le _) _⟩
            · exact absurd h fault_not_ok
  | n + 1, .group, s, k, t, h => by
    simp only [run] at h
    split at h
    · rename_i hk
      have hin : s.read < l.length := tk_in (by rw [hk]; decide)
      split at h
      · cases h
      · obtain ⟨b, u, h1, h2⟩ := bind_ok h
        split at h2
        · rename_i hk2
          have hin2 : u.read < l.length := tk_in (by rw [hk2]; decide)
          cases h2
          have q := run_big hM n _ _ _ _ h1
          have c1 := q.cnt
          have l1 := q.le
          simp only [eats, insM, PS.next] at c1 l1
          exact ⟨by simp only [eats, insM, PS.next]; omega, by simp only [PS.next]; omega, fun _ => by simp only [PS.next]; omega, fun h => q.tx h⟩
        · exact absurd h2 fault_not_ok
    · exact absurd h fault_not_ok
  | n + 1, .inside, s, k, t, h => by
    simp only [run] at h
    split at h
    · cases h
      have q3 := lay_read s { kind := 1 } (-1)
      exact ⟨by rw [q3.2.2, q3.1]; simp only [eats, insM]; omega, by rw [q3.1]; exact Nat.le_refl _, fun h => by rw [q3.1]; exact h, fun h => h.lay (Nat.zero_le _) _⟩
    · have q := run_big hM n _ _ _ _ h
      have c1 := q.cnt
      simp only [eats, insM] at c1
      exact ⟨by simp only [eats, insM]; omega, q.le, q.rd, q.tx⟩
/-- What is parsed of few tokens with short texts. -/
theorem parse_big {l : List Tk} (hl : TkOk l) {M : Nat} (hM : ∀ p, (tkAt l p).text.length ≤ M) {k : Int} {t : PS} (h : parseP l = .ok k t) : t.nodes.length ≤ 2 * l.length ∧ ∀ n ∈ t.nodes, n.text.length ≤ M := by
  obtain ⟨a, u, h1, h2⟩ := bind_ok h
  split at h2
  · split at h2
    · cases h2
    · rename_i hcnt
      cases h2
      have r := run_form hl _ .or {} 0 k u h1 (by omega) ⟨rfl, fun i hi => by simp at hi⟩ rfl
      have hlen := r.lay.len
      have q := run_big hM _ _ _ _ _ h1
      have c := q.cnt
      have rd := q.rd (Nat.zero_le _)
      simp only [eats, insM] at c
      refine ⟨?_, q.tx (fun n hn => by cases hn)⟩
      show u.nodes.length ≤ _
      have e1 : ({} : PS).count = 0 := rfl
      have e2 : ({} : PS).read = 0 := rfl
      omega
  · exact absurd h2 fault_not_ok
end Go.Proofs.YtcgjmnhmhiddkaaGreatDoor
