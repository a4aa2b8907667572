/- A number's digits, and a repeat of two numbers: the plain mathematics of LexRepeats. -/
import Derived.Test.YthiibpabdkkknaaDoorLexLaws
namespace Go.Proofs.YthiibpabdkkknaaDoor
open Go
set_option linter.unusedVariables false
set_option linter.unusedSimpArgs false

/-- A digit. -/
def digB (n : Nat) : UInt8 := UInt8.ofNat (48 + n)
theorem digB_nat {n : Nat} (h : n < 10) : (digB n).toNat = 48 + n := by
  have : ∀ n : Fin 10, (digB n.1).toNat = 48 + n.1 := by decide
  exact this ⟨n, h⟩
/-- A number's digits. -/
def decL (n : Nat) : List UInt8 := if h : n < 10 then [digB n] else decL (n / 10) ++ [digB (n % 10)]
termination_by n
decreasing_by omega
theorem decL_small {n : Nat} (h : n < 10) : decL n = [digB n] := by rw [decL, dif_pos h]
theorem decL_big {n : Nat} (h : ¬ n < 10) : decL n = decL (n / 10) ++ [digB (n % 10)] := by rw [decL, dif_neg h]
theorem decL_digits (n : Nat) : ∀ c ∈ decL n, 48 ≤ c.toNat ∧ c.toNat ≤ 57 := by
  induction n using Nat.strongRecOn with
  | ind n ih =>
    intro c hc
    by_cases h : n < 10
    · rw [decL_small h] at hc; simp at hc; subst hc; rw [digB_nat h]; omega
    · rw [decL_big h] at hc
      rcases List.mem_append.1 hc with h1 | h1
      · exact ih (n / 10) (by omega) c h1
      · simp at h1; subst h1; rw [digB_nat (by omega)]; omega
theorem decL_not (n : Nat) (c : UInt8) (h : c.toNat < 48 ∨ 57 < c.toNat) : c ∉ decL n := fun hc => by
  have := decL_digits n c hc; omega
theorem decL_ne (n : Nat) : decL n ≠ [] := by
  by_cases h : n < 10
  · rw [decL_small h]; simp
  · rw [decL_big h]; simp
theorem decL_head (n : Nat) (hn : 0 < n) : (decL n).head? ≠ some 48 := by
  induction n using Nat.strongRecOn with
  | ind n ih =>
    by_cases h : n < 10
    · rw [decL_small h]
      intro e
      simp at e
      have := digB_nat h
      rw [e] at this
      have e2 : (48 : UInt8).toNat = 48 := rfl
      omega
    · have h1 := ih (n / 10) (by omega) (by omega)
      rw [decL_big h]
      cases hd : decL (n / 10) with
      | nil => exact absurd hd (decL_ne _)
      | cons c l => rw [hd] at h1; exact h1
theorem numF_cons (n : Nat) (c : UInt8) (l : List UInt8) : numF n (c :: l) = if 48 ≤ c.toNat ∧ c.toNat ≤ 57 then numF (min (10 * n + (c.toNat - 48)) 256) l else none := rfl
theorem numF_app : ∀ (l m : List UInt8) (n : Nat), numF n (l ++ m) = (numF n l).bind fun k => numF k m
  | [], m, n => rfl
  | c :: l, m, n => by
    show numF n (c :: (l ++ m)) = _
    rw [numF_cons, numF_cons]
    split
    · exact numF_app l m _
    · rfl
theorem numF_dec (a : Nat) : numF 0 (decL a) = some (min a 256) := by
  induction a using Nat.strongRecOn with
  | ind a ih =>
    by_cases h : a < 10
    · rw [decL_small h]
      unfold numF
      rw [digB_nat h, if_pos (by omega)]
      unfold numF
      congr 1; omega
    · rw [decL_big h, numF_app, ih (a / 10) (by omega)]
      show numF (min (a / 10) 256) [digB (a % 10)] = _
      unfold numF
      rw [digB_nat (by omega), if_pos (by omega)]
      unfold numF
      congr 1; omega
theorem numV_dec (a : Nat) : numV (decL a) = some (min a 256) := by
  unfold numV
  rw [if_neg, numF_dec]
  rintro (h | ⟨h1, h2⟩)
  · exact decL_ne a h
  · by_cases ha : a < 10
    · rw [decL_small ha] at h1; simp at h1
    · exact decL_head a (by omega) h2
theorem numV_zero (b : Nat) : numV (48 :: decL b) = none := by
  unfold numV
  rw [if_pos]
  right
  have := List.length_pos_iff.2 (decL_ne b)
  exact ⟨by simp; omega, rfl⟩
theorem repV_dec (a b : Nat) : repV (decL a ++ 44 :: decL b) = some (min a 256, min b 256) := by
  unfold repV
  rw [cutAt_app (decL_not a 44 (by decide))]
  simp only [numV_dec]
theorem repV_zero (a b : Nat) : repV (decL a ++ 44 :: 48 :: decL b) = none := by
  unfold repV
  rw [cutAt_app (decL_not a 44 (by decide))]
  simp only [numV_dec, numV_zero]
theorem rep_one (x : List UInt8) (h : (125 : UInt8) ∉ x) : oneV 123 (x ++ [125]) = repF x := by
  rw [oneV_eq]
  show closed 125 4 (x ++ [125]) repF = _
  unfold closed
  rw [show x ++ [125] = x ++ 125 :: [] from rfl, cutAt_app h]
theorem rep_not (a b : Nat) : (125 : UInt8) ∉ decL a ++ 44 :: decL b := by
  have h1 := decL_not a 125 (by decide); have h2 := decL_not b 125 (by decide)
  simp [h1, h2]
theorem rep_not0 (a b : Nat) : (125 : UInt8) ∉ decL a ++ 44 :: 48 :: decL b := by
  have h1 := decL_not a 125 (by decide); have h2 := decL_not b 125 (by decide)
  simp [h1, h2]
/-- With a 0 ahead of a number. -/
theorem rep_zero (a b : Nat) : readL (123 :: ((decL a ++ 44 :: 48 :: decL b) ++ [125])) 0 0 = .error (4, 0) := by
  rw [readL_c0, if_neg (by decide), rep_one _ (rep_not0 a b)]
  unfold repF
  rw [repV_zero]
/-- Bounds that are none. -/
theorem rep_bad {a b : Nat} (h : b < a ∨ 255 < b) : readL (46 :: 123 :: ((decL a ++ 44 :: decL b) ++ [125])) 0 0 = .error (5, 1) := by
  rw [readL_c0, if_neg (by decide)]
  show (readL (123 :: ((decL a ++ 44 :: decL b) ++ [125])) (0 + 1) 0).map _ = _
  rw [readL_c0, if_neg (by decide), rep_one _ (rep_not a b)]
  unfold repF
  rw [repV_dec]
  simp only
  rw [if_pos (by omega)]
  rfl
/-- Bounds. -/
theorem rep_ok {a b : Nat} (h : a ≤ b) (hb : b ≤ 255) : readL (46 :: 123 :: ((decL a ++ 44 :: decL b) ++ [125])) 0 0 =
    .ok [{ kind := 1, at_ := 0, cls := rowB 0 255 }, { kind := 7, at_ := 1, lo := a, hi := b }, { kind := 10, at_ := (decL a ++ 44 :: decL b).length + 3 }] := by
  rw [readL_c0, if_neg (by decide)]
  show (readL (123 :: ((decL a ++ 44 :: decL b) ++ [125])) (0 + 1) 0).map _ = _
  rw [readL_c0, if_neg (by decide), rep_one _ (rep_not a b)]
  unfold repF
  rw [repV_dec]
  simp only
  rw [if_neg (by omega)]
  generalize decL a ++ 44 :: decL b = x
  simp only
  rw [readL_skip (x ++ [125]) _ (x.length + 1) (x.length + 1) (Nat.le_refl _) (by simp), List.drop_of_length_le (by simp), readL_nil]
  rw [show min a 256 = a by omega, show min b 256 = b by omega]
  simp [Except.map]
  omega
/-- The digits that a loop has put down, and what is left of the number. -/
def Digs (a n : Nat) (x : List UInt8) : Prop := (x = [] ∧ n = a) ∨ (x ≠ [] ∧ (if n = 0 then [] else decL n) ++ x = decL a)
theorem Digs.step {a n : Nat} {x : List UInt8} (h : Digs a n x) (hg : 0 < n ∨ x = []) : Digs a (n / 10) (digB (n % 10) :: x) := by
  right
  refine ⟨by simp, ?_⟩
  rcases h with ⟨rfl, rfl⟩ | ⟨hx, h⟩
  · by_cases hn : n < 10
    · rw [decL_small hn, if_pos (by omega), Nat.mod_eq_of_lt hn]; rfl
    · rw [decL_big hn, if_neg (by omega)]
  · have hn : 0 < n := hg.resolve_right hx
    rw [if_neg (by omega)] at h
    rw [← h]
    by_cases h10 : n < 10
    · rw [decL_small h10, if_pos (by omega), Nat.mod_eq_of_lt h10]; rfl
    · rw [decL_big h10, if_neg (by omega)]; simp
theorem Digs.done {a : Nat} {x : List UInt8} (h : Digs a 0 x) (hx : x ≠ []) : x = decL a := by
  rcases h with ⟨h, _⟩ | ⟨_, h⟩
  · exact absurd h hx
  · simpa using h
end Go.Proofs.YthiibpabdkkknaaDoor
