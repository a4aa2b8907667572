/- Spaces put in, and texts put together: the plain mathematics of LexSpaces and LexOn. -/
import Derived.Test.YtgehepiphdphjaaDoorLexLaws
namespace Go.Proofs.YtgehepiphdphjaaDoor
open Go
set_option linter.unusedVariables false

/-- Spaces ahead of a text. -/
theorem readL_gap (m : Nat) (x : List UInt8) (p : Nat) : readL (List.replicate m 32 ++ x) p 0 = shiftR (p + m) (readL x 0 0) := by
  rw [readL_spaces, ← readL_shift (p + m) x 0 0, Nat.zero_add]
/-- A text, spaces, another text. -/
theorem on_read {s : List UInt8} {a : List Tok} (h : readL s 0 0 = .ok a) (m : Nat) (t : List UInt8) :
    readL (s ++ (List.replicate m 32 ++ t)) 0 0 = (shiftR (s.length + m) (readL t 0 0)).map (a.dropLast ++ ·) := by
  rw [readL_app s 0 0 a _ (Nat.zero_le _) h, Nat.zero_add, readL_gap]
/-- Spaces ahead of a token. -/
theorem spaces_read {l : List UInt8} {r : List Tok} (h : readL l 0 0 = .ok r) {k : Nat} {t : Tok} (hk : r[k]? = some t) (m : Nat) :
    t.at_ ≤ l.length ∧ readL (l.take t.at_ ++ (List.replicate m 32 ++ l.drop t.at_)) 0 0 = .ok (r.take k ++ (r.drop k).map (Tok.shift m)) := by
  obtain ⟨_, h2, h3, h4⟩ := readL_split l 0 0 r (Nat.zero_le _) h k t hk
  rw [Nat.zero_add] at h2
  rw [Nat.sub_zero] at h3 h4
  refine ⟨h2, ?_⟩
  rw [readL_app (l.take t.at_) 0 0 _ _ (Nat.zero_le _) h3, Nat.zero_add, List.length_take, Nat.min_eq_left h2, readL_spaces, readL_shift m (l.drop t.at_) t.at_ 0, h4]
  show Except.ok _ = _
  simp
/-- Each token of it. -/
theorem spaces_at (r : List Tok) (k m i : Nat) (z : Tok) (hi : i < r.length) : (r.take k ++ (r.drop k).map (Tok.shift m)).getD i z = if k ≤ i then (r.getD i z).shift m else r.getD i z := by
  rw [List.getD_eq_getElem?_getD, List.getD_eq_getElem?_getD, List.getElem?_append]
  by_cases hk : k ≤ i
  · rw [if_pos hk, if_neg (by rw [List.length_take]; omega), List.length_take, Nat.min_eq_left (by omega), List.getElem?_map, List.getElem?_drop, show k + (i - k) = i by omega, List.getElem?_eq_getElem hi]; rfl
  · rw [if_neg hk, if_pos (by rw [List.length_take]; omega), List.getElem?_take, if_pos (by omega)]
theorem spaces_len (r : List Tok) (k m : Nat) : (r.take k ++ (r.drop k).map (Tok.shift m)).length = r.length := by
  rw [List.length_append, List.length_map, List.length_take, List.length_drop]; omega
/-- A byte's two hex digits. -/
def hexD (n : Nat) : UInt8 := if n < 10 then UInt8.ofNat (48 + n) else UInt8.ofNat (87 + n)
theorem hexD_val {n : Nat} (h : n < 16) : digV (hexD n) = some n := by
  have : ∀ n : Fin 16, digV (hexD n.1) = some n.1 := by decide
  exact this ⟨n, h⟩
theorem hexD_not {n : Nat} (h : n < 16) (c : UInt8) (hc : c = 44 ∨ c = 45 ∨ c = 62 ∨ c = 94) : hexD n ≠ c := by
  have : ∀ n : Fin 16, hexD n.1 ≠ 44 ∧ hexD n.1 ≠ 45 ∧ hexD n.1 ≠ 62 ∧ hexD n.1 ≠ 94 := by decide
  obtain ⟨h1, h2, h3, h4⟩ := this ⟨n, h⟩
  rcases hc with rfl | rfl | rfl | rfl <;> assumption
def hexB (a : Nat) : List UInt8 := [hexD (a / 16), hexD (a % 16)]
theorem hexB_val {a : Nat} (h : a < 256) : hexV (hexB a) = some a := by
  show (match digV (hexD (a / 16)), digV (hexD (a % 16)) with | some x, some y => some (16 * x + y) | _, _ => none) = some a
  rw [hexD_val (by omega), hexD_val (by omega)]
  simp only; congr 1; omega
theorem hexB_not {a : Nat} (h : a < 256) (c : UInt8) (hc : c = 44 ∨ c = 45 ∨ c = 62 ∨ c = 94) : c ∉ hexB a := by
  unfold hexB
  have h1 := hexD_not (n := a / 16) (by omega) c hc
  have h2 := hexD_not (n := a % 16) (by omega) c hc
  simp [Ne.symm h1, Ne.symm h2]
theorem itemV_one {a : Nat} (h : a < 256) : itemV (hexB a) = some (rowB a a) := by
  unfold itemV
  rw [cutAt_none.2 (hexB_not h 45 (by simp))]
  simp only [Option.getD_none, hexB_val h, if_pos (Nat.le_refl a)]
theorem itemV_row {a b : Nat} (h : a < 256) (hb : b < 256) : itemV (hexB a ++ 45 :: hexB b) = if a ≤ b then some (rowB a b) else none := by
  unfold itemV
  rw [cutAt_app (hexB_not h 45 (by simp))]
  simp only [Option.getD_some, hexB_val h, hexB_val hb]
theorem piecesA_cons (c x : UInt8) (l : List UInt8) : piecesA c (x :: l) = if x = c then ([], (piecesA c l).1 :: (piecesA c l).2) else (x :: (piecesA c l).1, (piecesA c l).2) := rfl
theorem piecesA_plain {c : UInt8} : ∀ {l : List UInt8}, c ∉ l → piecesA c l = (l, [])
  | [], _ => rfl
  | x :: l, h => by
    simp at h
    rw [piecesA_cons, if_neg (Ne.symm h.1), piecesA_plain h.2]
theorem piecesA_app {c : UInt8} : ∀ {l : List UInt8} (m : List UInt8), c ∉ l → piecesA c (l ++ c :: m) = (l, (piecesA c m).1 :: (piecesA c m).2)
  | [], m, _ => by show piecesA c (c :: m) = _; rw [piecesA_cons, if_pos rfl]
  | x :: l, m, h => by
    simp at h
    show piecesA c (x :: (l ++ c :: m)) = _
    rw [piecesA_cons, if_neg (Ne.symm h.1), piecesA_app m h.2]
theorem listV_one {a : Nat} (h : a < 256) : listV (hexB a) = some (rowB a a) := by
  unfold listV pieces
  rw [if_neg (by simp [hexB]), piecesA_plain (hexB_not h 44 (by simp))]
  simp [itemsV, itemV_one h]
theorem listV_row {a b : Nat} (h : a < 256) (hb : b < 256) : listV (hexB a ++ 45 :: hexB b) = if a ≤ b then some (rowB a b) else none := by
  unfold listV pieces
  rw [if_neg (by simp [hexB]), piecesA_plain (by
    have h1 := hexB_not h 44 (by simp); have h2 := hexB_not hb 44 (by simp)
    simp [h1, h2])]
  simp only [itemsV, itemV_row h hb]
  by_cases hab : a ≤ b
  · rw [if_pos hab]; simp
  · rw [if_neg hab]
theorem listV_three {a b : Nat} (h : a < 256) (hb : b < 256) : listV (hexB a ++ 44 :: (hexB b ++ 44 :: hexB a)) = some (rowB a a ||| rowB b b) := by
  unfold listV pieces
  rw [if_neg (by simp [hexB]), piecesA_app _ (hexB_not h 44 (by simp)), piecesA_app _ (hexB_not hb 44 (by simp)), piecesA_plain (hexB_not h 44 (by simp))]
  simp only [itemsV, itemV_one h, itemV_one hb]
  congr 1
  apply BitVec.eq_of_getLsbD_eq
  intro i hi
  simp only [BitVec.getLsbD_or, BitVec.getLsbD_zero, Bool.false_or]
  cases (rowB a a).getLsbD i <;> cases (rowB b b).getLsbD i <;> rfl
theorem hexB_head (a : Nat) (h : a < 256) (x : List UInt8) : (hexB a ++ x).head? ≠ some 94 := by
  have := hexD_not (n := a / 16) (by omega) 94 (by simp)
  simpa [hexB] using this
/-- The class of such a text. -/
theorem classV_plain {a : Nat} (h : a < 256) (x : List UInt8) : classV (hexB a ++ x) = listV (hexB a ++ x) := by
  unfold classV; rw [if_neg (hexB_head a h x)]
theorem classV_not (x : List UInt8) : classV (94 :: x) = (listV x).map (~~~ ·) := by
  unfold classV; rw [if_pos (show (94 :: x : List UInt8).head? = some 94 from rfl)]; rfl
end Go.Proofs.YtgehepiphdphjaaDoor
