/- The tokens of a text that is too deep: plain mathematics. -/
import Derived.Test.YtcgjmnhmhiddkaaGreatDoorM19
import Derived.Test.YtcgjmnhmhiddkaaGreatDoorM20
namespace Go.Proofs.YtcgjmnhmhiddkaaGreatDoor
open Go
set_option linter.unusedVariables false
set_option linter.unusedSimpArgs false

end Go.Proofs.YtcgjmnhmhiddkaaGreatDoor
/- A description's text is read to its tokens, and these are parsed to it: plain mathematics. -/
namespace Go.Proofs.YtcgjmnhmhiddkaaGreatDoor
open Go
set_option linter.unusedVariables false
set_option linter.unusedSimpArgs false

def tkOfT (t : Tok) : Tk := { kind := (t.kind : Int), at_ := (t.at_ : Int), lo := (t.lo : Int), hi := (t.hi : Int), cls := t.cls, text := t.text }
def bndT (lo hi : Int) : List UInt8 := repT lo.toNat hi.toNat
/-- A description's text. -/
def textN (l : List Nd) : List UInt8 := (sgsF clsT bndT l l.length ((l.length : Int) - 1) 0).flatten
def deepN (l : List Nd) : Nat := dpF l l.length ((l.length : Int) - 1) 0
end Go.Proofs.YtcgjmnhmhiddkaaGreatDoor
/- How deep a description's text is, counted in it: plain mathematics. -/
namespace Go.Proofs.YtcgjmnhmhiddkaaGreatDoor
open Go
set_option linter.unusedVariables false
set_option linter.unusedSimpArgs false

theorem clsT_no (c : BitVec 256) : NoBr (clsT c) := by
  unfold clsT NoBr
  split
  · exact ⟨by decide, by decide⟩
  · exact ⟨by simp, by simp⟩
theorem bndT_no (a b : Int) : NoBr (bndT a b) := by
  unfold bndT repT NoBr
  exact ⟨by simp, by simp⟩
/-- Counted over the pieces. -/
theorem deep_pieces (l : List Nd) : (sgsF clsT bndT l l.length ((l.length : Int) - 1) 0).foldl dstep (0, 0) = (0, (deepN l : Int)) := by
  rw [deep_told clsT_no bndT_no l l.length _ 0 0 0 (by omega)]
  unfold deepN
  congr 1; omega
/-- The program's machine tells the text. -/
theorem told_text {l : List Nd} (hf : Form l) : ∃ k t, ∀ n r, eachR clsT bndT l (n + k) (fun _ => false) (.nd ((l.length : Int) - 1) 0 :: r) = (eachR clsT bndT l n t r).map (sgsF clsT bndT l l.length ((l.length : Int) - 1) 0 ++ ·) := by
  obtain ⟨hpos, hok, _⟩ := hf
  obtain ⟨i, hi⟩ : ∃ i, l.length = i + 1 := ⟨l.length - 1, by omega⟩
  have e : (l.length : Int) - 1 = (i : Int) := by omega
  rw [e, hi]
  obtain ⟨k, hk⟩ := told_at (cT := clsT) (bT := bndT) l hok i (by omega) (fun _ => false) (fun _ _ _ => rfl) 0
  exact ⟨k, _, hk⟩
end Go.Proofs.YtcgjmnhmhiddkaaGreatDoor
/- A class' text: read as one token, and how long it is: plain mathematics. -/
namespace Go.Proofs.YtcgjmnhmhiddkaaGreatDoor
open Go
set_option linter.unusedVariables false
set_option linter.unusedSimpArgs false

/-- How many bytes below one a class has. -/
def cntU (c : BitVec 256) : Nat → Nat
  | 0 => 0
  | p + 1 => cntU c p + (if c.getLsbD p = true then 1 else 0)
theorem cntU_row (c : BitVec 256) (p : Nat) : ∀ k : Nat, (∀ j, p ≤ j → j < p + k → c.getLsbD j = true) → cntU c (p + k) = cntU c p + k
  | 0, _ => rfl
  | k + 1, h => by
    show cntU c (p + k) + (if c.getLsbD (p + k) = true then 1 else 0) = _
    rw [cntU_row c p k (fun j h1 h2 => h j h1 (by omega)), if_pos (h (p + k) (by omega) (by omega))]; omega
theorem rowT_len (a b : Nat) : (rowT a b).length = if a = b then 2 else 5 := by
  unfold rowT hexT; split <;> simp
def sumL : List (List UInt8) → Nat
  | [] => 0
  | x :: l => (x.length + 1) + sumL l
theorem joinC_len : ∀ (l : List (List UInt8)), l ≠ [] → (joinC l).length + 1 = sumL l
  | [], h => absurd rfl h
  | [x], _ => by simp [joinC, sumL]
  | x :: y :: l, _ => by
    have k := joinC_len (y :: l) (by simp)
    show (x ++ 44 :: joinC (y :: l)).length + 1 = (x.length + 1) + sumL (y :: l)
    rw [← k]; simp; omega
theorem sum_rows (c : BitVec 256) : ∀ (f p : Nat), p ≤ 256 → 256 ≤ p + f → sumL ((rowsF c f p).map fun r => rowT r.1 r.2) + 3 * cntU c p ≤ 3 * cntU c 256
  | 0, p, hp, hf => by
    have e : p = 256 := by omega
    subst e; show 0 + _ ≤ _; omega
  | f + 1, p, hp, hf => by
    unfold rowsF
    split
    · have e : p = 256 := by omega
      subst e; show 0 + _ ≤ _; omega
    split
    · rename_i h1 h2
      have k := sum_rows c f (p + 1) (by omega) (by omega)
      have e : cntU c (p + 1) = cntU c p := by
        show cntU c p + (if c.getLsbD p = true then 1 else 0) = _
        rw [h2]; simp
      rw [e] at k; exact k
    · rename_i h1 h2
      have k := lastF_ok c 256 p (by omega) (by omega) (by simpa using h2)
      generalize lastF c 256 p = q at k
      have r := sum_rows c f (q + 1) (by omega) (by omega)
      have e : cntU c (q + 1) = cntU c p + (q + 1 - p) := by
        have := cntU_row c p (q + 1 - p) (fun j h1 h2 => k.2.2.1 j h1 (by omega))
        rwa [show p + (q + 1 - p) = q + 1 by omega] at this
      rw [e] at r
      show ((rowT p q).length + 1) + sumL ((rowsF c f (q + 1)).map fun r => rowT r.1 r.2) + _ ≤ _
      have hl := rowT_len p q
      by_cases hpq : p = q
      · rw [if_pos hpq] at hl; omega
      · rw [if_neg hpq] at hl; omega
/-- It isn't longer than the text byte by byte. -/
theorem clsT_len (c : BitVec 256) : (clsT c).length ≤ max (1 + 3 * cntU c 256) 2 := by
  have s := sum_rows c 256 0 (by omega) (by omega)
  have hz : cntU c 0 = 0 := rfl
  rw [hz] at s
  generalize cntU c 256 = m at s
  unfold clsT
  split
  · show 1 ≤ _; omega
  · have hs : sumL (rowsT c) ≤ 3 * m := by unfold rowsT; omega
    by_cases h : rowsT c = []
    · rw [h]; show 2 ≤ _; omega
    · have := joinC_len _ h
      simp only [List.length_cons, List.length_append, List.length_nil]
      omega
end Go.Proofs.YtcgjmnhmhiddkaaGreatDoor
