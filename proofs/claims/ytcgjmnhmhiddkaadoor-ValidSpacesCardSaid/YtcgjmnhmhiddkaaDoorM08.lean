/- Tokens of a text: what follows for whole texts. -/
import Derived.Test.YtcgjmnhmhiddkaaDoorM04
import Derived.Test.YtcgjmnhmhiddkaaDoorM05
import Derived.Test.YtcgjmnhmhiddkaaDoorM07
namespace Go.Proofs.YtcgjmnhmhiddkaaDoor
open Go
set_option linter.unusedVariables false

/-- A token depends on its own bytes alone. -/
theorem closed_tok {c : UInt8} {e : Nat} {l : List UInt8} {f : List UInt8 → One} {t : Tok} {n : Nat} (hf : ∀ a t n, f a = .tok t n → n = a.length + 1) (h : closed c e l f = .tok t n) :
    n ≤ l.length ∧ 1 ≤ n ∧ l.getD (n - 1) 0 = c ∧ ∀ x, closed c e (l.take n ++ x) f = .tok t n := by
  unfold closed at h
  cases hc : cutAt c l with
  | none => rw [hc] at h; cases h
  | some p =>
    obtain ⟨a, b⟩ := p
    rw [hc] at h
    have hn := hf a t n h
    obtain ⟨h1, h2⟩ := cutAt_some hc
    subst h1; subst hn
    refine ⟨by simp, by omega, by simp, fun x => ?_⟩
    have e1 : (a ++ c :: b).take (a.length + 1) = a ++ [c] := by
      rw [show a ++ c :: b = (a ++ [c]) ++ b by simp, show a.length + 1 = (a ++ [c]).length by simp, List.take_left']
      rfl
    rw [e1, List.append_assoc]
    unfold closed
    rw [show a ++ ([c] ++ x) = a ++ c :: x by simp, cutAt_app h2]
    exact h
theorem closed_bad {c : UInt8} {e e' : Nat} {l : List UInt8} {f : List UInt8 → One} (h : closed c e l f = .bad e') (P : Nat → Prop) (he : P e) (hf : ∀ a e', f a = .bad e' → P e') : P e' := by
  unfold closed at h
  cases hc : cutAt c l with
  | none => rw [hc] at h; cases h; exact he
  | some p => rw [hc] at h; exact hf _ _ h
def clsF (a : List UInt8) : One := match classV a with
    | none => .bad 2
    | some s => .tok { kind := 1, at_ := 0, cls := s } (a.length + 1)
def txtF (a : List UInt8) : One := match textV a with
    | none => .bad 3
    | some t => .tok { kind := 2, at_ := 0, text := t } (a.length + 1)
def repF (a : List UInt8) : One := match repV a with
    | none => .bad 4
    | some (x, y) => if 255 < y ∨ y < x then .bad 5 else .tok { kind := 7, at_ := 0, lo := x, hi := y } (a.length + 1)
theorem clsF_tok (a : List UInt8) (t : Tok) (n : Nat) (h : clsF a = .tok t n) : n = a.length + 1 ∧ t.kind = 1 := by
  unfold clsF at h; split at h
  · cases h
  · cases h; exact ⟨rfl, rfl⟩
theorem txtF_tok (a : List UInt8) (t : Tok) (n : Nat) (h : txtF a = .tok t n) : n = a.length + 1 ∧ t.kind = 2 := by
  unfold txtF at h; split at h
  · cases h
  · cases h; exact ⟨rfl, rfl⟩
theorem repF_tok (a : List UInt8) (t : Tok) (n : Nat) (h : repF a = .tok t n) : n = a.length + 1 ∧ t.kind = 7 := by
  unfold repF at h; split at h
  · cases h
  · split at h
    · cases h
    · cases h; exact ⟨rfl, rfl⟩
theorem clsF_bad (a : List UInt8) (e : Nat) (h : clsF a = .bad e) : 1 ≤ e ∧ e ≤ 5 := by
  unfold clsF at h; split at h <;> cases h; decide
theorem txtF_bad (a : List UInt8) (e : Nat) (h : txtF a = .bad e) : 1 ≤ e ∧ e ≤ 5 := by
  unfold txtF at h; split at h <;> cases h; decide
theorem repF_bad (a : List UInt8) (e : Nat) (h : repF a = .bad e) : 1 ≤ e ∧ e ≤ 5 := by
  unfold repF at h; split at h
  · cases h; decide
  · split at h <;> cases h; decide
/-- The kind of a token of one byte. -/
def shortV (c : UInt8) : Option Tok :=
  if c = 46 then some { kind := 1, at_ := 0, cls := rowB 0 255 } else if c = 40 then some { kind := 3, at_ := 0 } else if c = 41 then some { kind := 4, at_ := 0 } else if c = 124 then some { kind := 5, at_ := 0 }
  else if c = 42 then some { kind := 6, at_ := 0 } else if c = 98 then some { kind := 8, at_ := 0 } else if c = 119 then some { kind := 9, at_ := 0 } else none
theorem oneV_eq (c : UInt8) (l : List UInt8) : oneV c l = match shortV c with
    | some t => .tok t 0
    | none => if c = 60 then closed 62 2 l clsF else if c = 34 then closed 34 3 l txtF else if c = 123 then closed 125 4 l repF else .bad 1 := by
  unfold oneV shortV
  by_cases h1 : c = 46
  · simp only [h1, if_true]
  by_cases h2 : c = 40
  · simp only [h2, if_true]; rfl
  by_cases h3 : c = 41
  · simp only [h3, if_true]; rfl
  by_cases h4 : c = 124
  · simp only [h4, if_true]; rfl
  by_cases h5 : c = 42
  · simp only [h5, if_true]; rfl
  by_cases h6 : c = 98
  · simp only [h6, if_true]; rfl
  by_cases h7 : c = 119
  · simp only [h7, if_true]; rfl
  simp only [h1, h2, h3, h4, h5, h6, h7, if_false]
  rfl
theorem readL_c0 (c : UInt8) (l : List UInt8) (p : Nat) : readL (c :: l) p 0 = if c = 32 then readL l (p + 1) 0 else match oneV c l with
    | .bad e => .error (e, p)
    | .tok t n => (readL l (p + 1) n).map fun r => { t with at_ := p } :: r := rfl
theorem readL_ne : ∀ (l : List UInt8) (p k : Nat), readL l p k ≠ .ok []
  | [], p, k => by rw [readL_nil]; intro h; cases h
  | c :: l, p, k + 1 => readL_ne l (p + 1) k
  | c :: l, p, 0 => by
    rw [readL_c0]
    split
    · exact readL_ne l (p + 1) 0
    · split
      · intro h; cases h
      · rename_i t n _
        cases readL l (p + 1) n with
        | error q => intro h; cases h
        | ok r => intro h; cases h
theorem short_kind {c : UInt8} {t : Tok} (h : shortV c = some t) : 1 ≤ t.kind ∧ t.kind ≤ 9 ∧ c.toNat < 128 := by
  unfold shortV at h
  repeat' (split at h; · cases h; rename_i e; subst e; decide)
  cases h
theorem oneV_tok {c : UInt8} {l : List UInt8} {t : Tok} {n : Nat} (h : oneV c l = .tok t n) :
    1 ≤ t.kind ∧ t.kind ≤ 9 ∧ n ≤ l.length ∧ (1 ≤ n → (l.getD (n - 1) 0).toNat < 128) ∧ c.toNat < 128 ∧ ∀ x, oneV c (l.take n ++ x) = .tok t n := by
  simp only [oneV_eq] at h ⊢
  cases hs : shortV c with
  | some t' =>
    rw [hs] at h; cases h
    obtain ⟨h1, h2, h3⟩ := short_kind hs
    exact ⟨h1, h2, by omega, by omega, h3, fun x => rfl⟩
  | none =>
    rw [hs] at h
    simp only at h ⊢
    by_cases e1 : c = 60
    · subst e1
      simp only [if_true] at h ⊢
      obtain ⟨g1, g0, g2, g3⟩ := closed_tok (fun a t n h => (clsF_tok a t n h).1) h
      unfold closed at h
      split at h
      · cases h
      · have := (clsF_tok _ _ _ h).2; exact ⟨by omega, by omega, g1, fun _ => by rw [g2]; decide, by decide, g3⟩
    · simp only [e1, if_false] at h ⊢
      by_cases e2 : c = 34
      · subst e2
        simp only [if_true] at h ⊢
        obtain ⟨g1, g0, g2, g3⟩ := closed_tok (fun a t n h => (txtF_tok a t n h).1) h
        unfold closed at h
        split at h
        · cases h
        · have := (txtF_tok _ _ _ h).2; exact ⟨by omega, by omega, g1, fun _ => by rw [g2]; decide, by decide, g3⟩
      · simp only [e2, if_false] at h ⊢
        by_cases e3 : c = 123
        · subst e3
          simp only [if_true] at h ⊢
          obtain ⟨g1, g0, g2, g3⟩ := closed_tok (fun a t n h => (repF_tok a t n h).1) h
          unfold closed at h
          split at h
          · cases h
          · have := (repF_tok _ _ _ h).2; exact ⟨by omega, by omega, g1, fun _ => by rw [g2]; decide, by decide, g3⟩
        · simp only [e3, if_false] at h; cases h
theorem oneV_bad {c : UInt8} {l : List UInt8} {e : Nat} (h : oneV c l = .bad e) : 1 ≤ e ∧ e ≤ 5 := by
  rw [oneV_eq] at h
  cases hs : shortV c with
  | some t' => rw [hs] at h; cases h
  | none =>
    rw [hs] at h; simp only at h
    split at h
    · exact closed_bad h (fun e => 1 ≤ e ∧ e ≤ 5) (by decide) clsF_bad
    · split at h
      · exact closed_bad h (fun e => 1 ≤ e ∧ e ≤ 5) (by decide) txtF_bad
      · split at h
        · exact closed_bad h (fun e => 1 ≤ e ∧ e ≤ 5) (by decide) repF_bad
        · cases h; decide
theorem oneV_app {c : UInt8} {l : List UInt8} {t : Tok} {n : Nat} (h : oneV c l = .tok t n) (x : List UInt8) : oneV c (l ++ x) = .tok t n := by
  have := (oneV_tok h).2.2.2.2.2 (l.drop n ++ x)
  rwa [← List.append_assoc, List.take_append_drop] at this
theorem oneV_take {c : UInt8} {l : List UInt8} {t : Tok} {n : Nat} (h : oneV c l = .tok t n) {m : Nat} (hm : n ≤ m) : oneV c (l.take m) = .tok t n := by
  have := (oneV_tok h).2.2.2.2.2 ((l.take m).drop n)
  rw [show l.take n = (l.take m).take n by rw [List.take_take]; congr 1; omega, List.take_append_drop] at this
  exact this
/-- A text with more behind it. -/
theorem readL_app : ∀ (l : List UInt8) (p k : Nat) (r : List Tok) (x : List UInt8), k ≤ l.length → readL l p k = .ok r → readL (l ++ x) p k = (readL x (p + l.length) 0).map (r.dropLast ++ ·)
  | [], p, k, r, x, hk, h => by
    obtain rfl : k = 0 := by simpa using hk
    cases h
    show readL x p 0 = _
    simp
    cases readL x p 0 <;> rfl
  | c :: l, p, k + 1, r, x, hk, h => by
    show readL (l ++ x) (p + 1) k = _
    rw [readL_app l (p + 1) k r x (by simpa using hk) h]
    simp only [List.length_cons]; rw [show p + 1 + l.length = p + (l.length + 1) by omega]
  | c :: l, p, 0, r, x, hk, h => by
    rw [readL_c0] at h
    show readL (c :: (l ++ x)) p 0 = _
    rw [readL_c0]
    by_cases e : c = 32
    · rw [if_pos e] at h ⊢
      rw [readL_app l (p + 1) 0 r x (by omega) h]
      simp only [List.length_cons]; rw [show p + 1 + l.length = p + (l.length + 1) by omega]
    · rw [if_neg e] at h ⊢
      cases ho : oneV c l with
      | bad e => rw [ho] at h; cases h
      | tok t n =>
        rw [ho] at h; simp only at h
        rw [oneV_app ho]
        simp only
        cases hr : readL l (p + 1) n with
        | error q => rw [hr] at h; cases h
        | ok r' =>
          rw [hr] at h; cases h
          rw [readL_app l (p + 1) n r' x (oneV_tok ho).2.2.1 hr]
          simp only [List.length_cons]; rw [show p + 1 + l.length = p + (l.length + 1) by omega]
          have hne : r' ≠ [] := by rintro rfl; exact readL_ne _ _ _ hr
          rw [List.dropLast_cons_of_ne_nil hne]
          cases readL x (p + (l.length + 1)) 0 <;> rfl
/-- All places further on. -/
def Tok.shift (d : Nat) (t : Tok) : Tok := { t with at_ := t.at_ + d }
def shiftR (d : Nat) : Except (Nat × Nat) (List Tok) → Except (Nat × Nat) (List Tok)
  | .ok r => .ok (r.map (Tok.shift d))
  | .error (e, q) => .error (e, q + d)
theorem readL_shift (d : Nat) : ∀ (l : List UInt8) (p k : Nat), readL l (p + d) k = shiftR d (readL l p k)
  | [], p, k => by rw [readL_nil, readL_nil]; rfl
  | c :: l, p, k + 1 => by
    show readL l (p + d + 1) k = shiftR d (readL l (p + 1) k)
    rw [← readL_shift d l (p + 1) k]; congr 1; omega
  | c :: l, p, 0 => by
    rw [readL_c0, readL_c0]
    by_cases e : c = 32
    · rw [if_pos e, if_pos e, ← readL_shift d l (p + 1) 0]; congr 1; omega
    · rw [if_neg e, if_neg e]
      cases oneV c l with
      | bad e => rfl
      | tok t n =>
        simp only
        rw [show p + d + 1 = p + 1 + d by omega, readL_shift d l (p + 1) n]
        cases readL l (p + 1) n with
        | error q => rfl
        | ok r => rfl
theorem readL_spaces : ∀ (m : Nat) (x : List UInt8) (p : Nat), readL (List.replicate m 32 ++ x) p 0 = readL x (p + m) 0
  | 0, x, p => by simp
  | m + 1, x, p => by
    rw [List.replicate_succ]
    show readL (32 :: (List.replicate m 32 ++ x)) p 0 = _
    rw [readL_c0]
    rw [if_pos rfl, readL_spaces m x (p + 1)]; congr 1; omega
/-- What a read text is. -/
structure Whole (l : List UInt8) (p k : Nat) (r : List Tok) : Prop where
  ne : r ≠ []
  last : r.getLast? = some { kind := 10, at_ := p + l.length }
  low : ∀ t ∈ r, p + k ≤ t.at_
  kinds : ∀ t ∈ r.dropLast, 1 ≤ t.kind ∧ t.kind ≤ 9 ∧ t.at_ < p + l.length ∧ l.getD (t.at_ - p) 0 ≠ 32
  rise : r.Pairwise (fun a b => a.at_ < b.at_)
  gap : ∀ t, r.head? = some t → ∀ i, k ≤ i → p + i < t.at_ → l.getD i 0 = 32
theorem readL_whole : ∀ (l : List UInt8) (p k : Nat) (r : List Tok), k ≤ l.length → readL l p k = .ok r → Whole l p k r
  | [], p, k, r, hk, h => by
    obtain rfl : k = 0 := by simpa using hk
    rw [readL_nil] at h; cases h
    exact ⟨by simp, by simp, by simp, by simp, by simp, by intro t ht i _ hi; simp at ht; subst ht; simp at hi; omega⟩
  | c :: l, p, k + 1, r, hk, h => by
    have w := readL_whole l (p + 1) k r (by simpa using hk) h
    refine ⟨w.ne, by rw [w.last]; simp; omega, fun t ht => by have := w.low t ht; omega, fun t ht => ?_, w.rise, fun t ht i hi h2 => ?_⟩
    · obtain ⟨a, b, c', d⟩ := w.kinds t ht
      have hl := w.low t (List.dropLast_subset _ ht)
      refine ⟨a, b, by simp; omega, ?_⟩
      rw [show t.at_ - p = (t.at_ - (p + 1)) + 1 by omega]; simpa using d
    · obtain ⟨j, rfl⟩ : ∃ j, i = j + 1 := ⟨i - 1, by omega⟩
      have := w.gap t ht j (by omega) (by omega)
      simpa using this
  | c :: l, p, 0, r, hk, h => by
    rw [readL_c0] at h
    by_cases e : c = 32
    · rw [if_pos e] at h
      have w := readL_whole l (p + 1) 0 r (by omega) h
      refine ⟨w.ne, by rw [w.last]; simp; omega, fun t ht => by have := w.low t ht; omega, fun t ht => ?_, w.rise, fun t ht i hi h2 => ?_⟩
      · obtain ⟨a, b, c', d⟩ := w.kinds t ht
        have hl := w.low t (List.dropLast_subset _ ht)
        refine ⟨a, b, by simp; omega, ?_⟩
        rw [show t.at_ - p = (t.at_ - (p + 1)) + 1 by omega]; simpa using d
      · cases i with
        | zero => simpa using e
        | succ j => have := w.gap t ht j (by omega) (by omega); simpa using this
    · rw [if_neg e] at h
      cases ho : oneV c l with
      | bad e => rw [ho] at h; cases h
      | tok t n =>
        rw [ho] at h; simp only at h
        cases hr : readL l (p + 1) n with
        | error q => rw [hr] at h; cases h
        | ok r' =>
          rw [hr] at h; cases h
          obtain ⟨o1, o2, o3, _, _, _⟩ := oneV_tok ho
          have w := readL_whole l (p + 1) n r' o3 hr
          refine ⟨by simp, ?_, fun u hu => ?_, fun u hu => ?_, ?_, fun u hu i hi h2 => ?_⟩
          · have := w.last
            rw [List.getLast?_cons, this]; simp; omega
          · rcases List.mem_cons.1 hu with rfl | hu
            · exact Nat.le_refl _
            · have := w.low u hu; omega
          · rw [List.dropLast_cons_of_ne_nil w.ne] at hu
            rcases List.mem_cons.1 hu with rfl | hu
            · exact ⟨o1, o2, by simp, by simpa using e⟩
            · obtain ⟨a, b, c', d⟩ := w.kinds u hu
              have hl := w.low u (List.dropLast_subset _ hu)
              refine ⟨a, b, by simp; omega, ?_⟩
              rw [show u.at_ - p = (u.at_ - (p + 1)) + 1 by omega]; simpa using d
          · refine List.pairwise_cons.2 ⟨fun u hu => ?_, w.rise⟩
            have := w.low u hu; show p < u.at_; omega
          · simp at hu; subst hu; simp at h2; omega
/-- A fault: what stands ahead is read, and the fault is that of the text from there on. -/
theorem readL_fault : ∀ (l : List UInt8) (p k e q : Nat), k ≤ l.length → readL l p k = .error (e, q) →
    p + k ≤ q ∧ q < p + l.length ∧ l.getD (q - p) 0 ≠ 32 ∧ (1 ≤ e ∧ e ≤ 5) ∧ (∃ r, readL (l.take (q - p)) p k = .ok r) ∧ readL (l.drop (q - p)) q 0 = .error (e, q)
  | [], p, k, e, q, hk, h => by rw [readL_nil] at h; cases h
  | c :: l, p, k + 1, e, q, hk, h => by
    obtain ⟨h1, h2, h3, h4, ⟨r, h5⟩, h6⟩ := readL_fault l (p + 1) k e q (by simpa using hk) h
    rw [show q - p = (q - (p + 1)) + 1 by omega]
    exact ⟨by omega, by simp; omega, by simpa using h3, h4, ⟨r, by rw [List.take_succ_cons]; exact h5⟩, by simpa using h6⟩
  | c :: l, p, 0, e, q, hk, h => by
    have h0 := h
    rw [readL_c0] at h
    by_cases e1 : c = 32
    · rw [if_pos e1] at h
      obtain ⟨h1, h2, h3, h4, ⟨r, h5⟩, h6⟩ := readL_fault l (p + 1) 0 e q (by omega) h
      rw [show q - p = (q - (p + 1)) + 1 by omega]
      exact ⟨by omega, by simp; omega, by simpa using h3, h4, ⟨r, by rw [List.take_succ_cons]; rw [readL_c0, if_pos e1]; exact h5⟩, by simpa using h6⟩
    · rw [if_neg e1] at h
      cases ho : oneV c l with
      | bad e2 =>
        rw [ho] at h; cases h
        refine ⟨by omega, by simp, by simpa using e1, oneV_bad ho, ⟨_, by simp [readL_nil]; rfl⟩, by simpa using h0⟩
      | tok t n =>
        rw [ho] at h; simp only at h
        cases hr : readL l (p + 1) n with
        | ok r' => rw [hr] at h; cases h
        | error z =>
          rw [hr] at h; cases h
          obtain ⟨o1, o2, o3, _, _, _⟩ := oneV_tok ho
          obtain ⟨h1, h2, h3, h4, ⟨r, h5⟩, h6⟩ := readL_fault l (p + 1) n e q o3 hr
          rw [show q - p = (q - (p + 1)) + 1 by omega]
          refine ⟨by omega, by simp; omega, by simpa using h3, h4, ⟨{ t with at_ := p } :: r, ?_⟩, by simpa using h6⟩
          rw [List.take_succ_cons]; rw [readL_c0, if_neg e1, oneV_take ho (by omega)]
          simp only; rw [h5]; rfl
end Go.Proofs.YtcgjmnhmhiddkaaDoor
/- Descriptions as text: the machine that tells the pieces, and what it tells: plain mathematics. -/
namespace Go.Proofs.YtcgjmnhmhiddkaaDoor
open Go
set_option linter.unusedVariables false
set_option linter.unusedSimpArgs false

section
/- cT: a class' text; bT: a repeat's bounds. -/
variable (cT : BitVec 256 → List UInt8) (bT : Int → Int → List UInt8)
variable {cT bT}
end
end Go.Proofs.YtcgjmnhmhiddkaaDoor
/- The tokens of a description's text are parsed to it: plain mathematics. -/
namespace Go.Proofs.YtcgjmnhmhiddkaaDoor
open Go
set_option linter.unusedVariables false
set_option linter.unusedSimpArgs false

end Go.Proofs.YtcgjmnhmhiddkaaDoor
/- How deep a text is, counted over its pieces, and over its bytes: plain mathematics. -/
namespace Go.Proofs.YtcgjmnhmhiddkaaDoor
open Go
set_option linter.unusedVariables false
set_option linter.unusedSimpArgs false

section
variable {cT : BitVec 256 → List UInt8} {bT : Int → Int → List UInt8}
end

end Go.Proofs.YtcgjmnhmhiddkaaDoor
