/- Tokens of a text: what follows for whole texts. -/
import Derived.Test.YtcgjmnhmhiddkaaGreatDoorM03
import Derived.Test.YtcgjmnhmhiddkaaGreatDoorM04
import Derived.Test.YtcgjmnhmhiddkaaGreatDoorM08
namespace Go.Proofs.YtcgjmnhmhiddkaaGreatDoor
open Go
set_option linter.unusedVariables false
theorem closed_tok {c : UInt8} {e : Nat} {l : List UInt8} {f : List UInt8 → One} {t : Tok} {n : Nat} (hf : ∀ a t n, f a = .tok t n → n = a.length + 1) (h : closed c e l f = .tok t n) :
    n ≤ l.length ∧ 1 ≤ n ∧ l.getD (n - 1) 0 = c ∧ ∀ x, closed c e (l.take n ++ x) f = .tok t n := by
  unfold closed at h
  cases hc : cutAt c l with
  | none => rw [hc] at h; cases h
  | some p =>
    obtain ⟨a, b⟩ := p
    rw [hc] at h
    have hn := hf a t n h
    obtain ⟨h1, h2⟩ := cutAt_some hc
    subst h1; subst hn
    refine ⟨by simp, by omega, by simp, fun x => ?_⟩
    have e1 : (a ++ c :: b).take (a.length + 1) = a ++ [c] := by
      rw [show a ++ c :: b = (a ++ [c]) ++ b by simp, show a.length + 1 = (a ++ [c]).length by simp, List.take_left']
      rfl
    rw [e1, List.append_assoc]
    unfold closed
    rw [show a ++ ([c] ++ x) = a ++ c :: x by simp, cutAt_app h2]
    exact h
theorem closed_bad {c : UInt8} {e e' : Nat} {l : List UInt8} {f : List UInt8 → One} (h : closed c e l f = .bad e') (P : Nat → Prop) (he : P e) (hf : ∀ a e', f a = .bad e' → P e') : P e' := by
  unfold closed at h
  cases hc : cutAt c l with
  | none => rw [hc] at h; cases h; exact he
  | some p => rw [hc] at h; exact hf _ _ h
def clsF (a : List UInt8) : One := match classV a with
    | none => .bad 2
    | some s => .tok { kind := 1, at_ := 0, cls := s } (a.length + 1)
def txtF (a : List UInt8) : One := match textV a with
    | none => .bad 3
    | some t => .tok { kind := 2, at_ := 0, text := t } (a.length + 1)
def repF (a : List UInt8) : One := match repV a with
    | none => .bad 4
    | some (x, y) => if 255 < y ∨ y < x then .bad 5 else .tok { kind := 7, at_ := 0, lo := x, hi := y } (a.length + 1)
theorem clsF_tok (a : List UInt8) (t : Tok) (n : Nat) (h : clsF a = .tok t n) : n = a.length + 1 ∧ t.kind = 1 := by
  unfold clsF at h; split at h
  · cases h
  · cases h; exact ⟨rfl, rfl⟩
theorem txtF_tok (a : List UInt8) (t : Tok) (n : Nat) (h : txtF a = .tok t n) : n = a.length + 1 ∧ t.kind = 2 := by
  unfold txtF at h; split at h
  · cases h
  · cases h; exact ⟨rfl, rfl⟩
theorem repF_tok (a : List UInt8) (t : Tok) (n : Nat) (h : repF a = .tok t n) : n = a.length + 1 ∧ t.kind = 7 := by
  unfold repF at h; split at h
  · cases h
  · split at h
    · cases h
    · cases h; exact ⟨rfl, rfl⟩
theorem clsF_bad (a : List UInt8) (e : Nat) (h : clsF a = .bad e) : 1 ≤ e ∧ e ≤ 5 := by
  unfold clsF at h; split at h <;> cases h; decide
theorem txtF_bad (a : List UInt8) (e : Nat) (h : txtF a = .bad e) : 1 ≤ e ∧ e ≤ 5 := by
  unfold txtF at h; split at h <;> cases h; decide
theorem repF_bad (a : List UInt8) (e : Nat) (h : repF a = .bad e) : 1 ≤ e ∧ e ≤ 5 := by
  unfold repF at h; split at h
  · cases h; decide
  · split at h <;> cases h; decide
def shortV (c : UInt8) : Option Tok :=
  if c = 46 then some { kind := 1, at_ := 0, cls := rowB 0 255 } else if c = 40 then some { kind := 3, at_ := 0 } else if c = 41 then some { kind := 4, at_ := 0 } else if c = 124 then some { kind := 5, at_ := 0 }
  else if c = 42 then some { kind := 6, at_ := 0 } else if c = 98 then some { kind := 8, at_ := 0 } else if c = 119 then some { kind := 9, at_ := 0 } else none
theorem oneV_eq (c : UInt8) (l : List UInt8) : oneV c l = match shortV c with
    | some t => .tok t 0
    | none => if c = 60 then closed 62 2 l clsF else if c = 34 then closed 34 3 l txtF else if c = 123 then closed 125 4 l repF else .bad 1 := by
  unfold oneV shortV
  by_cases h1 : c = 46
  · simp only [h1, if_true]
  by_cases h2 : c = 40
  · simp only [h2, if_true]; rfl
  by_cases h3 : c = 41
  · simp only [h3, if_true]; rfl
  by_cases h4 : c = 124
  · simp only [h4, if_true]; rfl
  by_cases h5 : c = 42
  · simp only [h5, if_true]; rfl
  by_cases h6 : c = 98
  · simp only [h6, if_true]; rfl
  by_cases h7 : c = 119
  · simp only [h7, if_true]; rfl
  simp only [h1, h2, h3, h4, h5, h6, h7, if_false]
  rfl
theorem readL_c0 (c : UInt8) (l : List UInt8) (p : Nat) : readL (c :: l) p 0 = if c = 32 then readL l (p + 1) 0 else match oneV c l with
    | .bad e => .error (e, p)
    | .tok t n => (readL l (p + 1) n).map fun r => { t with at_ := p } :: r := rfl
theorem short_kind {c : UInt8} {t : Tok} (h : shortV c = some t) : 1 ≤ t.kind ∧ t.kind ≤ 9 ∧ c.toNat < 128 := by
  unfold shortV at h
  repeat' (split at h; · cases h; rename_i e; subst e; decide)
  cases h
theorem oneV_tok {c : UInt8} {l : List UInt8} {t : Tok} {n : Nat} (h : oneV c l = .tok t n) :
    1 ≤ t.kind ∧ t.kind ≤ 9 ∧ n ≤ l.length ∧ (1 ≤ n → (l.getD (n - 1) 0).toNat < 128) ∧ c.toNat < 128 ∧ ∀ x, oneV c (l.take n ++ x) = .tok t n := by
  simp only [oneV_eq] at h ⊢
  cases hs : shortV c with
  | some t' =>
    rw [hs] at h; cases h
    obtain ⟨h1, h2, h3⟩ := short_kind hs
    exact ⟨h1, h2, by omega, by omega, h3, fun x => rfl⟩
  | none =>
    rw [hs] at h
    simp only at h ⊢
    by_cases e1 : c = 60
    · subst e1
      simp only [if_true] at h ⊢
      obtain ⟨g1, g0, g2, g3⟩ := closed_tok (fun a t n h => (clsF_tok a t n h).1) h
      unfold closed at h
      split at h
      · cases h
      · have := (clsF_tok _ _ _ h).2; exact ⟨by omega, by omega, g1, fun _ => by rw [g2]; decide, by decide, g3⟩
    · simp only [e1, if_false] at h ⊢
      by_cases e2 : c = 34
      · subst e2
        simp only [if_true] at h ⊢
        obtain ⟨g1, g0, g2, g3⟩ := closed_tok (fun a t n h => (txtF_tok a t n h).1) h
        unfold closed at h
        split at h
        · cases h
        · have := (txtF_tok _ _ _ h).2; exact ⟨by omega, by omega, g1, fun _ => by rw [g2]; decide, by decide, g3⟩
      · simp only [e2, if_false] at h ⊢
        by_cases e3 : c = 123
        · subst e3
          simp only [if_true] at h ⊢
          obtain ⟨g1, g0, g2, g3⟩ := closed_tok (fun a t n h => (repF_tok a t n h).1) h
          unfold closed at h
          split at h
          · cases h
          · have := (repF_tok _ _ _ h).2; exact ⟨by omega, by omega, g1, fun _ => by rw [g2]; decide, by decide, g3⟩
        · simp only [e3, if_false] at h; cases h
theorem oneV_bad {c : UInt8} {l : List UInt8} {e : Nat} (h : oneV c l = .bad e) : 1 ≤ e ∧ e ≤ 5 := by
  rw [oneV_eq] at h
  cases hs : shortV c with
  | some t' => rw [hs] at h; cases h
  | none =>
    rw [hs] at h; simp only at h
    split at h
    · exact closed_bad h (fun e => 1 ≤ e ∧ e ≤ 5) (by decide) clsF_bad
    · split at h
      · exact closed_bad h (fun e => 1 ≤ e ∧ e ≤ 5) (by decide) txtF_bad
      · split at h
        · exact closed_bad h (fun e => 1 ≤ e ∧ e ≤ 5) (by decide) repF_bad
        · cases h; decide
theorem oneV_take {c : UInt8} {l : List UInt8} {t : Tok} {n : Nat} (h : oneV c l = .tok t n) {m : Nat} (hm : n ≤ m) : oneV c (l.take m) = .tok t n := by
  have := (oneV_tok h).2.2.2.2.2 ((l.take m).drop n)
  rw [show l.take n = (l.take m).take n by rw [List.take_take]; congr 1; omega, List.take_append_drop] at this
  exact this
structure Whole (l : List UInt8) (p k : Nat) (r : List Tok) : Prop where
  ne : r ≠ []
  last : r.getLast? = some { kind := 10, at_ := p + l.length }
  low : ∀ t ∈ r, p + k ≤ t.at_
  kinds : ∀ t ∈ r.dropLast, 1 ≤ t.kind ∧ t.kind ≤ 9 ∧ t.at_ < p + l.length ∧ l.getD (t.at_ - p) 0 ≠ 32
  rise : r.Pairwise (fun a b => a.at_ < b.at_)
  gap : ∀ t, r.head? = some t → ∀ i, k ≤ i → p + i < t.at_ → l.getD i 0 = 32
theorem readL_whole : ∀ (l : List UInt8) (p k : Nat) (r : List Tok), k ≤ l.length → readL l p k = .ok r → Whole l p k r
  | [], p, k, r, hk, h => by
    obtain rfl : k = 0 := by simpa using hk
    rw [readL_nil] at h; cases h
    exact ⟨by simp, by simp, by simp, by simp, by simp, by intro t ht i _ hi; simp at ht; subst ht; simp at hi; omega⟩
  | c :: l, p, k + 1, r, hk, h => by
    have w := readL_whole l (p + 1) k r (by simpa using hk) h
    refine ⟨w.ne, by rw [w.last]; simp; omega, fun t ht => by have := w.low t ht; omega, fun t ht => ?_, w.rise, fun t ht i hi h2 => ?_⟩
    · obtain ⟨a, b, c', d⟩ := w.kinds t ht
      have hl := w.low t (List.dropLast_subset _ ht)
      refine ⟨a, b, by simp; omega, ?_⟩
      rw [show t.at_ - p = (t.at_ - (p + 1)) + 1 by omega]; simpa using d
    · obtain ⟨j, rfl⟩ : ∃ j, i = j + 1 := ⟨i - 1, by omega⟩
      have := w.gap t ht j (by omega) (by omega)
      simpa using this
  | c :: l, p, 0, r, hk, h => by
    rw [readL_c0] at h
    by_cases e : c = 32
    · rw [if_pos e] at h
      have w := readL_whole l (p + 1) 0 r (by omega) h
      refine ⟨w.ne, by rw [w.last]; simp; omega, fun t ht => by have := w.low t ht; omega, fun t ht => ?_, w.rise, fun t ht i hi h2 => ?_⟩
      · obtain ⟨a, b, c', d⟩ := w.kinds t ht
        have hl := w.low t (List.dropLast_subset _ ht)
        refine ⟨a, b, by simp; omega, ?_⟩
        rw [show t.at_ - p = (t.at_ - (p + 1)) + 1 by omega]; simpa using d
      · cases i with
        | zero => simpa using e
        | succ j => have := w.gap t ht j (by omega) (by omega); simpa using this
    · rw [if_neg e] at h
      cases ho : oneV c l with
      | bad e => rw [ho] at h; cases h
      | tok t n =>
        rw [ho] at h; simp only at h
        cases hr : readL l (p + 1) n with
        | error q => rw [hr] at h; cases h
        | ok r' =>
          rw [hr] at h; cases h
          obtain ⟨o1, o2, o3, _, _, _⟩ := oneV_tok ho
          have w := readL_whole l (p + 1) n r' o3 hr
          refine ⟨by simp, ?_, fun u hu => ?_, fun u hu => ?_, ?_, fun u hu i hi h2 => ?_⟩
          · have := w.last
            rw [List.getLast?_cons, this]; simp; omega
          · rcases List.mem_cons.1 hu with rfl | hu
            · exact Nat.le_refl _
            · have := w.low u hu; omega
          · rw [List.dropLast_cons_of_ne_nil w.ne] at hu
            rcases List.mem_cons.1 hu with rfl | hu
            · exact ⟨o1, o2, by simp, by simpa using e⟩
            · obtain ⟨a, b, c', d⟩ := w.kinds u hu
              have hl := w.low u (List.dropLast_subset _ hu)
              refine ⟨a, b, by simp; omega, ?_⟩
              rw [show u.at_ - p = (u.at_ - (p + 1)) + 1 by omega]; simpa using d
          · refine List.pairwise_cons.2 ⟨fun u hu => ?_, w.rise⟩
            have := w.low u hu; show p < u.at_; omega
          · simp at hu; subst hu; simp at h2; omega
theorem readL_fault : ∀ (l : List UInt8) (p k e q : Nat), k ≤ l.length → readL l p k = .error (e, q) →
    p + k ≤ q ∧ q < p + l.length ∧ l.getD (q - p) 0 ≠ 32 ∧ (1 ≤ e ∧ e ≤ 5) ∧ (∃ r, readL (l.take (q - p)) p k = .ok r) ∧ readL (l.drop (q - p)) q 0 = .error (e, q)
  | [], p, k, e, q, hk, h => by rw [readL_nil] at h; cases h
  | c :: l, p, k + 1, e, q, hk, h => by
    obtain ⟨h1, h2, h3, h4, ⟨r, h5⟩, h6⟩ := readL_fault l (p + 1) k e q (by simpa using hk) h
    rw [show q - p = (q - (p + 1)) + 1 by omega]
    exact ⟨by omega, by simp; omega, by simpa using h3, h4, ⟨r, by rw [List.take_succ_cons]; exact h5⟩, by simpa using h6⟩
  | c :: l, p, 0, e, q, hk, h => by
    have h0 := h
    rw [readL_c0] at h
    by_cases e1 : c = 32
    · rw [if_pos e1] at h
      obtain ⟨h1, h2, h3, h4, ⟨r, h5⟩, h6⟩ := readL_fault l (p + 1) 0 e q (by omega) h
      rw [show q - p = (q - (p + 1)) + 1 by omega]
      exact ⟨by omega, by simp; omega, by simpa using h3, h4, ⟨r, by rw [List.take_succ_cons]; rw [readL_c0, if_pos e1]; exact h5⟩, by simpa using h6⟩
    · rw [if_neg e1] at h
      cases ho : oneV c l with
      | bad e2 =>
        rw [ho] at h; cases h
        refine ⟨by omega, by simp, by simpa using e1, oneV_bad ho, ⟨_, by simp [readL_nil]; rfl⟩, by simpa using h0⟩
      | tok t n =>
        rw [ho] at h; simp only at h
        cases hr : readL l (p + 1) n with
        | ok r' => rw [hr] at h; cases h
        | error z =>
          rw [hr] at h; cases h
          obtain ⟨o1, o2, o3, _, _, _⟩ := oneV_tok ho
          obtain ⟨h1, h2, h3, h4, ⟨r, h5⟩, h6⟩ := readL_fault l (p + 1) n e q o3 hr
          rw [show q - p = (q - (p + 1)) + 1 by omega]
          refine ⟨by omega, by simp; omega, by simpa using h3, h4, ⟨{ t with at_ := p } :: r, ?_⟩, by simpa using h6⟩
          rw [List.take_succ_cons]; rw [readL_c0, if_neg e1, oneV_take ho (by omega)]
          simp only; rw [h5]; rfl
set_option linter.unusedSimpArgs false
def inBy (l : List UInt8) (i a b : Nat) : Bool := match l[i]? with
  | none => false
  | some c => decide (a ≤ c.toNat) && decide (c.toNat ≤ b)
def nextU (l : List UInt8) (i : Nat) : Option Nat :=
  let c := (l.getD i 0).toNat
  if c < 128 then some 1
  else if (194 ≤ c ∧ c ≤ 223) ∧ inBy l (i + 1) 128 191 = true then some 2
  else if c = 224 ∧ inBy l (i + 1) 160 191 = true ∧ inBy l (i + 2) 128 191 = true then some 3
  else if ((225 ≤ c ∧ c ≤ 236) ∨ c = 238 ∨ c = 239) ∧ inBy l (i + 1) 128 191 = true ∧ inBy l (i + 2) 128 191 = true then some 3
  else if c = 237 ∧ inBy l (i + 1) 128 159 = true ∧ inBy l (i + 2) 128 191 = true then some 3
  else if c = 240 ∧ inBy l (i + 1) 144 191 = true ∧ inBy l (i + 2) 128 191 = true ∧ inBy l (i + 3) 128 191 = true then some 4
  else if (241 ≤ c ∧ c ≤ 243) ∧ inBy l (i + 1) 128 191 = true ∧ inBy l (i + 2) 128 191 = true ∧ inBy l (i + 3) 128 191 = true then some 4
  else if c = 244 ∧ inBy l (i + 1) 128 143 = true ∧ inBy l (i + 2) 128 191 = true ∧ inBy l (i + 3) 128 191 = true then some 4
  else none
theorem inB_drop (l : List UInt8) (i k a b : Nat) : inBy l (i + k) a b = inBy (l.drop i) k a b := by unfold inBy; rw [List.getElem?_drop]
theorem nextU_drop (l : List UInt8) (i : Nat) : nextU l i = nextU (l.drop i) 0 := by
  unfold nextU
  simp only [inB_drop l i, Nat.zero_add, List.getD_eq_getElem?_getD, List.getElem?_drop, Nat.add_zero]
theorem inB_cons (c : UInt8) (l : List UInt8) (i a b : Nat) : inBy (c :: l) (i + 1) a b = inBy l i a b := id rfl
theorem inB_head (c : UInt8) (l : List UInt8) (a b : Nat) : inBy (c :: l) 0 a b = tailB a b c := id rfl
theorem inB_nil (i a b : Nat) : inBy [] i a b = false := id rfl
set_option maxHeartbeats 4000000 in
theorem utf8_next0 (c : UInt8) (l : List UInt8) : utf8L (c :: l) = match nextU (c :: l) 0 with
    | none => false
    | some k => utf8L ((c :: l).drop k) := by
  unfold nextU
  simp only [Nat.zero_add, inB_cons, show (c :: l).getD 0 0 = c from rfl]
  conv => lhs; unfold utf8L
  by_cases h1 : c.toNat < 128
  · simp [h1]
  by_cases h2 : 194 ≤ c.toNat ∧ c.toNat ≤ 223
  · have g1 : ¬ c.toNat = 224 := by omega
    have g2 : ¬ (225 ≤ c.toNat ∧ c.toNat ≤ 236 ∨ c.toNat = 238 ∨ c.toNat = 239) := by omega
    have g3 : ¬ c.toNat = 237 := by omega
    have g4 : ¬ c.toNat = 240 := by omega
    have g5 : ¬ (241 ≤ c.toNat ∧ c.toNat ≤ 243) := by omega
    have g6 : ¬ c.toNat = 244 := by omega
    simp only [h1, h2, g1, g2, g3, g4, g5, g6, if_false, if_true, false_and, true_and, and_self]
    cases l with
    | nil => simp [inB_nil]
    | cons b l => simp only [inB_head]; cases tailB 128 191 b <;> simp
  by_cases h3 : c.toNat = 224
  · have g2 : ¬ (225 ≤ c.toNat ∧ c.toNat ≤ 236 ∨ c.toNat = 238 ∨ c.toNat = 239) := by omega
    have g3 : ¬ c.toNat = 237 := by omega
    have g4 : ¬ c.toNat = 240 := by omega
    have g5 : ¬ (241 ≤ c.toNat ∧ c.toNat ≤ 243) := by omega
    have g6 : ¬ c.toNat = 244 := by omega
    rw [h3] at h1 h2 g2 g3 g4 g5 g6
    simp only [h3, h1, h2, g2, g3, g4, g5, g6, if_false, if_true, false_and, true_and, and_self]
    cases l with
    | nil => simp [inB_nil]
    | cons b l => cases l with
      | nil => simp [inB_nil, inB_cons]
      | cons d l => simp only [inB_head, inB_cons]; cases tailB 160 191 b <;> cases tailB 128 191 d <;> simp
  by_cases h4 : c.toNat = 237
  · have g2 : ¬ (225 ≤ c.toNat ∧ c.toNat ≤ 236 ∨ c.toNat = 238 ∨ c.toNat = 239) := by omega
    have g4 : ¬ c.toNat = 240 := by omega
    have g5 : ¬ (241 ≤ c.toNat ∧ c.toNat ≤ 243) := by omega
    have g6 : ¬ c.toNat = 244 := by omega
    rw [h4] at h1 h2 h3 g2 g4 g5 g6
    simp only [h4, h1, h2, h3, g2, g4, g5, g6, if_false, if_true, false_and, true_and, and_self]
    cases l with
    | nil => simp [inB_nil]
    | cons b l => cases l with
      | nil => simp [inB_nil, inB_cons]
      | cons d l => simp only [inB_head, inB_cons]; cases tailB 128 159 b <;> cases tailB 128 191 d <;> simp
  by_cases h5 : 225 ≤ c.toNat ∧ c.toNat ≤ 239
  · have g2 : (225 ≤ c.toNat ∧ c.toNat ≤ 236 ∨ c.toNat = 238 ∨ c.toNat = 239) := by omega
    have g4 : ¬ c.toNat = 240 := by omega
    have g5 : ¬ (241 ≤ c.toNat ∧ c.toNat ≤ 243) := by omega
    have g6 : ¬ c.toNat = 244 := by omega
    simp only [h4, h1, h2, h3, h5, g2, g4, g5, g6, if_false, if_true, false_and, true_and, and_self]
    cases l with
    | nil => simp [inB_nil]
    | cons b l => cases l with
      | nil => simp [inB_nil, inB_cons]
      | cons d l => simp only [inB_head, inB_cons]; cases tailB 128 191 b <;> cases tailB 128 191 d <;> simp [show c.toNat ≤ 236 ∨ c.toNat = 238 ∨ c.toNat = 239 by omega]
  have g2 : ¬ (225 ≤ c.toNat ∧ c.toNat ≤ 236 ∨ c.toNat = 238 ∨ c.toNat = 239) := by omega
  by_cases h7 : c.toNat = 240
  · have g5 : ¬ (241 ≤ c.toNat ∧ c.toNat ≤ 243) := by omega
    have g6 : ¬ c.toNat = 244 := by omega
    rw [h7] at h1 h2 h3 h4 h5 g2 g5 g6
    simp only [h7, h4, h1, h2, h3, h5, g2, g5, g6, if_false, if_true, false_and, true_and, and_self]
    cases l with
    | nil => simp [inB_nil]
    | cons b l => cases l with
      | nil => simp [inB_nil, inB_cons]
      | cons d l => cases l with
        | nil => simp [inB_nil, inB_cons]
        | cons e l => simp only [inB_head, inB_cons]; cases tailB 144 191 b <;> cases tailB 128 191 d <;> cases tailB 128 191 e <;> simp
  by_cases h8 : 241 ≤ c.toNat ∧ c.toNat ≤ 243
  · have g6 : ¬ c.toNat = 244 := by omega
    simp only [h7, h8, h4, h1, h2, h3, h5, g2, g6, if_false, if_true, false_and, true_and, and_self]
    cases l with
    | nil => simp [inB_nil]
    | cons b l => cases l with
      | nil => simp [inB_nil, inB_cons]
      | cons d l => cases l with
        | nil => simp [inB_nil, inB_cons]
        | cons e l => simp only [inB_head, inB_cons]; cases tailB 128 191 b <;> cases tailB 128 191 d <;> cases tailB 128 191 e <;> simp
  by_cases h9 : c.toNat = 244
  · rw [h9] at h1 h2 h3 h4 h5 h7 h8 g2
    simp only [h9, h7, h8, h4, h1, h2, h3, h5, g2, if_false, if_true, false_and, true_and, and_self]
    cases l with
    | nil => simp [inB_nil]
    | cons b l => cases l with
      | nil => simp [inB_nil, inB_cons]
      | cons d l => cases l with
        | nil => simp [inB_nil, inB_cons]
        | cons e l => simp only [inB_head, inB_cons]; cases tailB 128 143 b <;> cases tailB 128 191 d <;> cases tailB 128 191 e <;> simp
  simp only [h9, h7, h8, h4, h1, h2, h3, h5, g2, if_false, if_true, false_and, true_and, and_self]
  cases l with
  | nil => rfl
  | cons b l => cases l with
    | nil => rfl
    | cons d l => cases l with
      | nil => rfl
      | cons e l => rfl
theorem utf8_next {l : List UInt8} {i : Nat} (h : i < l.length) : utf8L (l.drop i) = match nextU l i with
    | none => false
    | some k => utf8L (l.drop (i + k)) := by
  rw [nextU_drop, List.drop_eq_getElem_cons h, utf8_next0, ← List.drop_eq_getElem_cons h]
  cases nextU (l.drop i) 0 with
  | none => rfl
  | some k => simp only; rw [List.drop_drop]
theorem inB_lt {l : List UInt8} {i a b : Nat} (h : inBy l i a b = true) : i < l.length := by
  unfold inBy at h
  cases hc : l[i]? with
  | none => rw [hc] at h; cases h
  | some c => exact (List.getElem?_eq_some_iff.1 hc).1
theorem nextU_le {l : List UInt8} {i k : Nat} (hi : i < l.length) (h : nextU l i = some k) : 0 < k ∧ i + k ≤ l.length := by
  unfold nextU at h
  simp only at h
  split at h
  · cases h; omega
  · repeat' (split at h)
    all_goals first
      | (cases h; rename_i hh; have := inB_lt hh.2; omega)
      | (cases h; rename_i hh; have := inB_lt hh.2.2; omega)
      | (cases h; rename_i hh; have := inB_lt hh.2.2.2; omega)
      | cases h
def dgtI (c : UInt8) : Int := match digV c with | some x => (x : Int) | none => -1
def pairI (l : List UInt8) (i : Nat) : Int := match hexV ((l.drop i).take 2) with | some x => (x : Int) | none => -1
theorem hexV_two {p : List UInt8} {x : Nat} (h : hexV p = some x) : ∃ a b y z, p = [a, b] ∧ digV a = some y ∧ digV b = some z ∧ x = 16 * y + z := by
  unfold hexV at h
  split at h
  · rename_i a b
    split at h
    · rename_i h1 h2; cases h; exact ⟨a, b, _, _, rfl, h1, h2, rfl⟩
    · cases h
  · cases h
theorem digV_not {c : UInt8} {x : Nat} (h : digV c = some x) : c ≠ 44 ∧ c ≠ 45 ∧ c ≠ 62 ∧ c ≠ 94 := by
  refine ⟨?_, ?_, ?_, ?_⟩ <;> (rintro rfl; cases h)
theorem itemV_some {p : List UInt8} {s : BitVec 256} (h : itemV p = some s) :
    (∃ a b x, p = [a, b] ∧ hexV [a, b] = some x ∧ s = rowB x x) ∨ ∃ a b c d x y, p = [a, b, 45, c, d] ∧ hexV [a, b] = some x ∧ hexV [c, d] = some y ∧ x ≤ y ∧ s = rowB x y := by
  unfold itemV at h
  simp only at h
  cases hc : cutAt 45 p with
  | none =>
    rw [hc] at h
    simp only [Option.getD_none] at h
    cases hx : hexV p with
    | none => rw [hx] at h; cases h
    | some x =>
      rw [hx] at h
      simp only [Nat.le_refl, if_true] at h
      obtain ⟨a, b, y, z, rfl, _⟩ := hexV_two hx
      cases h
      exact .inl ⟨a, b, x, rfl, hx, rfl⟩
  | some q =>
    obtain ⟨q1, q2⟩ := q
    rw [hc] at h
    simp only [Option.getD_some] at h
    obtain ⟨e, _⟩ := cutAt_some hc
    cases hx : hexV q1 with
    | none => rw [hx] at h; cases h
    | some x =>
      cases hy : hexV q2 with
      | none => rw [hx, hy] at h; cases h
      | some y =>
        rw [hx, hy] at h
        simp only at h
        split at h
        · rename_i hle
          cases h
          obtain ⟨a, b, _, _, rfl, _⟩ := hexV_two hx
          obtain ⟨c, d, _, _, rfl, _⟩ := hexV_two hy
          exact .inr ⟨a, b, c, d, x, y, by rw [e]; rfl, hx, hy, hle, rfl⟩
        · cases h
def itemsG (f : Nat) (a : BitVec 256) (l : List UInt8) : Option (BitVec 256) := match f with
  | 0 => none
  | f + 1 =>
    if l = [] then some a
    else match hexV (l.take 2) with
    | none => none
    | some x =>
      let q := if (l.drop 2).head? = some 45 then (hexV ((l.drop 3).take 2), l.drop 5) else (some x, l.drop 2)
      match q.1 with
      | none => none
      | some y =>
        if y < x then none
        else if q.2 = [] then some (a ||| rowB x y)
        else if q.2.head? ≠ some 44 ∨ q.2.length = 1 then none
        else itemsG f (a ||| rowB x y) (q.2.drop 1)
theorem pieces_cons (l : List UInt8) : ∃ p, (p, piecesA 44 l) = ((piecesA 44 l).1, piecesA 44 l) ∧ ((44 : UInt8) ∉ p) ∧ ((l = p ∧ (piecesA 44 l).2 = []) ∨ ∃ m, l = p ++ 44 :: m ∧ (piecesA 44 l).2 = pieces 44 m) := by
  induction l with
  | nil => exact ⟨[], rfl, by simp, .inl ⟨rfl, rfl⟩⟩
  | cons c l ih =>
    obtain ⟨p, hp, hn, h⟩ := ih
    have hp1 : p = (piecesA 44 l).1 := congrArg Prod.fst hp
    unfold piecesA
    by_cases hc : c = 44
    · rw [if_pos hc]
      exact ⟨[], rfl, by simp, .inr ⟨l, by rw [hc]; rfl, rfl⟩⟩
    · rw [if_neg hc]
      refine ⟨c :: p, by rw [hp1], by simp [hn, Ne.symm hc], ?_⟩
      rcases h with ⟨h1, h2⟩ | ⟨m, h1, h2⟩
      · exact .inl ⟨by rw [← h1], h2⟩
      · exact .inr ⟨m, by rw [h1]; rfl, h2⟩
theorem itemsG_eq : ∀ (f : Nat) (l : List UInt8) (a : BitVec 256), l ≠ [] → l.length < f → itemsG f a l = itemsV a (pieces 44 l)
  | 0, _, _, _, h => by omega
  | f + 1, l, a, hne, hf => by
    obtain ⟨p, hp, hn, h⟩ := pieces_cons l
    have hp1 : (piecesA 44 l).1 = p := (congrArg Prod.fst hp).symm
    have hpc : pieces 44 l = p :: (piecesA 44 l).2 := by unfold pieces; rw [hp1]
    rw [hpc]
    unfold itemsG
    rw [if_neg hne]
    show _ = match itemV p with | some t => itemsV (a ||| t) (piecesA 44 l).2 | none => none
    have next : ∀ (m : List UInt8) (x y : Nat), m.length < f → (if (44 :: m : List UInt8) = [] then some (a ||| rowB x y) else if (44 :: m : List UInt8).head? ≠ some 44 ∨ (44 :: m : List UInt8).length = 1 then none else itemsG f (a ||| rowB x y) ((44 :: m : List UInt8).drop 1)) = itemsV (a ||| rowB x y) (pieces 44 m) := by
      intro m x y hm
      rw [if_neg (by simp)]
      cases m with
      | nil => rw [if_pos (by simp)]; rfl
      | cons z m => rw [if_neg (by simp)]; exact itemsG_eq f (z :: m) _ (by simp) hm
    cases hi : itemV p with
    | some s =>
      simp only
      rcases itemV_some hi with ⟨u, v, x, rfl, hx, rfl⟩ | ⟨u, v, c, d, x, y, rfl, hx, hy, hle, rfl⟩
      · rcases h with ⟨rfl, h2⟩ | ⟨m, rfl, h2⟩
        · rw [h2]
          simp only [List.take_succ_cons, List.take_zero, hx, List.drop_succ_cons, List.drop_zero, List.head?_nil]
          simp [itemsV]
        · rw [h2]
          simp only [List.cons_append, List.nil_append, List.take_succ_cons, List.take_zero, hx, List.drop_succ_cons, List.drop_zero, List.head?_cons]
          rw [if_neg (by decide)]
          simp only [Nat.lt_irrefl, if_false]
          exact next m x x (by simp at hf; omega)
      · rcases h with ⟨rfl, h2⟩ | ⟨m, rfl, h2⟩
        · rw [h2]
          simp only [List.take_succ_cons, List.take_zero, hx, hy, List.drop_succ_cons, List.drop_zero, List.head?_cons]
          rw [if_pos trivial]
          simp only
          rw [if_neg (by omega)]; simp [itemsV]
        · rw [h2]
          simp only [List.cons_append, List.nil_append, List.take_succ_cons, List.take_zero, hx, hy, List.drop_succ_cons, List.drop_zero, List.head?_cons]
          rw [if_pos trivial]
          simp only
          rw [if_neg (by omega)]
          exact next m x y (by simp at hf; omega)
    | none =>
      simp only
      have hl : ∃ t, l = p ++ t ∧ (t = [] ∨ t.head? = some 44) := by
        rcases h with ⟨h1, _⟩ | ⟨m, h1, _⟩
        · exact ⟨[], by simpa using h1, .inl rfl⟩
        · exact ⟨44 :: m, h1, .inr rfl⟩
      obtain ⟨t, rfl, ht⟩ := hl
      cases hx : hexV ((p ++ t).take 2) with
      | none => rfl
      | some x =>
        simp only
        obtain ⟨u, v, y1, z1, e, hu, hv, _⟩ := hexV_two hx
        have hu2 := digV_not hu; have hv2 := digV_not hv
        have hp2 : ∃ p', p = u :: v :: p' := by
          cases p with
          | nil =>
            rcases ht with rfl | ht
            · simp at e
            · cases t with
              | nil => simp at ht
              | cons t0 t => simp at ht e; exact absurd (e.1.symm.trans ht) hu2.1
          | cons p0 p =>
            cases p with
            | nil =>
              rcases ht with rfl | ht
              · simp at e
              · cases t with
                | nil => simp at ht
                | cons t0 t => simp at ht e; exact absurd (e.2.symm.trans ht) hv2.1
            | cons p1 p => simp at e; exact ⟨p, by rw [e.1, e.2]⟩
        obtain ⟨p', rfl⟩ := hp2
        have hx2 : hexV [u, v] = some x := by simpa using hx
        simp only [List.cons_append, List.drop_succ_cons, List.drop_zero]
        cases p' with
        | nil =>
          exfalso
          have : itemV [u, v] = some (rowB x x) := by
            unfold itemV
            rw [cutAt_none.2 (by simp [Ne.symm hu2.2.1, Ne.symm hv2.2.1])]
            simp [hx2]
          rw [this] at hi; cases hi
        | cons z p' =>
          by_cases hz : z = 45
          · subst hz
            simp only [List.cons_append, List.head?_cons, if_true, List.drop_succ_cons, List.drop_zero]
            have hiv : itemV (u :: v :: 45 :: p') = match hexV p' with | some y => if x ≤ y then some (rowB x y) else none | none => none := by
              unfold itemV
              rw [show u :: v :: 45 :: p' = [u, v] ++ 45 :: p' from rfl, cutAt_app (by simp [Ne.symm hu2.2.1, Ne.symm hv2.2.1])]
              simp only [Option.getD_some, hx2]
              cases hexV p' <;> rfl
            cases hy : hexV ((p' ++ t).take 2) with
            | none => rfl
            | some y =>
              simp only
              by_cases hyx : y < x
              · rw [if_pos hyx]
              rw [if_neg hyx]
              obtain ⟨c, d, y1, z1, e2, hc, hd, _⟩ := hexV_two hy
              have hc2 := digV_not hc; have hd2 := digV_not hd
              have hp3 : ∃ p2, p' = c :: d :: p2 := by
                cases p' with
                | nil =>
                  rcases ht with rfl | ht
                  · simp at e2
                  · cases t with
                    | nil => simp at ht
                    | cons t0 t => simp at ht e2; exact absurd (e2.1.symm.trans ht) hc2.1
                | cons p0 p =>
                  cases p with
                  | nil =>
                    rcases ht with rfl | ht
                    · simp at e2
                    · cases t with
                      | nil => simp at ht
                      | cons t0 t => simp at ht e2; exact absurd (e2.2.symm.trans ht) hd2.1
                  | cons p1 p => simp at e2; exact ⟨p, by rw [e2.1, e2.2]⟩
              obtain ⟨p2, rfl⟩ := hp3
              have hy2 : hexV [c, d] = some y := by simpa using hy
              cases p2 with
              | nil =>
                rw [hy2] at hiv
                simp only at hiv
                rw [if_pos (by omega)] at hiv
                rw [hiv] at hi; cases hi
              | cons w p2 =>
                simp only [List.cons_append, List.drop_succ_cons, List.drop_zero]
                rw [if_neg (by simp), if_pos (.inl (by simp at hn ⊢; intro hw; subst hw; simp at hn))]
          · simp only [List.cons_append, List.head?_cons, Option.some.injEq, hz, if_false, Nat.lt_irrefl]
            rw [if_neg (by simp), if_pos (.inl (by simp at hn ⊢; intro hw; exact hn.2.2.1 hw.symm))]
theorem listV_G (l : List UInt8) : listV l = itemsG (l.length + 1) 0#256 l := by
  unfold listV
  by_cases h : l = []
  · rw [if_pos h]; unfold itemsG; rw [if_pos h]
  · rw [if_neg h, itemsG_eq _ _ _ h (by omega)]
def isDig (c : UInt8) : Bool := decide (48 ≤ c.toNat) && decide (c.toNat ≤ 57)
def digsOf (l : List UInt8) : List UInt8 := l.takeWhile isDig
theorem numF_all : ∀ (l : List UInt8) (n m : Nat), numF n l = some m → ∀ c ∈ l, isDig c = true
  | [], n, m, _, c, hc => by cases hc
  | x :: l, n, m, h, c, hc => by
    unfold numF at h
    split at h
    · rename_i hx
      rcases List.mem_cons.1 hc with rfl | hc
      · unfold isDig; simp [hx]
      · exact numF_all l _ m h c hc
    · cases h
theorem numV_all {l : List UInt8} {m : Nat} (h : numV l = some m) : (∀ c ∈ l, isDig c = true) ∧ l ≠ [] := by
  unfold numV at h
  split at h
  · cases h
  · rename_i h2
    exact ⟨numF_all l _ m h, fun e => h2 (.inl e)⟩
theorem digsOf_app {a b : List UInt8} (ha : ∀ c ∈ a, isDig c = true) (hb : ∀ c, b.head? = some c → isDig c = false) : digsOf (a ++ b) = a := by
  unfold digsOf
  induction a with
  | nil =>
    cases b with
    | nil => rfl
    | cons c b => simp [hb c rfl]
  | cons x a ih => rw [List.cons_append, List.takeWhile_cons, if_pos (ha x (by simp)), ih (fun c hc => ha c (by simp [hc]))]
theorem digsOf_all (l : List UInt8) : ∀ c ∈ digsOf l, isDig c = true := by
  unfold digsOf
  induction l with
  | nil => simp
  | cons x l ih =>
    rw [List.takeWhile_cons]
    split
    · rename_i hx
      intro c hc
      rcases List.mem_cons.1 hc with rfl | hc
      · exact hx
      · exact ih c hc
    · simp
theorem digsOf_split (l : List UInt8) : l = digsOf l ++ l.drop (digsOf l).length := by
  unfold digsOf
  induction l with
  | nil => rfl
  | cons x l ih =>
    rw [List.takeWhile_cons]
    split
    · simp only [List.cons_append, List.length_cons, List.drop_succ_cons]; rw [← ih]
    · rfl
def repG (w : List UInt8) : Option (Nat × Nat) :=
  match numV (digsOf w) with
  | none => none
  | some x =>
    if w.length ≤ (digsOf w).length ∨ w.getD (digsOf w).length 0 ≠ 44 then none
    else match numV (digsOf (w.drop ((digsOf w).length + 1))) with
    | none => none
    | some y => if (digsOf (w.drop ((digsOf w).length + 1))).length + (digsOf w).length + 1 ≠ w.length then none else some (x, y)
theorem digsOf_self {a : List UInt8} (ha : ∀ c ∈ a, isDig c = true) : digsOf a = a := by
  have := digsOf_app (b := []) ha (by simp)
  simpa using this
theorem repG_eq (w : List UInt8) : repG w = repV w := by
  unfold repV
  cases hc : cutAt 44 w with
  | some q =>
    obtain ⟨a, b⟩ := q
    obtain ⟨e, hn⟩ := cutAt_some hc
    simp only
    cases ha : numV a with
    | some x =>
      obtain ⟨h1, _⟩ := numV_all ha
      have hd : digsOf w = a := by rw [e]; exact digsOf_app h1 (by simp; decide)
      unfold repG
      rw [hd, ha]
      simp only
      have hdr : w.drop (a.length + 1) = b := by rw [e, List.drop_append]; simp
      rw [if_neg (by rw [e]; simp [List.getD_eq_getElem?_getD]), hdr]
      cases hb : numV b with
      | some y =>
        obtain ⟨h2, _⟩ := numV_all hb
        rw [digsOf_self h2, hb]
        simp only
        rw [if_neg (by rw [e]; simp; omega)]
      | none =>
        cases hy : numV (digsOf b) with
        | none => rfl
        | some y =>
          simp only
          by_cases hl : (digsOf b).length + a.length + 1 ≠ w.length
          · rw [if_pos hl]
          · exfalso
            have hl2 : (digsOf b).length = b.length := by rw [e] at hl; simp at hl; omega
            have := digsOf_split b
            rw [hl2, List.drop_length, List.append_nil] at this
            rw [← this, hb] at hy; cases hy
    | none =>
      unfold repG
      cases hx : numV (digsOf w) with
      | none => rfl
      | some x =>
        simp only
        by_cases hl : w.length ≤ (digsOf w).length ∨ w.getD (digsOf w).length 0 ≠ 44
        · rw [if_pos hl]
        · exfalso
          have hsp := digsOf_split w
          have hnc : (44 : UInt8) ∉ digsOf w := fun hm => by have := digsOf_all w 44 hm; revert this; decide
          have hlt : (digsOf w).length < w.length := by omega
          have hg : w.getD (digsOf w).length 0 = 44 := Classical.not_not.1 fun hh => hl (.inr hh)
          rw [List.drop_eq_getElem_cons hlt] at hsp
          have hg2 : w[(digsOf w).length] = 44 := by rw [List.getD_eq_getElem?_getD, List.getElem?_eq_getElem hlt] at hg; exact hg
          rw [hg2] at hsp
          rw [hsp, cutAt_app hnc] at hc
          simp at hc
          rw [hc.1, ha] at hx; cases hx
  | none =>
    have hn := cutAt_none.1 hc
    unfold repG
    cases hx : numV (digsOf w) with
    | none => rfl
    | some x =>
      simp only
      rw [if_pos]
      by_cases hlt : (digsOf w).length < w.length
      · right
        intro hg
        apply hn
        rw [← hg, List.getD_eq_getElem?_getD, List.getElem?_eq_getElem hlt]
        exact List.getElem_mem _
      · exact .inl (by omega)
end Go.Proofs.YtcgjmnhmhiddkaaGreatDoor
namespace Go.Proofs.YtcgjmnhmhiddkaaGreatDoor
open Go Go.RowKit
set_option linter.unusedVariables false
set_option linter.unusedSimpArgs false
set_option maxHeartbeats 2000000 in
theorem in_any (l : List UInt8) (i a b : Nat) (hi : i < 9223372036854775807) (w : World) : Calls Tryz.prog 91 #[.string (bs l), .int .i64 (i : Int), .int .i64 (a : Int), .int .i64 (b : Int)] w (Pure w (.bool (inBy l i a b))) := by
  by_cases hlt : i < l.length
  · have hl : inBy l i a b = (decide (a ≤ (l[i]'hlt).toNat) && decide ((l[i]'hlt).toNat ≤ b)) := by unfold inBy; rw [List.getElem?_eq_getElem hlt]
    have hq : i < (bs l).size := by rw [bs_size]; exact hlt
    have hq2 : (i : Int) < ((bs l).size : Int) := by omega
    have hget : (bs l)[i]'hq = l[i]'hlt := bs_get _ _ _
    have HL := Lib.hid hl
    have hc8 : ((l[i]'hlt).toNat : Int) ≤ 255 := by have := UInt8.toNat_lt (l[i]'hlt); omega
    generalize l[i]'hlt = c at *
    clear hl
    by_cases h1 : a ≤ c.toNat
    · have h1z : (c.toNat : Int) ≥ (a : Int) := by omega
      by_cases h2 : c.toNat ≤ b
      · have h2z : (c.toNat : Int) ≤ (b : Int) := by omega
        have HR : Hid (inBy l i a b = true) := by unfold Hid; rw [HL.out]; simp [h1, h2]
        clear hlt
        go_enter Tryz.func91, Tryz.ntmps91
        go_wp2
        go_ret
        exact ⟨by rw [HR.out]; rfl, rfl⟩
      · have h2z : ¬ (c.toNat : Int) ≤ (b : Int) := by omega
        have HR : Hid (inBy l i a b = false) := by unfold Hid; rw [HL.out]; simp; omega
        clear hlt
        go_enter Tryz.func91, Tryz.ntmps91
        go_wp2
        go_ret
        exact ⟨by rw [HR.out]; rfl, rfl⟩
    · have h1z : ¬ (c.toNat : Int) ≥ (a : Int) := by omega
      have HR : Hid (inBy l i a b = false) := by unfold Hid; rw [HL.out]; simp; omega
      clear hlt
      go_enter Tryz.func91, Tryz.ntmps91
      go_wp2
      go_ret
      exact ⟨by rw [HR.out]; rfl, rfl⟩
  · have hq2 : ¬ (i : Int) < ((bs l).size : Int) := by rw [bs_size]; omega
    have HR : Hid (inBy l i a b = false) := by unfold Hid inBy; rw [List.getElem?_eq_none (by omega)]
    clear hlt
    go_enter Tryz.func91, Tryz.ntmps91
    go_wp2
    go_ret
    exact ⟨by rw [HR.out]; rfl, rfl⟩
def UtL (l : List UInt8) (w0 : World) (i : Value) (w : World) : Prop := ∃ k : Nat, k ≤ l.length ∧ i = .int .i64 (k : Int) ∧ utf8L l = utf8L (l.drop k) ∧ w0 = w
set_option maxHeartbeats 64000000 in
set_option maxRecDepth 1000000 in
theorem refutf8_any (l : List UInt8) (hl : l.length < 9223372036854775800) (w : World) : Calls Tryz.prog 58 #[.string (bs l)] w (Pure w (.bool (utf8L l))) := by
  obtain ⟨v, hv⟩ : ∃ v, utf8L l = v := ⟨_, rfl⟩
  rw [hv]
  have HV := Lib.hid hv
  clear hv
  go_enter Tryz.func58, Tryz.ntmps58
  go_wp2
  go_loopw [3] (UtL l w) (fun i _ => l.length - (intOf i).toNat)
  case atStart => exact ⟨0, Nat.zero_le _, rfl, rfl, rfl⟩
  case round =>
    obtain ⟨k, hk, rfl, hu, rfl⟩ := hrel
    have HU := Lib.hid hu
    clear hu
    by_cases hlt : k < l.length
    · have hltz : (k : Int) < ((bs l).size : Int) := by rw [bs_size]; omega
      have hq : k < (bs l).size := by rw [bs_size]; exact hlt
      have hget : (bs l)[k]'hq = l.getD k 0 := by rw [bs_get, List.getD_eq_getElem?_getD, List.getElem?_eq_getElem hlt]; rfl
      have HN := Lib.hid (utf8_next hlt)
      have HNL := Lib.hid (fun j (h : nextU l k = some j) => nextU_le hlt h)
      have HC : Hid (nextU l k = _) := rfl
      have I1 : Hid (∀ w, Calls Tryz.prog 91 #[.string (bs l), .int .i64 ((k : Int) + 1), .int .i64 128, .int .i64 191] w (Pure w (.bool (inBy l (k + 1) 128 191)))) := fun w => in_any l (k + 1) 128 191 (by omega) w
      have I2 : Hid (∀ w, Calls Tryz.prog 91 #[.string (bs l), .int .i64 ((k : Int) + 2), .int .i64 128, .int .i64 191] w (Pure w (.bool (inBy l (k + 2) 128 191)))) := fun w => in_any l (k + 2) 128 191 (by omega) w
      have I3 : Hid (∀ w, Calls Tryz.prog 91 #[.string (bs l), .int .i64 ((k : Int) + 3), .int .i64 128, .int .i64 191] w (Pure w (.bool (inBy l (k + 3) 128 191)))) := fun w => in_any l (k + 3) 128 191 (by omega) w
      have J1 : Hid (∀ w, Calls Tryz.prog 91 #[.string (bs l), .int .i64 ((k : Int) + 1), .int .i64 160, .int .i64 191] w (Pure w (.bool (inBy l (k + 1) 160 191)))) := fun w => in_any l (k + 1) 160 191 (by omega) w
      have J2 : Hid (∀ w, Calls Tryz.prog 91 #[.string (bs l), .int .i64 ((k : Int) + 1), .int .i64 128, .int .i64 159] w (Pure w (.bool (inBy l (k + 1) 128 159)))) := fun w => in_any l (k + 1) 128 159 (by omega) w
      have J3 : Hid (∀ w, Calls Tryz.prog 91 #[.string (bs l), .int .i64 ((k : Int) + 1), .int .i64 144, .int .i64 191] w (Pure w (.bool (inBy l (k + 1) 144 191)))) := fun w => in_any l (k + 1) 144 191 (by omega) w
      have J4 : Hid (∀ w, Calls Tryz.prog 91 #[.string (bs l), .int .i64 ((k : Int) + 1), .int .i64 128, .int .i64 143] w (Pure w (.bool (inBy l (k + 1) 128 143)))) := fun w => in_any l (k + 1) 128 143 (by omega) w
      conv at HC => arg 1; rhs; unfold nextU
      have hc8 : ((l.getD k 0).toNat : Int) ≤ 255 := by have := UInt8.toNat_lt (l.getD k 0); omega
      generalize l.getD k 0 = c at *
      simp only at HC
      generalize inBy l (k + 1) 128 191 = t1 at *
      generalize inBy l (k + 2) 128 191 = t2 at *
      generalize inBy l (k + 3) 128 191 = t3 at *
      generalize inBy l (k + 1) 160 191 = s1 at *
      generalize inBy l (k + 1) 128 159 = s2 at *
      generalize inBy l (k + 1) 144 191 = s3 at *
      generalize inBy l (k + 1) 128 143 = s4 at *
      clear hlt
      go_wp2_with fail
      refine (I1.out _).mono ?_; rintro e w' ⟨rfl, rfl⟩
      go_wp2_with fail
      refine (I2.out _).mono ?_; rintro e w' ⟨rfl, rfl⟩
      go_wp2_with fail
      refine (I3.out _).mono ?_; rintro e w' ⟨rfl, rfl⟩
      generalize c.toNat = n at *
      clear hget hq
      by_cases r0 : 0 ≤ n ∧ n ≤ 127
      · have y : (n : Int) ≥ 0 := by omega
        have qlt128 : (n : Int) < 128 := by omega
        have qge194 : ¬ (n : Int) ≥ 194 := by omega
        have qle223 : (n : Int) ≤ 223 := by omega
        have qge225 : ¬ (n : Int) ≥ 225 := by omega
        have qle236 : (n : Int) ≤ 236 := by omega
        have qge241 : ¬ (n : Int) ≥ 241 := by omega
        have qle243 : (n : Int) ≤ 243 := by omega
        have z224 : ((n : Int) == 224) = false := by rw [beq_eq_false_iff_ne]; omega
        have z238 : ((n : Int) == 238) = false := by rw [beq_eq_false_iff_ne]; omega
        have z239 : ((n : Int) == 239) = false := by rw [beq_eq_false_iff_ne]; omega
        have z237 : ((n : Int) == 237) = false := by rw [beq_eq_false_iff_ne]; omega
        have z240 : ((n : Int) == 240) = false := by rw [beq_eq_false_iff_ne]; omega
        have z244 : ((n : Int) == 244) = false := by rw [beq_eq_false_iff_ne]; omega
        have SC := Lib.hid (And.intro r0.1 r0.2)
        clear r0 y
        have HX : Hid (nextU l k = some 1) := by unfold Hid; rw [HC.out]; have h1 := SC.out.1; have h2 := SC.out.2; simp [show (n < 128) by omega, show ¬ (194 ≤ n ∧ n ≤ 223) by omega, show ¬ (n = 224) by omega, show ¬ ((225 ≤ n ∧ n ≤ 236) ∨ n = 238 ∨ n = 239) by omega, show ¬ (n = 237) by omega, show ¬ (n = 240) by omega, show ¬ (241 ≤ n ∧ n ≤ 243) by omega, show ¬ (n = 244) by omega]
        have hx := HNL.out 1 HX.out
        have HU2 : Hid (utf8L l = utf8L (l.drop (k + 1))) := HU.out.trans (by rw [HN.out, HX.out])
        go_wp2
        go_roundw
        case rel => exact ⟨k + 1, by omega, by go_num, HU2.out, rfl⟩
        case measure => simp [intOf] <;> omega
      by_cases r128 : 128 ≤ n ∧ n ≤ 193
      · have y : (n : Int) ≥ 128 := by omega
        have qlt128 : ¬ (n : Int) < 128 := by omega
        have qge194 : ¬ (n : Int) ≥ 194 := by omega
        have qle223 : (n : Int) ≤ 223 := by omega
        have qge225 : ¬ (n : Int) ≥ 225 := by omega
        have qle236 : (n : Int) ≤ 236 := by omega
        have qge241 : ¬ (n : Int) ≥ 241 := by omega
        have qle243 : (n : Int) ≤ 243 := by omega
        have z224 : ((n : Int) == 224) = false := by rw [beq_eq_false_iff_ne]; omega
        have z238 : ((n : Int) == 238) = false := by rw [beq_eq_false_iff_ne]; omega
        have z239 : ((n : Int) == 239) = false := by rw [beq_eq_false_iff_ne]; omega
        have z237 : ((n : Int) == 237) = false := by rw [beq_eq_false_iff_ne]; omega
        have z240 : ((n : Int) == 240) = false := by rw [beq_eq_false_iff_ne]; omega
        have z244 : ((n : Int) == 244) = false := by rw [beq_eq_false_iff_ne]; omega
        have SC := Lib.hid (And.intro r128.1 r128.2)
        clear r0 r128 y
        have HX : Hid (nextU l k = none) := by unfold Hid; rw [HC.out]; have h1 := SC.out.1; have h2 := SC.out.2; simp [show ¬ (n < 128) by omega, show ¬ (194 ≤ n ∧ n ≤ 223) by omega, show ¬ (n = 224) by omega, show ¬ ((225 ≤ n ∧ n ≤ 236) ∨ n = 238 ∨ n = 239) by omega, show ¬ (n = 237) by omega, show ¬ (n = 240) by omega, show ¬ (241 ≤ n ∧ n ≤ 243) by omega, show ¬ (n = 244) by omega]
        have HR : Hid (v = false) := by unfold Hid; rw [← HV.out, HU.out, HN.out, HX.out]
        go_wp2
        go_ret
        exact ⟨by rw [HR.out]; rfl, rfl⟩
      by_cases r194 : 194 ≤ n ∧ n ≤ 223
      · have y : (n : Int) ≥ 194 := by omega
        have qlt128 : ¬ (n : Int) < 128 := by omega
        have qge194 : (n : Int) ≥ 194 := by omega
        have qle223 : (n : Int) ≤ 223 := by omega
        have qge225 : ¬ (n : Int) ≥ 225 := by omega
        have qle236 : (n : Int) ≤ 236 := by omega
        have qge241 : ¬ (n : Int) ≥ 241 := by omega
        have qle243 : (n : Int) ≤ 243 := by omega
        have z224 : ((n : Int) == 224) = false := by rw [beq_eq_false_iff_ne]; omega
        have z238 : ((n : Int) == 238) = false := by rw [beq_eq_false_iff_ne]; omega
        have z239 : ((n : Int) == 239) = false := by rw [beq_eq_false_iff_ne]; omega
        have z237 : ((n : Int) == 237) = false := by rw [beq_eq_false_iff_ne]; omega
        have z240 : ((n : Int) == 240) = false := by rw [beq_eq_false_iff_ne]; omega
        have z244 : ((n : Int) == 244) = false := by rw [beq_eq_false_iff_ne]; omega
        have SC := Lib.hid (And.intro r194.1 r194.2)
        clear r0 r128 r194 y
        cases t1 with
        | false =>
          have HX : Hid (nextU l k = none) := by unfold Hid; rw [HC.out]; have h1 := SC.out.1; have h2 := SC.out.2; simp [show ¬ (n < 128) by omega, show (194 ≤ n ∧ n ≤ 223) by omega, show ¬ (n = 224) by omega, show ¬ ((225 ≤ n ∧ n ≤ 236) ∨ n = 238 ∨ n = 239) by omega, show ¬ (n = 237) by omega, show ¬ (n = 240) by omega, show ¬ (241 ≤ n ∧ n ≤ 243) by omega, show ¬ (n = 244) by omega]
          have HR : Hid (v = false) := by unfold Hid; rw [← HV.out, HU.out, HN.out, HX.out]
          go_wp2
          go_ret
          exact ⟨by rw [HR.out]; rfl, rfl⟩
        | true =>
          have HX : Hid (nextU l k = some 2) := by unfold Hid; rw [HC.out]; have h1 := SC.out.1; have h2 := SC.out.2; simp [show ¬ (n < 128) by omega, show (194 ≤ n ∧ n ≤ 223) by omega, show ¬ (n = 224) by omega, show ¬ ((225 ≤ n ∧ n ≤ 236) ∨ n = 238 ∨ n = 239) by omega, show ¬ (n = 237) by omega, show ¬ (n = 240) by omega, show ¬ (241 ≤ n ∧ n ≤ 243) by omega, show ¬ (n = 244) by omega]
          have hx := HNL.out 2 HX.out
          have HU2 : Hid (utf8L l = utf8L (l.drop (k + 2))) := HU.out.trans (by rw [HN.out, HX.out])
          go_wp2
          go_roundw
          case rel => exact ⟨k + 2, by omega, by go_num, HU2.out, rfl⟩
          case measure => simp [intOf] <;> omega
      by_cases r224 : n = 224
      · subst r224
        clear hc8
        cases s1 with
        | false =>
          have HX : Hid (nextU l k = none) := by unfold Hid; rw [HC.out]; simp
          have HR : Hid (v = false) := by unfold Hid; rw [← HV.out, HU.out, HN.out, HX.out]
          go_wp2_with ((with_reducible refine (J1.out _).mono ?_); rintro e w' ⟨rfl, rfl⟩)
          go_ret
          exact ⟨by rw [HR.out]; rfl, rfl⟩
        | true =>
          cases t2 with
          | false =>
            have HX : Hid (nextU l k = none) := by unfold Hid; rw [HC.out]; simp
            have HR : Hid (v = false) := by unfold Hid; rw [← HV.out, HU.out, HN.out, HX.out]
            go_wp2_with ((with_reducible refine (J1.out _).mono ?_); rintro e w' ⟨rfl, rfl⟩)
            go_ret
            exact ⟨by rw [HR.out]; rfl, rfl⟩
          | true =>
            have HX : Hid (nextU l k = some 3) := by unfold Hid; rw [HC.out]; simp
            have hx := HNL.out 3 HX.out
            have HU2 : Hid (utf8L l = utf8L (l.drop (k + 3))) := HU.out.trans (by rw [HN.out, HX.out])
            go_wp2_with ((with_reducible refine (J1.out _).mono ?_); rintro e w' ⟨rfl, rfl⟩)
            go_roundw
            case rel => exact ⟨k + 3, by omega, by go_num, HU2.out, rfl⟩
            case measure => simp [intOf] <;> omega
      by_cases r225 : 225 ≤ n ∧ n ≤ 236
      · have y : (n : Int) ≥ 225 := by omega
        have qlt128 : ¬ (n : Int) < 128 := by omega
        have qge194 : (n : Int) ≥ 194 := by omega
        have qle223 : ¬ (n : Int) ≤ 223 := by omega
        have qge225 : (n : Int) ≥ 225 := by omega
        have qle236 : (n : Int) ≤ 236 := by omega
        have qge241 : ¬ (n : Int) ≥ 241 := by omega
        have qle243 : (n : Int) ≤ 243 := by omega
        have z224 : ((n : Int) == 224) = false := by rw [beq_eq_false_iff_ne]; omega
        have z238 : ((n : Int) == 238) = false := by rw [beq_eq_false_iff_ne]; omega
        have z239 : ((n : Int) == 239) = false := by rw [beq_eq_false_iff_ne]; omega
        have z237 : ((n : Int) == 237) = false := by rw [beq_eq_false_iff_ne]; omega
        have z240 : ((n : Int) == 240) = false := by rw [beq_eq_false_iff_ne]; omega
        have z244 : ((n : Int) == 244) = false := by rw [beq_eq_false_iff_ne]; omega
        have SC := Lib.hid (And.intro r225.1 r225.2)
        clear r0 r128 r194 r224 r225 y
        cases t1 with
        | false =>
          have HX : Hid (nextU l k = none) := by unfold Hid; rw [HC.out]; have h1 := SC.out.1; have h2 := SC.out.2; simp [show ¬ (n < 128) by omega, show ¬ (194 ≤ n ∧ n ≤ 223) by omega, show ¬ (n = 224) by omega, show ((225 ≤ n ∧ n ≤ 236) ∨ n = 238 ∨ n = 239) by omega, show ¬ (n = 237) by omega, show ¬ (n = 240) by omega, show ¬ (241 ≤ n ∧ n ≤ 243) by omega, show ¬ (n = 244) by omega]
          have HR : Hid (v = false) := by unfold Hid; rw [← HV.out, HU.out, HN.out, HX.out]
          go_wp2
          go_ret
          exact ⟨by rw [HR.out]; rfl, rfl⟩
        | true =>
          cases t2 with
          | false =>
            have HX : Hid (nextU l k = none) := by unfold Hid; rw [HC.out]; have h1 := SC.out.1; have h2 := SC.out.2; simp [show ¬ (n < 128) by omega, show ¬ (194 ≤ n ∧ n ≤ 223) by omega, show ¬ (n = 224) by omega, show ((225 ≤ n ∧ n ≤ 236) ∨ n = 238 ∨ n = 239) by omega, show ¬ (n = 237) by omega, show ¬ (n = 240) by omega, show ¬ (241 ≤ n ∧ n ≤ 243) by omega, show ¬ (n = 244) by omega]
            have HR : Hid (v = false) := by unfold Hid; rw [← HV.out, HU.out, HN.out, HX.out]
            go_wp2
            go_ret
            exact ⟨by rw [HR.out]; rfl, rfl⟩
          | true =>
            have HX : Hid (nextU l k = some 3) := by unfold Hid; rw [HC.out]; have h1 := SC.out.1; have h2 := SC.out.2; simp [show ¬ (n < 128) by omega, show ¬ (194 ≤ n ∧ n ≤ 223) by omega, show ¬ (n = 224) by omega, show ((225 ≤ n ∧ n ≤ 236) ∨ n = 238 ∨ n = 239) by omega, show ¬ (n = 237) by omega, show ¬ (n = 240) by omega, show ¬ (241 ≤ n ∧ n ≤ 243) by omega, show ¬ (n = 244) by omega]
            have hx := HNL.out 3 HX.out
            have HU2 : Hid (utf8L l = utf8L (l.drop (k + 3))) := HU.out.trans (by rw [HN.out, HX.out])
            go_wp2
            go_roundw
            case rel => exact ⟨k + 3, by omega, by go_num, HU2.out, rfl⟩
            case measure => simp [intOf] <;> omega
      by_cases r237 : n = 237
      · subst r237
        clear hc8
        cases s2 with
        | false =>
          have HX : Hid (nextU l k = none) := by unfold Hid; rw [HC.out]; simp
          have HR : Hid (v = false) := by unfold Hid; rw [← HV.out, HU.out, HN.out, HX.out]
          go_wp2_with ((with_reducible refine (J2.out _).mono ?_); rintro e w' ⟨rfl, rfl⟩)
          go_ret
          exact ⟨by rw [HR.out]; rfl, rfl⟩
        | true =>
          cases t2 with
          | false =>
            have HX : Hid (nextU l k = none) := by unfold Hid; rw [HC.out]; simp
            have HR : Hid (v = false) := by unfold Hid; rw [← HV.out, HU.out, HN.out, HX.out]
            go_wp2_with ((with_reducible refine (J2.out _).mono ?_); rintro e w' ⟨rfl, rfl⟩)
            go_ret
            exact ⟨by rw [HR.out]; rfl, rfl⟩
          | true =>
            have HX : Hid (nextU l k = some 3) := by unfold Hid; rw [HC.out]; simp
            have hx := HNL.out 3 HX.out
            have HU2 : Hid (utf8L l = utf8L (l.drop (k + 3))) := HU.out.trans (by rw [HN.out, HX.out])
            go_wp2_with ((with_reducible refine (J2.out _).mono ?_); rintro e w' ⟨rfl, rfl⟩)
            go_roundw
            case rel => exact ⟨k + 3, by omega, by go_num, HU2.out, rfl⟩
            case measure => simp [intOf] <;> omega
      by_cases r238 : n = 238
      · subst r238
        clear hc8
        cases t1 with
        | false =>
          have HX : Hid (nextU l k = none) := by unfold Hid; rw [HC.out]; simp
          have HR : Hid (v = false) := by unfold Hid; rw [← HV.out, HU.out, HN.out, HX.out]
          go_wp2
          go_ret
          exact ⟨by rw [HR.out]; rfl, rfl⟩
        | true =>
          cases t2 with
          | false =>
            have HX : Hid (nextU l k = none) := by unfold Hid; rw [HC.out]; simp
            have HR : Hid (v = false) := by unfold Hid; rw [← HV.out, HU.out, HN.out, HX.out]
            go_wp2
            go_ret
            exact ⟨by rw [HR.out]; rfl, rfl⟩
          | true =>
            have HX : Hid (nextU l k = some 3) := by unfold Hid; rw [HC.out]; simp
            have hx := HNL.out 3 HX.out
            have HU2 : Hid (utf8L l = utf8L (l.drop (k + 3))) := HU.out.trans (by rw [HN.out, HX.out])
            go_wp2
            go_roundw
            case rel => exact ⟨k + 3, by omega, by go_num, HU2.out, rfl⟩
            case measure => simp [intOf] <;> omega
      by_cases r239 : n = 239
      · subst r239
        clear hc8
        cases t1 with
        | false =>
          have HX : Hid (nextU l k = none) := by unfold Hid; rw [HC.out]; simp
          have HR : Hid (v = false) := by unfold Hid; rw [← HV.out, HU.out, HN.out, HX.out]
          go_wp2
          go_ret
          exact ⟨by rw [HR.out]; rfl, rfl⟩
        | true =>
          cases t2 with
          | false =>
            have HX : Hid (nextU l k = none) := by unfold Hid; rw [HC.out]; simp
            have HR : Hid (v = false) := by unfold Hid; rw [← HV.out, HU.out, HN.out, HX.out]
            go_wp2
            go_ret
            exact ⟨by rw [HR.out]; rfl, rfl⟩
          | true =>
            have HX : Hid (nextU l k = some 3) := by unfold Hid; rw [HC.out]; simp
            have hx := HNL.out 3 HX.out
            have HU2 : Hid (utf8L l = utf8L (l.drop (k + 3))) := HU.out.trans (by rw [HN.out, HX.out])
            go_wp2
            go_roundw
            case rel => exact ⟨k + 3, by omega, by go_num, HU2.out, rfl⟩
            case measure => simp [intOf] <;> omega
      by_cases r240 : n = 240
      · subst r240
        clear hc8
        cases s3 with
        | false =>
          have HX : Hid (nextU l k = none) := by unfold Hid; rw [HC.out]; simp
          have HR : Hid (v = false) := by unfold Hid; rw [← HV.out, HU.out, HN.out, HX.out]
          go_wp2_with ((with_reducible refine (J3.out _).mono ?_); rintro e w' ⟨rfl, rfl⟩)
          go_ret
          exact ⟨by rw [HR.out]; rfl, rfl⟩
        | true =>
          cases t2 with
          | false =>
            have HX : Hid (nextU l k = none) := by unfold Hid; rw [HC.out]; simp
            have HR : Hid (v = false) := by unfold Hid; rw [← HV.out, HU.out, HN.out, HX.out]
            go_wp2_with ((with_reducible refine (J3.out _).mono ?_); rintro e w' ⟨rfl, rfl⟩)
            go_ret
            exact ⟨by rw [HR.out]; rfl, rfl⟩
          | true =>
            cases t3 with
            | false =>
              have HX : Hid (nextU l k = none) := by unfold Hid; rw [HC.out]; simp
              have HR : Hid (v = false) := by unfold Hid; rw [← HV.out, HU.out, HN.out, HX.out]
              go_wp2_with ((with_reducible refine (J3.out _).mono ?_); rintro e w' ⟨rfl, rfl⟩)
              go_ret
              exact ⟨by rw [HR.out]; rfl, rfl⟩
            | true =>
              have HX : Hid (nextU l k = some 4) := by unfold Hid; rw [HC.out]; simp
              have hx := HNL.out 4 HX.out
              have HU2 : Hid (utf8L l = utf8L (l.drop (k + 4))) := HU.out.trans (by rw [HN.out, HX.out])
              go_wp2_with ((with_reducible refine (J3.out _).mono ?_); rintro e w' ⟨rfl, rfl⟩)
              go_roundw
              case rel => exact ⟨k + 4, by omega, by go_num, HU2.out, rfl⟩
              case measure => simp [intOf] <;> omega
      by_cases r241 : 241 ≤ n ∧ n ≤ 243
      · have y : (n : Int) ≥ 241 := by omega
        have qlt128 : ¬ (n : Int) < 128 := by omega
        have qge194 : (n : Int) ≥ 194 := by omega
        have qle223 : ¬ (n : Int) ≤ 223 := by omega
        have qge225 : (n : Int) ≥ 225 := by omega
        have qle236 : ¬ (n : Int) ≤ 236 := by omega
        have qge241 : (n : Int) ≥ 241 := by omega
        have qle243 : (n : Int) ≤ 243 := by omega
        have z224 : ((n : Int) == 224) = false := by rw [beq_eq_false_iff_ne]; omega
        have z238 : ((n : Int) == 238) = false := by rw [beq_eq_false_iff_ne]; omega
        have z239 : ((n : Int) == 239) = false := by rw [beq_eq_false_iff_ne]; omega
        have z237 : ((n : Int) == 237) = false := by rw [beq_eq_false_iff_ne]; omega
        have z240 : ((n : Int) == 240) = false := by rw [beq_eq_false_iff_ne]; omega
        have z244 : ((n : Int) == 244) = false := by rw [beq_eq_false_iff_ne]; omega
        have SC := Lib.hid (And.intro r241.1 r241.2)
        clear r0 r128 r194 r224 r225 r237 r238 r239 r240 r241 y
        cases t1 with
        | false =>
          have HX : Hid (nextU l k = none) := by unfold Hid; rw [HC.out]; have h1 := SC.out.1; have h2 := SC.out.2; simp [show ¬ (n < 128) by omega, show ¬ (194 ≤ n ∧ n ≤ 223) by omega, show ¬ (n = 224) by omega, show ¬ ((225 ≤ n ∧ n ≤ 236) ∨ n = 238 ∨ n = 239) by omega, show ¬ (n = 237) by omega, show ¬ (n = 240) by omega, show (241 ≤ n ∧ n ≤ 243) by omega, show ¬ (n = 244) by omega]
          have HR : Hid (v = false) := by unfold Hid; rw [← HV.out, HU.out, HN.out, HX.out]
          go_wp2
          go_ret
          exact ⟨by rw [HR.out]; rfl, rfl⟩
        | true =>
          cases t2 with
          | false =>
            have HX : Hid (nextU l k = none) := by unfold Hid; rw [HC.out]; have h1 := SC.out.1; have h2 := SC.out.2; simp [show ¬ (n < 128) by omega, show ¬ (194 ≤ n ∧ n ≤ 223) by omega, show ¬ (n = 224) by omega, show ¬ ((225 ≤ n ∧ n ≤ 236) ∨ n = 238 ∨ n = 239) by omega, show ¬ (n = 237) by omega, show ¬ (n = 240) by omega, show (241 ≤ n ∧ n ≤ 243) by omega, show ¬ (n = 244) by omega]
            have HR : Hid (v = false) := by unfold Hid; rw [← HV.out, HU.out, HN.out, HX.out]
            go_wp2
            go_ret
            exact ⟨by rw [HR.out]; rfl, rfl⟩
          | true =>
            cases t3 with
            | false =>
              have HX : Hid (nextU l k = none) := by unfold Hid; rw [HC.out]; have h1 := SC.out.1; have h2 := SC.out.2; simp [show ¬ (n < 128) by omega, show ¬ (194 ≤ n ∧ n ≤ 223) by omega, show ¬ (n = 224) by omega, show ¬ ((225 ≤ n ∧ n ≤ 236) ∨ n = 238 ∨ n = 239) by omega, show ¬ (n = 237) by omega, show ¬ (n = 240) by omega, show (241 ≤ n ∧ n ≤ 243) by omega, show ¬ (n = 244) by omega]
              have HR : Hid (v = false) := by unfold Hid; rw [← HV.out, HU.out, HN.out, HX.out]
              go_wp2
              go_ret
              exact ⟨by rw [HR.out]; rfl, rfl⟩
            | true =>
              have HX : Hid (nextU l k = some 4) := by unfold Hid; rw [HC.out]; have h1 := SC.out.1; have h2 := SC.out.2; simp [show ¬ (n < 128) by omega, show ¬ (194 ≤ n ∧ n ≤ 223) by omega, show ¬ (n = 224) by omega, show ¬ ((225 ≤ n ∧ n ≤ 236) ∨ n = 238 ∨ n = 239) by omega, show ¬ (n = 237) by omega, show ¬ (n = 240) by omega, show (241 ≤ n ∧ n ≤ 243) by omega, show ¬ (n = 244) by omega]
              have hx := HNL.out 4 HX.out
              have HU2 : Hid (utf8L l = utf8L (l.drop (k + 4))) := HU.out.trans (by rw [HN.out, HX.out])
              go_wp2
              go_roundw
              case rel => exact ⟨k + 4, by omega, by go_num, HU2.out, rfl⟩
              case measure => simp [intOf] <;> omega
      by_cases r244 : n = 244
      · subst r244
        clear hc8
        cases s4 with
        | false =>
          have HX : Hid (nextU l k = none) := by unfold Hid; rw [HC.out]; simp
          have HR : Hid (v = false) := by unfold Hid; rw [← HV.out, HU.out, HN.out, HX.out]
          go_wp2_with ((with_reducible refine (J4.out _).mono ?_); rintro e w' ⟨rfl, rfl⟩)
          go_ret
          exact ⟨by rw [HR.out]; rfl, rfl⟩
        | true =>
          cases t2 with
          | false =>
            have HX : Hid (nextU l k = none) := by unfold Hid; rw [HC.out]; simp
            have HR : Hid (v = false) := by unfold Hid; rw [← HV.out, HU.out, HN.out, HX.out]
            go_wp2_with ((with_reducible refine (J4.out _).mono ?_); rintro e w' ⟨rfl, rfl⟩)
            go_ret
            exact ⟨by rw [HR.out]; rfl, rfl⟩
          | true =>
            cases t3 with
            | false =>
              have HX : Hid (nextU l k = none) := by unfold Hid; rw [HC.out]; simp
              have HR : Hid (v = false) := by unfold Hid; rw [← HV.out, HU.out, HN.out, HX.out]
              go_wp2_with ((with_reducible refine (J4.out _).mono ?_); rintro e w' ⟨rfl, rfl⟩)
              go_ret
              exact ⟨by rw [HR.out]; rfl, rfl⟩
            | true =>
              have HX : Hid (nextU l k = some 4) := by unfold Hid; rw [HC.out]; simp
              have hx := HNL.out 4 HX.out
              have HU2 : Hid (utf8L l = utf8L (l.drop (k + 4))) := HU.out.trans (by rw [HN.out, HX.out])
              go_wp2_with ((with_reducible refine (J4.out _).mono ?_); rintro e w' ⟨rfl, rfl⟩)
              go_roundw
              case rel => exact ⟨k + 4, by omega, by go_num, HU2.out, rfl⟩
              case measure => simp [intOf] <;> omega
      by_cases r245 : 245 ≤ n ∧ n ≤ 255
      · have y : (n : Int) ≥ 245 := by omega
        have qlt128 : ¬ (n : Int) < 128 := by omega
        have qge194 : (n : Int) ≥ 194 := by omega
        have qle223 : ¬ (n : Int) ≤ 223 := by omega
        have qge225 : (n : Int) ≥ 225 := by omega
        have qle236 : ¬ (n : Int) ≤ 236 := by omega
        have qge241 : (n : Int) ≥ 241 := by omega
        have qle243 : ¬ (n : Int) ≤ 243 := by omega
        have z224 : ((n : Int) == 224) = false := by rw [beq_eq_false_iff_ne]; omega
        have z238 : ((n : Int) == 238) = false := by rw [beq_eq_false_iff_ne]; omega
        have z239 : ((n : Int) == 239) = false := by rw [beq_eq_false_iff_ne]; omega
        have z237 : ((n : Int) == 237) = false := by rw [beq_eq_false_iff_ne]; omega
        have z240 : ((n : Int) == 240) = false := by rw [beq_eq_false_iff_ne]; omega
        have z244 : ((n : Int) == 244) = false := by rw [beq_eq_false_iff_ne]; omega
        have SC := Lib.hid (And.intro r245.1 r245.2)
        clear r0 r128 r194 r224 r225 r237 r238 r239 r240 r241 r244 r245 y
        have HX : Hid (nextU l k = none) := by unfold Hid; rw [HC.out]; have h1 := SC.out.1; have h2 := SC.out.2; simp [show ¬ (n < 128) by omega, show ¬ (194 ≤ n ∧ n ≤ 223) by omega, show ¬ (n = 224) by omega, show ¬ ((225 ≤ n ∧ n ≤ 236) ∨ n = 238 ∨ n = 239) by omega, show ¬ (n = 237) by omega, show ¬ (n = 240) by omega, show ¬ (241 ≤ n ∧ n ≤ 243) by omega, show ¬ (n = 244) by omega]
        have HR : Hid (v = false) := by unfold Hid; rw [← HV.out, HU.out, HN.out, HX.out]
        go_wp2
        go_ret
        exact ⟨by rw [HR.out]; rfl, rfl⟩
      exfalso; omega
    · obtain rfl : k = l.length := by omega
      have hltz : ¬ ((l.length : Nat) : Int) < ((bs l).size : Int) := by rw [bs_size]; omega
      have HR : Hid (v = true) := by unfold Hid; rw [← HV.out, HU.out, List.drop_length]; rfl
      go_wp2
      go_ret
      exact ⟨by rw [HR.out]; rfl, rfl⟩
end Go.Proofs.YtcgjmnhmhiddkaaGreatDoor
