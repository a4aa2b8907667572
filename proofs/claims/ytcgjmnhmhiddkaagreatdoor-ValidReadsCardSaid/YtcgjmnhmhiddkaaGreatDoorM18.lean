/- What a read text's tokens are, for the parser: plain mathematics. -/
import Derived.Test.YtcgjmnhmhiddkaaGreatDoorM09
import Derived.Test.YtcgjmnhmhiddkaaGreatDoorM15
import Derived.Test.YtcgjmnhmhiddkaaGreatDoorM17
import Derived.Test.YtcgjmnhmhiddkaaGreatDoorM06
namespace Go.Proofs.YtcgjmnhmhiddkaaGreatDoor
open Go
set_option linter.unusedVariables false
set_option linter.unusedSimpArgs false
theorem textV_len {a t : List UInt8} (h : textV a = some t) : t.length ≤ a.length := by
  unfold textV at h
  split at h
  · cases h
  · cases h; exact Nat.le_refl _
theorem closed_text {c : UInt8} {e : Nat} {l : List UInt8} {f : List UInt8 → One} {t : Tok} {n : Nat} (hf : ∀ a, f a = .tok t n → t.text.length ≤ a.length) (h : closed c e l f = .tok t n) : t.text.length ≤ l.length := by
  unfold closed at h
  cases hc : cutAt c l with
  | none => rw [hc] at h; cases h
  | some p =>
    obtain ⟨a, b⟩ := p
    rw [hc] at h
    have h1 := hf a h
    obtain ⟨h2, _⟩ := cutAt_some hc
    rw [h2]; simp; omega
theorem oneV_text {c : UInt8} {l : List UInt8} {t : Tok} {n : Nat} (h : oneV c l = .tok t n) : t.text.length ≤ l.length := by
  unfold oneV at h
  by_cases e1 : c = 46
  · rw [if_pos e1] at h; cases h; simp
  rw [if_neg e1] at h
  by_cases e2 : c = 40
  · rw [if_pos e2] at h; cases h; simp
  rw [if_neg e2] at h
  by_cases e3 : c = 41
  · rw [if_pos e3] at h; cases h; simp
  rw [if_neg e3] at h
  by_cases e4 : c = 124
  · rw [if_pos e4] at h; cases h; simp
  rw [if_neg e4] at h
  by_cases e5 : c = 42
  · rw [if_pos e5] at h; cases h; simp
  rw [if_neg e5] at h
  by_cases e6 : c = 98
  · rw [if_pos e6] at h; cases h; simp
  rw [if_neg e6] at h
  by_cases e7 : c = 119
  · rw [if_pos e7] at h; cases h; simp
  rw [if_neg e7] at h
  by_cases e8 : c = 60
  · rw [if_pos e8] at h
    refine closed_text (fun a ha => ?_) h
    cases hv : classV a with
    | none => rw [hv] at ha; cases ha
    | some s => rw [hv] at ha; cases ha; simp
  rw [if_neg e8] at h
  by_cases e9 : c = 34
  · rw [if_pos e9] at h
    refine closed_text (fun a ha => ?_) h
    cases hv : textV a with
    | none => rw [hv] at ha; cases ha
    | some s => rw [hv] at ha; cases ha; exact textV_len hv
  rw [if_neg e9] at h
  by_cases e10 : c = 123
  · rw [if_pos e10] at h
    refine closed_text (fun a ha => ?_) h
    cases hv : repV a with
    | none => rw [hv] at ha; cases ha
    | some s =>
      obtain ⟨x, y⟩ := s
      rw [hv] at ha
      simp only at ha
      by_cases hxy : 255 < y ∨ y < x
      · rw [if_pos hxy] at ha; cases ha
      · rw [if_neg hxy] at ha; cases ha; simp
  rw [if_neg e10] at h
  cases h
theorem readL_text : ∀ (l : List UInt8) (p k : Nat) (r : List Tok), readL l p k = .ok r → ∀ t ∈ r, t.text.length ≤ l.length
  | [], p, k, r, h, t, ht => by
    rw [readL_nil] at h; cases h; simp at ht; subst ht; simp
  | c :: l, p, k + 1, r, h, t, ht => by
    have := readL_text l (p + 1) k r h t ht
    simp; omega
  | c :: l, p, 0, r, h, t, ht => by
    rw [readL_c0] at h
    by_cases e : c = 32
    · rw [if_pos e] at h
      have := readL_text l (p + 1) 0 r h t ht
      simp; omega
    · rw [if_neg e] at h
      cases ho : oneV c l with
      | bad e => rw [ho] at h; cases h
      | tok u n =>
        rw [ho] at h; simp only at h
        cases hr : readL l (p + 1) n with
        | error q => rw [hr] at h; cases h
        | ok r' =>
          rw [hr] at h; cases h
          rcases List.mem_cons.1 ht with rfl | ht
          · have := oneV_text ho; simp; omega
          · have := readL_text l (p + 1) n r' hr t ht; simp; omega
theorem rise_len : ∀ (r : List Tok) (lo hi : Nat), r.Pairwise (fun a b => a.at_ < b.at_) → (∀ t ∈ r, lo ≤ t.at_ ∧ t.at_ ≤ hi) → lo ≤ hi + 1 → r.length + lo ≤ hi + 1
  | [], lo, hi, _, _, h => by simpa using h
  | a :: r, lo, hi, hp, hb, h => by
    obtain ⟨h1, h2⟩ := List.pairwise_cons.1 hp
    have ha := hb a (List.mem_cons_self)
    have := rise_len r (a.at_ + 1) hi h2 (fun t ht => ⟨h1 t ht, (hb t (List.mem_cons_of_mem _ ht)).2⟩) (by omega)
    simp; omega
theorem readL_len {l : List UInt8} {r : List Tok} (h : readL l 0 0 = .ok r) : r.length ≤ l.length + 1 := by
  have w := readL_whole l 0 0 r (Nat.zero_le _) h
  have hm : ∀ t ∈ r, 0 ≤ t.at_ ∧ t.at_ ≤ l.length := fun t ht => by
    refine ⟨Nat.zero_le _, ?_⟩
    rcases List.mem_append.1 (by rw [List.dropLast_concat_getLast w.ne]; exact ht : t ∈ r.dropLast ++ [r.getLast w.ne]) with h1 | h1
    · have := (w.kinds t h1).2.2.1; omega
    · rw [List.mem_singleton.1 h1]
      have hl := w.last
      rw [List.getLast?_eq_some_getLast w.ne] at hl
      have := Option.some.inj hl
      rw [this]; simp
  have := rise_len r 0 l.length w.rise hm (by omega)
  omega
theorem readL_ends {l : List UInt8} {r : List Tok} (h : readL l 0 0 = .ok r) : TEnds (r.map tkOfT) := by
  have w := readL_whole l 0 0 r (Nat.zero_le _) h
  have hpos : 0 < r.length := List.length_pos_iff.2 w.ne
  have hat : ∀ j (hj : j < r.length), tkAt (r.map tkOfT) j = tkOfT (r[j]'hj) := fun j hj => by
    unfold tkAt; rw [List.getD_eq_getElem?_getD]; simp [hj]
  refine ⟨by simpa using hpos, ?_, fun p hp => ?_⟩
  · rw [List.length_map, hat _ (by omega)]
    have hl := w.last
    rw [List.getLast?_eq_getElem?, List.getElem?_eq_getElem (by omega)] at hl
    rw [Option.some.inj hl]; rfl
  · rw [List.length_map] at hp
    rw [hat p (by omega)]
    have hm : r[p]'(by omega) ∈ r.dropLast := by
      rw [List.mem_iff_getElem]
      exact ⟨p, by rw [List.length_dropLast]; omega, by rw [List.getElem_dropLast]⟩
    have := (w.kinds _ hm).2.1
    show ((r[p]'(by omega)).kind : Int) ≠ 10
    omega
structure TokW (c : UInt8) (t : Tok) : Prop where
  two : t.kind = 2 → textOk t.text = true
  six : t.kind = 6 → c = 42
  rep : t.kind = 7 → c = 123 ∧ t.lo ≤ t.hi ∧ t.hi ≤ 255
theorem oneV_w {c : UInt8} {l : List UInt8} {t : Tok} {n : Nat} (h : oneV c l = .tok t n) : TokW c t := by
  rw [oneV_eq] at h
  cases hs : shortV c with
  | some t' =>
    rw [hs] at h; cases h
    unfold shortV at hs
    by_cases e1 : c = 46
    · rw [if_pos e1] at hs; cases hs; exact ⟨(by intro h; simp at h), (by intro h; simp at h), (by intro h; simp at h)⟩
    rw [if_neg e1] at hs
    by_cases e2 : c = 40
    · rw [if_pos e2] at hs; cases hs; exact ⟨(by intro h; simp at h), (by intro h; simp at h), (by intro h; simp at h)⟩
    rw [if_neg e2] at hs
    by_cases e3 : c = 41
    · rw [if_pos e3] at hs; cases hs; exact ⟨(by intro h; simp at h), (by intro h; simp at h), (by intro h; simp at h)⟩
    rw [if_neg e3] at hs
    by_cases e4 : c = 124
    · rw [if_pos e4] at hs; cases hs; exact ⟨(by intro h; simp at h), (by intro h; simp at h), (by intro h; simp at h)⟩
    rw [if_neg e4] at hs
    by_cases e5 : c = 42
    · rw [if_pos e5] at hs; cases hs; exact ⟨(by intro h; simp at h), (fun h => e5), (by intro h; simp at h)⟩
    rw [if_neg e5] at hs
    by_cases e6 : c = 98
    · rw [if_pos e6] at hs; cases hs; exact ⟨(by intro h; simp at h), (by intro h; simp at h), (by intro h; simp at h)⟩
    rw [if_neg e6] at hs
    by_cases e7 : c = 119
    · rw [if_pos e7] at hs; cases hs; exact ⟨(by intro h; simp at h), (by intro h; simp at h), (by intro h; simp at h)⟩
    rw [if_neg e7] at hs
    cases hs
  | none =>
    rw [hs] at h
    simp only at h
    split at h
    · unfold closed at h
      split at h
      · cases h
      · have := (clsF_tok _ _ _ h).2
        exact ⟨(by intro h; omega), (by intro h; omega), (by intro h; omega)⟩
    · split at h
      · unfold closed at h
        split at h
        · cases h
        · rename_i a b hc
          have hk := (txtF_tok _ _ _ h).2
          refine ⟨fun _ => ?_, (by intro h; omega), (by intro h; omega)⟩
          have hn := (cutAt_some hc).2
          unfold txtF at h
          split at h
          · cases h
          · rename_i t' hv
            cases h
            unfold textV at hv
            split at hv
            · cases hv
            · rename_i hq
              cases hv
              unfold textOk
              rw [not_or] at hq
              simp only [Bool.and_eq_true, decide_eq_true_eq]
              exact ⟨⟨hq.1, by simpa using hq.2⟩, hn⟩
      · split at h
        · rename_i e
          unfold closed at h
          split at h
          · cases h
          · have hk := (repF_tok _ _ _ h).2
            refine ⟨(by intro h; omega), (by intro h; omega), fun _ => ⟨e, ?_⟩⟩
            unfold repF at h
            split at h
            · cases h
            · rename_i x y hv
              split at h
              · cases h
              · rename_i hq
                cases h
                show x ≤ y ∧ y ≤ 255
                omega
        · cases h
theorem readL_w : ∀ (l : List UInt8) (p k : Nat) (r : List Tok), k ≤ l.length → readL l p k = .ok r → ∀ t ∈ r, t = { kind := 10, at_ := p + l.length } ∨ (p + k ≤ t.at_ ∧ t.at_ < p + l.length ∧ TokW (l.getD (t.at_ - p) 0) t)
  | [], p, k, r, hk, h, t, ht => by
    rw [readL_nil] at h; cases h
    rw [List.mem_singleton.1 ht]; exact .inl rfl
  | c :: l, p, k + 1, r, hk, h, t, ht => by
    rcases readL_w l (p + 1) k r (by simpa using hk) h t ht with e | ⟨h1, h2, h3⟩
    · left; rw [e]; simp only [List.length_cons]; congr 1; omega
    · right
      refine ⟨by omega, by simp only [List.length_cons]; omega, ?_⟩
      rw [show t.at_ - p = (t.at_ - (p + 1)) + 1 by omega]; simpa using h3
  | c :: l, p, 0, r, hk, h, t, ht => by
    have sh : ∀ k, k ≤ l.length → ∀ r', readL l (p + 1) k = .ok r' → t ∈ r' → t = { kind := 10, at_ := p + (c :: l).length } ∨ (p + 0 ≤ t.at_ ∧ t.at_ < p + (c :: l).length ∧ TokW ((c :: l).getD (t.at_ - p) 0) t) := fun k hk2 r' hr' ht' => by
      rcases readL_w l (p + 1) k r' hk2 hr' t ht' with e | ⟨h1, h2, h3⟩
      · left; rw [e]; simp only [List.length_cons]; congr 1; omega
      · right
        refine ⟨by omega, by simp only [List.length_cons]; omega, ?_⟩
        rw [show t.at_ - p = (t.at_ - (p + 1)) + 1 by omega]; simpa using h3
    rw [readL_c0] at h
    by_cases e : c = 32
    · rw [if_pos e] at h
      exact sh 0 (Nat.zero_le _) r h ht
    · rw [if_neg e] at h
      cases ho : oneV c l with
      | bad e => rw [ho] at h; cases h
      | tok t0 n =>
        rw [ho] at h; simp only at h
        cases hr : readL l (p + 1) n with
        | error q => rw [hr] at h; cases h
        | ok r' =>
          rw [hr] at h; cases h
          rcases List.mem_cons.1 ht with rfl | ht
          · right
            have w := oneV_w ho
            refine ⟨Nat.le_refl _, by simp, ?_⟩
            simp only [Nat.sub_self]
            exact ⟨w.two, w.six, w.rep⟩
          · exact sh n (oneV_tok ho).2.2.1 r' hr ht
theorem readL_tkok {l : List UInt8} {r : List Tok} (h : readL l 0 0 = .ok r) : TkOk (r.map tkOfT) := fun k hk => by
  obtain ⟨t, ht, rfl⟩ := List.mem_map.1 hk
  rcases readL_w l 0 0 r (Nat.zero_le _) h t ht with e | ⟨_, _, w⟩
  · subst e; exact ⟨(by intro h; simp [tkOfT] at h), (by intro h; simp [tkOfT] at h)⟩
  · refine ⟨fun h2 => w.two ?_, fun h7 => ?_⟩
    · have : (t.kind : Int) = 2 := h2
      omega
    · have h7' : (t.kind : Int) = 7 := h7
      obtain ⟨_, h3, h4⟩ := w.rep (by omega)
      show (0 : Int) ≤ (t.lo : Int) ∧ (t.lo : Int) ≤ (t.hi : Int) ∧ (t.hi : Int) ≤ 255
      omega
theorem readL_in {l : List UInt8} {r : List Tok} (h : readL l 0 0 = .ok r) {t : Tok} (ht : t ∈ r) : t.at_ ≤ l.length := by
  rcases readL_w l 0 0 r (Nat.zero_le _) h t ht with e | ⟨_, h2, w⟩
  · subst e; show 0 + l.length ≤ _; omega
  · omega
def partS (S : List Nat) (a : Int) : Nat := if 0 ≤ a ∧ a < (S.length : Int) then S.getD a.toNat 0 else 0
def powW (a : Nat) (k : Int) : Nat := if k = 0 then 1 else a
def tmsW (a : Nat) (lo hi : Int) : Nat := min (powW a lo + (if lo < hi then powW a (lo + 1) else 0)) 2
def waysW (n : Nd) (S : List Nat) : Nat :=
  if n.kind = 1 then 1
  else if n.kind = 4 then min (partS S n.a * partS S n.b) 2
  else if n.kind = 5 then min (partS S n.a + partS S n.b) 2
  else if n.kind = 6 then min (1 + partS S n.a) 2
  else if n.kind = 7 then tmsW (partS S n.a) n.lo n.hi
  else 0
def wys (l : List Nd) : Nat → List Nat
  | 0 => []
  | k + 1 => wys l k ++ [waysW (atN l k) (wys l k)]
def wyN (l : List Nd) (i : Nat) : Nat := waysW (atN l i) (wys l i)
theorem wys_length (l : List Nd) : ∀ k, (wys l k).length = k
  | 0 => rfl
  | k + 1 => by rw [wys, List.length_append, wys_length l k]; rfl
theorem wys_get (l : List Nd) : ∀ k j, j < k → (wys l k).getD j 0 = wyN l j
  | 0, j, h => absurd h (Nat.not_lt_zero j)
  | k + 1, j, h => by
    rw [wys, List.getD_eq_getElem?_getD]
    rcases Nat.lt_or_ge j k with h1 | h1
    · rw [List.getElem?_append_left (by rw [wys_length]; exact h1), ← List.getD_eq_getElem?_getD]; exact wys_get l k j h1
    · rw [List.getElem?_append_right (by rw [wys_length]; exact h1), wys_length, show j = k by omega, Nat.sub_self]; rfl
theorem partW_at {l : List Nd} {i : Nat} {a : Int} (h0 : 0 ≤ a) (h1 : a < (i : Int)) : partS (wys l i) a = wyN l a.toNat := by
  unfold partS
  rw [wys_length, if_pos ⟨h0, h1⟩, wys_get l i _ (by omega)]
theorem partS_two {S : List Nat} (h : ∀ x ∈ S, x ≤ 2) (a : Int) : partS S a ≤ 2 := by
  unfold partS
  split
  · rename_i hh
    rw [List.getD_eq_getElem?_getD, List.getElem?_eq_getElem (by omega)]
    exact h _ (List.getElem_mem _)
  · exact Nat.zero_le _
theorem waysW_le (n : Nd) (S : List Nat) : waysW n S ≤ 2 := by
  unfold waysW tmsW
  (repeat' split) <;> first | exact Nat.min_le_right _ _ | omega
theorem wys_le (l : List Nd) : ∀ k, ∀ x ∈ wys l k, x ≤ 2
  | 0, x, h => by simp [wys] at h
  | k + 1, x, h => by
    rw [wys, List.mem_append] at h
    rcases h with h | h
    · exact wys_le l k x h
    · rw [List.mem_singleton.mp h]; exact waysW_le _ _
def badW (l : List Nd) (i : Nat) : Bool := decide (((atN l i).kind = 6 ∨ (atN l i).kind = 7) ∧ partS (wys l l.length) (atN l i).a ≠ 0)
def fstW (l : List Nd) : Nat × Bool := match (List.range l.length).find? (badW l) with | some i => (i, true) | none => (0, false)
theorem fstW_some {l : List Nd} {i : Nat} (hi : i < l.length) (h : badW l i = true) (hn : ∀ j, j < i → badW l j = false) : fstW l = (i, true) := by
  unfold fstW
  have : (List.range l.length).find? (badW l) = some i := by
    rw [List.find?_range_eq_some]
    exact ⟨h, List.mem_range.2 hi, fun j hj => by rw [hn j hj]; rfl⟩
  rw [this]
theorem fstW_none {l : List Nd} (hn : ∀ j, j < l.length → badW l j = false) : fstW l = (0, false) := by
  unfold fstW
  have : (List.range l.length).find? (badW l) = none := by
    rw [List.find?_range_eq_none]
    exact fun j hj => by rw [hn j hj]; rfl
  rw [this]
theorem badW_form {l : List Nd} (h : Form l) {i : Nat} (hi : i < l.length) : badW l i = true ↔ ((atN l i).kind = 6 ∨ (atN l i).kind = 7) ∧ wyN l (i - 1) ≠ 0 := by
  unfold badW
  rw [decide_eq_true_iff]
  have hc := (h.2.1 i hi).cs rfl
  constructor
  · rintro ⟨hk, hp⟩
    cases hc with
    | leaf hl hf => unfold leafK at hl; omega
    | two hl => omega
    | one hl h0 ha hb h7 hr hc hf =>
      rw [partW_at (by omega) (by omega), show (atN l i).a.toNat = i - 1 by omega] at hp
      exact ⟨hk, hp⟩
  · rintro ⟨hk, hp⟩
    cases hc with
    | leaf hl hf => unfold leafK at hl; omega
    | two hl => omega
    | one hl h0 ha hb h7 hr hc hf =>
      rw [partW_at (by omega) (by omega), show (atN l i).a.toNat = i - 1 by omega]
      exact ⟨hk, hp⟩
def rsW (a : Nat) (lo : Int) : Nat → Nat
  | 0 => 0
  | k + 1 => min 2 (rsW a lo k + powW a (lo + k))
theorem powW_step {a : Nat} (ha : a ≤ 2) {k : Nat} : min 2 (powW a (k : Int) * a) = powW a ((k + 1 : Nat) : Int) := by
  unfold powW
  rw [if_neg (show ¬ ((k + 1 : Nat) : Int) = 0 by omega)]
  have : a = 0 ∨ a = 1 ∨ a = 2 := by omega
  by_cases h : (k : Int) = 0
  · rw [if_pos h]; omega
  · rw [if_neg h]; rcases this with rfl | rfl | rfl <;> rfl
theorem powW_le {a : Nat} (ha : a ≤ 2) (k : Int) : powW a k ≤ 2 := by unfold powW; split <;> omega
theorem rsW_le (a : Nat) (lo : Int) (k : Nat) : rsW a lo k ≤ 2 := by
  cases k with
  | zero => exact Nat.zero_le _
  | succ k => exact Nat.min_le_left _ _
theorem rsW_more {a : Nat} (ha : a ≤ 2) {lo : Int} (hl : 0 ≤ lo) : ∀ k : Nat, rsW a lo (k + 2) = min (powW a lo + powW a (lo + 1)) 2
  | 0 => by
    have h1 := powW_le ha lo
    show min 2 (min 2 (0 + powW a (lo + ((0 : Nat) : Int))) + powW a (lo + ((1 : Nat) : Int))) = _
    have e0 : lo + ((0 : Nat) : Int) = lo := by omega
    have e1 : lo + ((1 : Nat) : Int) = lo + 1 := by omega
    rw [e0, e1]; omega
  | k + 1 => by
    rw [rsW, rsW_more ha hl k]
    unfold powW
    rw [if_neg (show ¬ lo + 1 = 0 by omega), if_neg (show ¬ lo + ((k + 2 : Nat) : Int) = 0 by omega)]
    split <;> omega
theorem rsW_all {a : Nat} (ha : a ≤ 2) {lo hi : Int} (hl : 0 ≤ lo) (h : lo ≤ hi) : rsW a lo (hi - lo + 1).toNat = tmsW a lo hi := by
  unfold tmsW
  by_cases he : lo < hi
  · rw [if_pos he]
    obtain ⟨k, hk⟩ : ∃ k : Nat, hi = lo + 1 + k := ⟨(hi - lo - 1).toNat, by omega⟩
    rw [show (hi - lo + 1).toNat = k + 2 by omega, rsW_more ha hl]
  · rw [if_neg he]
    rw [show (hi - lo + 1).toNat = 1 by omega]
    show min 2 (0 + powW a (lo + ((0 : Nat) : Int))) = _
    have e0 : lo + ((0 : Nat) : Int) = lo := by omega
    rw [e0]; omega
def IntOk (n : Nd) : Prop := -9223372036854775808 ≤ n.lo ∧ n.hi ≤ 9223372036854775807
end Go.Proofs.YtcgjmnhmhiddkaaGreatDoor
