/- Texts and numbers of two bytes, opened as arguments: for seats of plain rows. -/
import Derived.Test.YtcgjmnhmhiddkaaGreatDoorM12
import Derived.Test.YtcgjmnhmhiddkaaGreatDoorM19
import Derived.Test.YtcgjmnhmhiddkaaGreatDoorM18
import Derived.Test.YtcgjmnhmhiddkaaGreatDoorM13
import Derived.Test.YtcgjmnhmhiddkaaGreatDoorM21
import Derived.ChangeMaps5
namespace Go.Proofs.YtcgjmnhmhiddkaaGreatDoor
open Go Go.RowKit Go.ChangeShapes Go.WideShapes Go.ChangeAt Go.Joins
set_option maxRecDepth 100000

section
variable {H : Type} {enc : TypeId × Value → H} {W : World} {base : Nat} {v : Value} {d : DataW H} {p : List MemPlace}
theorem open_str (hv : Value.okWide Tryz.prog W .any base 9 v) (h : DataW.Trod enc Tryz.prog W 0 (fun _ => true) true 9 v d p) : ∃ l : List UInt8, v = .string (bs l) ∧ l.length ≤ 9223372036854775807 := by
  obtain ⟨s, rfl, _, _, ws⟩ := Go.ChangeMaps.open_string Tryz.underlying9 hv h
  refine ⟨s.data.toList, by rw [bs_self], ?_⟩
  rw [← Lib.size_eq]; unfold maxLen at ws; omega
end
end Go.Proofs.YtcgjmnhmhiddkaaGreatDoor
/- Tokens at other places are parsed alike, faults and all: plain mathematics. -/
namespace Go.Proofs.YtcgjmnhmhiddkaaGreatDoor
open Go
set_option linter.unusedVariables false
set_option linter.unusedSimpArgs false

end Go.Proofs.YtcgjmnhmhiddkaaGreatDoor
/- What a read text's tokens are, for the parser: plain mathematics. -/
namespace Go.Proofs.YtcgjmnhmhiddkaaGreatDoor
open Go
set_option linter.unusedVariables false
set_option linter.unusedSimpArgs false

theorem textV_len {a t : List UInt8} (h : textV a = some t) : t.length ≤ a.length := by
  unfold textV at h
  split at h
  · cases h
  · cases h; exact Nat.le_refl _
theorem closed_text {c : UInt8} {e : Nat} {l : List UInt8} {f : List UInt8 → One} {t : Tok} {n : Nat} (hf : ∀ a, f a = .tok t n → t.text.length ≤ a.length) (h : closed c e l f = .tok t n) : t.text.length ≤ l.length := by
  unfold closed at h
  cases hc : cutAt c l with
  | none => rw [hc] at h; cases h
  | some p =>
    obtain ⟨a, b⟩ := p
    rw [hc] at h
    have h1 := hf a h
    obtain ⟨h2, _⟩ := cutAt_some hc
    rw [h2]; simp; omega
theorem oneV_text {c : UInt8} {l : List UInt8} {t : Tok} {n : Nat} (h : oneV c l = .tok t n) : t.text.length ≤ l.length := by
  unfold oneV at h
  by_cases e1 : c = 46
  · rw [if_pos e1] at h; cases h; simp
  rw [if_neg e1] at h
  by_cases e2 : c = 40
  · rw [if_pos e2] at h; cases h; simp
  rw [if_neg e2] at h
  by_cases e3 : c = 41
  · rw [if_pos e3] at h; cases h; simp
  rw [if_neg e3] at h
  by_cases e4 : c = 124
  · rw [if_pos e4] at h; cases h; simp
  rw [if_neg e4] at h
  by_cases e5 : c = 42
  · rw [if_pos e5] at h; cases h; simp
  rw [if_neg e5] at h
  by_cases e6 : c = 98
  · rw [if_pos e6] at h; cases h; simp
  rw [if_neg e6] at h
  by_cases e7 : c = 119
  · rw [if_pos e7] at h; cases h; simp
  rw [if_neg e7] at h
  by_cases e8 : c = 60
  · rw [if_pos e8] at h
    refine closed_text (fun a ha => ?_) h
    cases hv : classV a with
    | none => rw [hv] at ha; cases ha
    | some s => rw [hv] at ha; cases ha; simp
  rw [if_neg e8] at h
  by_cases e9 : c = 34
  · rw [if_pos e9] at h
    refine closed_text (fun a ha => ?_) h
    cases hv : textV a with
    | none => rw [hv] at ha; cases ha
    | some s => rw [hv] at ha; cases ha; exact textV_len hv
  rw [if_neg e9] at h
  by_cases e10 : c = 123
  · rw [if_pos e10] at h
    refine closed_text (fun a ha => ?_) h
    cases hv : repV a with
    | none => rw [hv] at ha; cases ha
    | some s =>
      obtain ⟨x, y⟩ := s
      rw [hv] at ha
      simp only at ha
      by_cases hxy : 255 < y ∨ y < x
      · rw [if_pos hxy] at ha; cases ha
      · rw [if_neg hxy] at ha; cases ha; simp
  rw [if_neg e10] at h
  cases h
theorem readL_text : ∀ (l : List UInt8) (p k : Nat) (r : List Tok), readL l p k = .ok r → ∀ t ∈ r, t.text.length ≤ l.length
  | [], p, k, r, h, t, ht => by
    rw [readL_nil] at h; cases h; simp at ht; subst ht; simp
  | c :: l, p, k + 1, r, h, t, ht => by
    have := readL_text l (p + 1) k r h t ht
    simp; omega
  | c :: l, p, 0, r, h, t, ht => by
    rw [readL_c0] at h
    by_cases e : c = 32
    · rw [if_pos e] at h
      have := readL_text l (p + 1) 0 r h t ht
      simp; omega
    · rw [if_neg e] at h
      cases ho : oneV c l with
      | bad e => rw [ho] at h; cases h
      | tok u n =>
        rw [ho] at h; simp only at h
        cases hr : readL l (p + 1) n with
        | error q => rw [hr] at h; cases h
        | ok r' =>
          rw [hr] at h; cases h
          rcases List.mem_cons.1 ht with rfl | ht
          · have := oneV_text ho; simp; omega
          · have := readL_text l (p + 1) n r' hr t ht; simp; omega
theorem rise_len : ∀ (r : List Tok) (lo hi : Nat), r.Pairwise (fun a b => a.at_ < b.at_) → (∀ t ∈ r, lo ≤ t.at_ ∧ t.at_ ≤ hi) → lo ≤ hi + 1 → r.length + lo ≤ hi + 1
  | [], lo, hi, _, _, h => by simpa using h
  | a :: r, lo, hi, hp, hb, h => by
    obtain ⟨h1, h2⟩ := List.pairwise_cons.1 hp
    have ha := hb a (List.mem_cons_self)
    have := rise_len r (a.at_ + 1) hi h2 (fun t ht => ⟨h1 t ht, (hb t (List.mem_cons_of_mem _ ht)).2⟩) (by omega)
    simp; omega
theorem readL_len {l : List UInt8} {r : List Tok} (h : readL l 0 0 = .ok r) : r.length ≤ l.length + 1 := by
  have w := readL_whole l 0 0 r (Nat.zero_le _) h
  have hm : ∀ t ∈ r, 0 ≤ t.at_ ∧ t.at_ ≤ l.length := fun t ht => by
    refine ⟨Nat.zero_le _, ?_⟩
    rcases List.mem_append.1 (by rw [List.dropLast_concat_getLast w.ne]; exact ht : t ∈ r.dropLast ++ [r.getLast w.ne]) with h1 | h1
    · have := (w.kinds t h1).2.2.1; omega
    · rw [List.mem_singleton.1 h1]
      have hl := w.last
      rw [List.getLast?_eq_some_getLast w.ne] at hl
      have := Option.some.inj hl
      rw [this]; simp
  have := rise_len r 0 l.length w.rise hm (by omega)
  omega
theorem readL_ends {l : List UInt8} {r : List Tok} (h : readL l 0 0 = .ok r) : TEnds (r.map tkOfT) := by
  have w := readL_whole l 0 0 r (Nat.zero_le _) h
  have hpos : 0 < r.length := List.length_pos_iff.2 w.ne
  have hat : ∀ j (hj : j < r.length), tkAt (r.map tkOfT) j = tkOfT (r[j]'hj) := fun j hj => by
    unfold tkAt; rw [List.getD_eq_getElem?_getD]; simp [hj]
  refine ⟨by simpa using hpos, ?_, fun p hp => ?_⟩
  · rw [List.length_map, hat _ (by omega)]
    have hl := w.last
    rw [List.getLast?_eq_getElem?, List.getElem?_eq_getElem (by omega)] at hl
    rw [Option.some.inj hl]; rfl
  · rw [List.length_map] at hp
    rw [hat p (by omega)]
    have hm : r[p]'(by omega) ∈ r.dropLast := by
      rw [List.mem_iff_getElem]
      exact ⟨p, by rw [List.length_dropLast]; omega, by rw [List.getElem_dropLast]⟩
    have := (w.kinds _ hm).2.1
    show ((r[p]'(by omega)).kind : Int) ≠ 10
    omega
end Go.Proofs.YtcgjmnhmhiddkaaGreatDoor
/- What a read text's tokens are: stars, repeats, texts; faults with more behind: plain mathematics. -/
namespace Go.Proofs.YtcgjmnhmhiddkaaGreatDoor
open Go
set_option linter.unusedVariables false
set_option linter.unusedSimpArgs false

structure TokW (c : UInt8) (t : Tok) : Prop where
  two : t.kind = 2 → textOk t.text = true
  six : t.kind = 6 → c = 42
  rep : t.kind = 7 → c = 123 ∧ t.lo ≤ t.hi ∧ t.hi ≤ 255
theorem oneV_w {c : UInt8} {l : List UInt8} {t : Tok} {n : Nat} (h : oneV c l = .tok t n) : TokW c t := by
  rw [oneV_eq] at h
  cases hs : shortV c with
  | some t' =>
    rw [hs] at h; cases h
    unfold shortV at hs
    by_cases e1 : c = 46
    · rw [if_pos e1] at hs; cases hs; exact ⟨(by intro h; simp at h), (by intro h; simp at h), (by intro h; simp at h)⟩
    rw [if_neg e1] at hs
    by_cases e2 : c = 40
    · rw [if_pos e2] at hs; cases hs; exact ⟨(by intro h; simp at h), (by intro h; simp at h), (by intro h; simp at h)⟩
    rw [if_neg e2] at hs
    by_cases e3 : c = 41
    · rw [if_pos e3] at hs; cases hs; exact ⟨(by intro h; simp at h), (by intro h; simp at h), (by intro h; simp at h)⟩
    rw [if_neg e3] at hs
    by_cases e4 : c = 124
    · rw [if_pos e4] at hs; cases hs; exact ⟨(by intro h; simp at h), (by intro h; simp at h), (by intro h; simp at h)⟩
    rw [if_neg e4] at hs
    by_cases e5 : c = 42
    · rw [if_pos e5] at hs; cases hs; exact ⟨(by intro h; simp at h), (fun h => e5), (by intro h; simp at h)⟩
    rw [if_neg e5] at hs
    by_cases e6 : c = 98
    · rw [if_pos e6] at hs; cases hs; exact ⟨(by intro h; simp at h), (by intro h; simp at h), (by intro h; simp at h)⟩
    rw [if_neg e6] at hs
    by_cases e7 : c = 119
    · rw [if_pos e7] at hs; cases hs; exact ⟨(by intro h; simp at h), (by intro h; simp at h), (by intro h; simp at h)⟩
    rw [if_neg e7] at hs
    cases hs
  | none =>
    rw [hs] at h
    simp only at h
    split at h
    · unfold closed at h
      split at h
      · cases h
      · have := (clsF_tok _ _ _ h).2
        exact ⟨(by intro h; omega), (by intro h; omega), (by intro h; omega)⟩
    · split at h
      · unfold closed at h
        split at h
        · cases h
        · rename_i a b hc
          have hk := (txtF_tok _ _ _ h).2
          refine ⟨fun _ => ?_, (by intro h; omega), (by intro h; omega)⟩
          have hn := (cutAt_some hc).2
          unfold txtF at h
          split at h
          · cases h
          · rename_i t' hv
            cases h
            unfold textV at hv
            split at hv
            · cases hv
            · rename_i hq
              cases hv
              unfold textOk
              rw [not_or] at hq
              simp only [Bool.and_eq_true, decide_eq_true_eq]
              exact ⟨⟨hq.1, by simpa using hq.2⟩, hn⟩
      · split at h
        · rename_i e
          unfold closed at h
          split at h
          · cases h
          · have hk := (repF_tok _ _ _ h).2
            refine ⟨(by intro h; omega), (by intro h; omega), fun _ => ⟨e, ?_⟩⟩
            unfold repF at h
            split at h
            · cases h
            · rename_i x y hv
              split at h
              · cases h
              · rename_i hq
                cases h
                show x ≤ y ∧ y ≤ 255
                omega
        · cases h
/-- Each token, and its first byte. -/
theorem readL_w : ∀ (l : List UInt8) (p k : Nat) (r : List Tok), k ≤ l.length → readL l p k = .ok r → ∀ t ∈ r, t = { kind := 10, at_ := p + l.length } ∨ (p + k ≤ t.at_ ∧ t.at_ < p + l.length ∧ TokW (l.getD (t.at_ - p) 0) t)
  | [], p, k, r, hk, h, t, ht => by
    rw [readL_nil] at h; cases h
    rw [List.mem_singleton.1 ht]; exact .inl rfl
  | c :: l, p, k + 1, r, hk, h, t, ht => by
    rcases readL_w l (p + 1) k r (by simpa using hk) h t ht with e | ⟨h1, h2, h3⟩
    · left; rw [e]; simp only [List.length_cons]; congr 1; omega
    · right
      refine ⟨by omega, by simp only [List.length_cons]; omega, ?_⟩
      rw [show t.at_ - p = (t.at_ - (p + 1)) + 1 by omega]; simpa using h3
  | c :: l, p, 0, r, hk, h, t, ht => by
    have sh : ∀ k, k ≤ l.length → ∀ r', readL l (p + 1) k = .ok r' → t ∈ r' → t = { kind := 10, at_ := p + (c :: l).length } ∨ (p + 0 ≤ t.at_ ∧ t.at_ < p + (c :: l).length ∧ TokW ((c :: l).getD (t.at_ - p) 0) t) := fun k hk2 r' hr' ht' => by
      rcases readL_w l (p + 1) k r' hk2 hr' t ht' with e | ⟨h1, h2, h3⟩
      · left; rw [e]; simp only [List.length_cons]; congr 1; omega
      · right
        refine ⟨by omega, by simp only [List.length_cons]; omega, ?_⟩
        rw [show t.at_ - p = (t.at_ - (p + 1)) + 1 by omega]; simpa using h3
    rw [readL_c0] at h
    by_cases e : c = 32
    · rw [if_pos e] at h
      exact sh 0 (Nat.zero_le _) r h ht
    · rw [if_neg e] at h
      cases ho : oneV c l with
      | bad e => rw [ho] at h; cases h
      | tok t0 n =>
        rw [ho] at h; simp only at h
        cases hr : readL l (p + 1) n with
        | error q => rw [hr] at h; cases h
        | ok r' =>
          rw [hr] at h; cases h
          rcases List.mem_cons.1 ht with rfl | ht
          · right
            have w := oneV_w ho
            refine ⟨Nat.le_refl _, by simp, ?_⟩
            simp only [Nat.sub_self]
            exact ⟨w.two, w.six, w.rep⟩
          · exact sh n (oneV_tok ho).2.2.1 r' hr ht
theorem readL_tkok {l : List UInt8} {r : List Tok} (h : readL l 0 0 = .ok r) : TkOk (r.map tkOfT) := fun k hk => by
  obtain ⟨t, ht, rfl⟩ := List.mem_map.1 hk
  rcases readL_w l 0 0 r (Nat.zero_le _) h t ht with e | ⟨_, _, w⟩
  · subst e; exact ⟨(by intro h; simp [tkOfT] at h), (by intro h; simp [tkOfT] at h)⟩
  · refine ⟨fun h2 => w.two ?_, fun h7 => ?_⟩
    · have : (t.kind : Int) = 2 := h2
      omega
    · have h7' : (t.kind : Int) = 7 := h7
      obtain ⟨_, h3, h4⟩ := w.rep (by omega)
      show (0 : Int) ≤ (t.lo : Int) ∧ (t.lo : Int) ≤ (t.hi : Int) ∧ (t.hi : Int) ≤ 255
      omega
theorem readL_in {l : List UInt8} {r : List Tok} (h : readL l 0 0 = .ok r) {t : Tok} (ht : t ∈ r) : t.at_ ≤ l.length := by
  rcases readL_w l 0 0 r (Nat.zero_le _) h t ht with e | ⟨_, h2, w⟩
  · subst e; show 0 + l.length ≤ _; omega
  · omega
end Go.Proofs.YtcgjmnhmhiddkaaGreatDoor
