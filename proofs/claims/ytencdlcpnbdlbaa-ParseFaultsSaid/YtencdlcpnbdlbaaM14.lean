/- Descriptions out of tokens: what the parser answers hangs on what it has read. -/
import Derived.Test.YtencdlcpnbdlbaaM13
import Derived.Test.YtencdlcpnbdlbaaM04
import Derived.Test.YtencdlcpnbdlbaaM12
namespace Go.Proofs.Ytencdlcpnbdlbaa
open Go
set_option linter.unusedVariables false
set_option linter.unusedSimpArgs false

/-- The same tokens up to one. -/
def Agr (l m : List Tk) (q : Nat) : Prop := ∀ i, i ≤ q → tkAt m i = tkAt l i
theorem Agr.down {l m : List Tk} {q p : Nat} (h : Agr l m q) (hp : p ≤ q) : Agr l m p := fun i hi => h i (Nat.le_trans hi hp)
theorem run_agree {l l2 : List Tk} : ∀ (n : Nat) (m : Md) (s : PS) (k : Int) (t : PS), run l n m s = .ok k t → Agr l l2 t.read → run l2 n m s = .ok k t
  | 0, _, _, _, _, h, _ => by cases h
  | n + 1, .or, s, k, t, h, hg => by
    obtain ⟨a, u, h1, h2⟩ := bind_ok h
    have q2 := run_read n _ _ _ _ h2
    simp only [eats] at q2
    simp only [run]
    rw [run_agree n _ _ _ _ h1 (hg.down (by omega))]
    exact run_agree n _ _ _ _ h2 hg
  | n + 1, .orL a, s, k, t, h, hg => by
    have q0 := run_read (n + 1) _ _ _ _ h
    simp only [eats] at q0
    have e0 := hg s.read (by omega)
    simp only [run] at h ⊢
    rw [e0]
    split at h
    · rename_i hk
      rw [if_pos hk]
      obtain ⟨b, u, h1, h2⟩ := bind_ok h
      have q2 := run_read n _ _ _ _ h2
      have q3 := lay_read u { kind := 5, a := a, b := b } (-1)
      simp only [eats] at q2
      rw [run_agree n _ _ _ _ h1 (hg.down (by omega))]
      exact run_agree n _ _ _ _ h2 hg
    · rename_i hk; rw [if_neg hk]; exact h
  | n + 1, .row, s, k, t, h, hg => by
    obtain ⟨a, u, h1, h2⟩ := bind_ok h
    have q2 := run_read n _ _ _ _ h2
    simp only [eats] at q2
    simp only [run]
    rw [run_agree n _ _ _ _ h1 (hg.down (by omega))]
    exact run_agree n _ _ _ _ h2 hg
  | n + 1, .rowL a, s, k, t, h, hg => by
    have q0 := run_read (n + 1) _ _ _ _ h
    simp only [eats] at q0
    have e0 := hg s.read (by omega)
    simp only [run] at h ⊢
    rw [e0]
    split at h
    · rename_i hk
      rw [if_pos hk]
      obtain ⟨b, u, h1, h2⟩ := bind_ok h
      have q2 := run_read n _ _ _ _ h2
      have q3 := lay_read u { kind := 4, a := a, b := b } (-1)
      simp only [eats] at q2
      rw [run_agree n _ _ _ _ h1 (hg.down (by omega))]
      exact run_agree n _ _ _ _ h2 hg
    · rename_i hk; rw [if_neg hk]; exact h
  | n + 1, .post, s, k, t, h, hg => by
    obtain ⟨a, u, h1, h2⟩ := bind_ok h
    have q2 := run_read n _ _ _ _ h2
    simp only [eats] at q2
    simp only [run]
    rw [run_agree n _ _ _ _ h1 (hg.down (by omega))]
    exact run_agree n _ _ _ _ h2 hg
  | n + 1, .postL a, s, k, t, h, hg => by
    have q0 := run_read (n + 1) _ _ _ _ h
    simp only [eats] at q0
    have e0 := hg s.read (by omega)
    simp only [run] at h ⊢
    rw [e0]
    split at h
    · rename_i hk; rw [if_pos hk]; exact run_agree n _ _ _ _ h hg
    · rename_i hk; rw [if_neg hk]
      split at h
      · rename_i hk2; rw [if_pos hk2]; exact run_agree n _ _ _ _ h hg
      · rename_i hk2; rw [if_neg hk2]; exact h
  | n + 1, .atom, s, k, t, h, hg => by
    have q0 := run_read (n + 1) _ _ _ _ h
    simp only [eats] at q0
    have e0 := hg s.read (by omega)
    simp only [run] at h ⊢
    rw [e0]
    split at h
    · rename_i hk; rw [if_pos hk]; exact h
    · rename_i hk; rw [if_neg hk]
      split at h
      · rename_i hk2; rw [if_pos hk2]; exact h
      · rename_i hk2; rw [if_neg hk2]
        split at h
        · rename_i hk3; rw [if_pos hk3]; exact run_agree n _ _ _ _ h hg
        · rename_i hk3; rw [if_neg hk3]
          split at h
          · rename_i hk4; rw [if_pos hk4]
            obtain ⟨b, u, h1, h2⟩ := bind_ok h
            have q3 := lay_read u { kind := 8, a := b } (-1)
            have e2 : t.read = u.read := by unfold layK at h2; cases h2; exact q3.1
            rw [run_agree n _ _ _ _ h1 (hg.down (by omega))]
            exact h2
          · rename_i hk4; rw [if_neg hk4]
            split at h
            · rename_i hk5; rw [if_pos hk5]
              obtain ⟨b, u, h1, h2⟩ := bind_ok h
              have q3 := lay_read u { kind := 9, a := b } (-1)
              have e2 : t.read = u.read := by unfold layK at h2; cases h2; exact q3.1
              rw [run_agree n _ _ _ _ h1 (hg.down (by omega))]
              exact h2
            · exact absurd h fault_not_ok
  | n + 1, .group, s, k, t, h, hg => by
    have q0 := run_read (n + 1) _ _ _ _ h
    simp only [eats] at q0
    have e0 := hg s.read (by omega)
    simp only [run] at h ⊢
    rw [e0]
    split at h
    · rename_i hk; rw [if_pos hk]
      split at h
      · cases h
      · rename_i hd; rw [if_neg hd]
        obtain ⟨b, u, h1, h2⟩ := bind_ok h
        split at h2
        · rename_i hk2
          cases h2
          rw [run_agree n _ _ _ _ h1 (hg.down (by simp only [PS.next]; omega))]
          simp only [PR.bind]
          rw [hg u.read (by simp only [PS.next]; omega), if_pos hk2]
        · exact absurd h2 fault_not_ok
    · exact absurd h fault_not_ok
  | n + 1, .inside, s, k, t, h, hg => by
    have q0 := run_read (n + 1) _ _ _ _ h
    simp only [eats] at q0
    have e0 := hg s.read (by omega)
    simp only [run] at h ⊢
    rw [e0]
    split at h
    · rename_i hk; rw [if_pos hk]; exact h
    · rename_i hk; rw [if_neg hk]; exact run_agree n _ _ _ _ h hg

theorem bind_bad_mk {r : PR} {f : Int → PS → PR} {e p : Int} (h : r = .bad e p) : r.bind f = .bad e p := by rw [h]; rfl
theorem fault_agree {l : List Tk} {s : PS} {e p : Int} (h : faultP l s = .bad e p) : (e = 7 → (tkAt l s.read).at_ = p) ∧ ∀ l2, Agr l l2 s.read → faultP l2 s = .bad e p := by
  refine ⟨fun h7 => ?_, fun l2 hg => ?_⟩
  · unfold faultP at h
    split at h
    · cases h; exact absurd h7 (by decide)
    · cases h; rfl
  · unfold faultP; rw [hg s.read (Nat.le_refl _)]; exact h
/-- Where the fault is. -/
structure FAt (l : List Tk) (s : PS) (e p : Int) (f : List Tk → PR) : Prop where
  ex : ∃ q, s.read ≤ q ∧ q < l.length ∧ (e = 7 → (tkAt l q).at_ = p) ∧ ∀ l2, Agr l l2 q → f l2 = .bad e p
theorem FAt.up {l : List Tk} {s u : PS} {e p : Int} {f g : List Tk → PR} (h : FAt l u e p f) (hr : s.read ≤ u.read) (hfg : ∀ l2 q, Agr l l2 q → u.read ≤ q → f l2 = .bad e p → g l2 = .bad e p) : FAt l s e p g := by
  obtain ⟨q, h1, h2, h3, h4⟩ := h.ex
  exact ⟨q, by omega, h2, h3, fun l2 hg => hfg l2 q hg h1 (h4 l2 hg)⟩
theorem FAt.fault {l : List Tk} {s : PS} {e p : Int} (hr : s.read < l.length) (h : faultP l s = .bad e p) : FAt l s e p (fun l2 => faultP l2 s) :=
  ⟨s.read, Nat.le_refl _, hr, (fault_agree h).1, (fault_agree h).2⟩
theorem run_bad_at {l : List Tk} (hl : TEnds l) : ∀ (n : Nat) (m : Md) (s : PS) (e p : Int), run l n m s = .bad e p → s.read < l.length → FAt l s e p (fun l2 => run l2 n m s)
  | 0, _, _, _, _, h, _ => by cases h
  | n + 1, .or, s, e, p, h, hr => by
    rcases bind_bad h with h1 | ⟨a, u, h1, h2⟩
    · exact (run_bad_at hl n _ _ _ _ h1 hr).up (Nat.le_refl _) fun l2 q hg hq hb => by simp only [run]; exact bind_bad_mk hb
    · have q1 := run_read n _ _ _ _ h1
      simp only [eats] at q1
      have r1 := run_range hl n _ _ _ _ h1 hr
      exact (run_bad_at hl n _ _ _ _ h2 r1).up (by omega) fun l2 q hg hq hb => by
        simp only [run]; rw [run_agree n _ _ _ _ h1 (hg.down hq)]; exact hb
  | n + 1, .orL a, s, e, p, h, hr => by
    simp only [run] at h
    split at h
    · rename_i hk
      have hin := hl.step (p := s.read) (by rw [hk]; decide)
      rcases bind_bad h with h1 | ⟨b, u, h1, h2⟩
      · exact (run_bad_at hl n _ _ _ _ h1 (by exact hin)).up (by exact Nat.le_succ _) fun l2 q hg hq hb => by
          simp only [run]; rw [hg s.read (by simp only [PS.next] at hq; omega), if_pos hk]; exact bind_bad_mk hb
      · have q1 := run_read n _ _ _ _ h1
        simp only [eats, PS.next] at q1
        have r1 := run_range hl n _ _ _ _ h1 (by exact hin)
        have q3 := lay_read u { kind := 5, a := a, b := b } (-1)
        exact (run_bad_at hl n _ _ _ _ h2 (by rw [q3.1]; exact r1)).up (by omega) fun l2 q hg hq hb => by
          simp only [run]; rw [hg s.read (by omega), if_pos hk, run_agree n _ _ _ _ h1 (hg.down (by omega))]; exact hb
    · cases h
  | n + 1, .row, s, e, p, h, hr => by
    rcases bind_bad h with h1 | ⟨a, u, h1, h2⟩
    · exact (run_bad_at hl n _ _ _ _ h1 hr).up (Nat.le_refl _) fun l2 q hg hq hb => by simp only [run]; exact bind_bad_mk hb
    · have q1 := run_read n _ _ _ _ h1
      simp only [eats] at q1
      have r1 := run_range hl n _ _ _ _ h1 hr
      exact (run_bad_at hl n _ _ _ _ h2 r1).up (by omega) fun l2 q hg hq hb => by
        simp only [run]; rw [run_agree n _ _ _ _ h1 (hg.down hq)]; exact hb
  | n + 1, .rowL a, s, e, p, h, hr => by
    simp only [run] at h
    split at h
    · rename_i hk
      have hin := hl.step (p := s.read) (by intro e2; rw [e2] at hk; revert hk; decide)
      rcases bind_bad h with h1 | ⟨b, u, h1, h2⟩
      · exact (run_bad_at hl n _ _ _ _ h1 (by exact hr)).up (by exact Nat.le_refl _) fun l2 q hg hq hb => by
          simp only [run]; rw [hg s.read (by exact hq), if_pos hk]; exact bind_bad_mk hb
      · have q1 := run_read n _ _ _ _ h1
        simp only [eats] at q1
        have r1 := run_range hl n _ _ _ _ h1 (by exact hr)
        have q3 := lay_read u { kind := 4, a := a, b := b } (-1)
        exact (run_bad_at hl n _ _ _ _ h2 (by rw [q3.1]; exact r1)).up (by omega) fun l2 q hg hq hb => by
          simp only [run]; rw [hg s.read (by omega), if_pos hk, run_agree n _ _ _ _ h1 (hg.down (by omega))]; exact hb
    · cases h
  | n + 1, .post, s, e, p, h, hr => by
    rcases bind_bad h with h1 | ⟨a, u, h1, h2⟩
    · exact (run_bad_at hl n _ _ _ _ h1 hr).up (Nat.le_refl _) fun l2 q hg hq hb => by simp only [run]; exact bind_bad_mk hb
    · have q1 := run_read n _ _ _ _ h1
      simp only [eats] at q1
      have r1 := run_range hl n _ _ _ _ h1 hr
      exact (run_bad_at hl n _ _ _ _ h2 r1).up (by omega) fun l2 q hg hq hb => by
        simp only [run]; rw [run_agree n _ _ _ _ h1 (hg.down hq)]; exact hb
  | n + 1, .postL a, s, e, p, h, hr => by
    simp only [run] at h
    split at h
    · rename_i hk
      have hin := hl.step (p := s.read) (by rw [hk]; decide)
      have q3 := lay_read s { kind := 6, a := a } (tkAt l s.read).at_
      exact (run_bad_at hl n _ _ _ _ h (by simp only [PS.next]; omega)).up (by simp only [PS.next]; omega) fun l2 q hg hq hb => by
        simp only [PS.next] at hq
        simp only [run]; rw [hg s.read (by omega), if_pos hk]; exact hb
    · rename_i hk0
      split at h
      · rename_i hk
        have hin := hl.step (p := s.read) (by rw [hk]; decide)
        have q3 := lay_read s { kind := 7, a := a, lo := (tkAt l s.read).lo, hi := (tkAt l s.read).hi } (tkAt l s.read).at_
        exact (run_bad_at hl n _ _ _ _ h (by simp only [PS.next]; omega)).up (by simp only [PS.next]; omega) fun l2 q hg hq hb => by
          simp only [PS.next] at hq
          simp only [run]; rw [hg s.read (by omega), if_neg hk0, if_pos hk]; exact hb
      · cases h
  | n + 1, .atom, s, e, p, h, hr => by
    simp only [run] at h
    split at h
    · cases h
    · rename_i k1
      split at h
      · cases h
      · rename_i k2
        split at h
        · rename_i k3
          exact (run_bad_at hl n _ _ _ _ h hr).up (Nat.le_refl _) fun l2 q hg hq hb => by
            simp only [run]; rw [hg s.read hq, if_neg k1, if_neg k2, if_pos k3]; exact hb
        · rename_i k3
          split at h
          · rename_i k4
            have hin := hl.step (p := s.read) (by rw [k4]; decide)
            rcases bind_bad h with h1 | ⟨b, u, h1, h2⟩
            · exact (run_bad_at hl n _ _ _ _ h1 hin).up (Nat.le_succ _) fun l2 q hg hq hb => by
                simp only [PS.next] at hq
                simp only [run]; rw [hg s.read (by omega), if_neg k1, if_neg k2, if_neg k3, if_pos k4]; exact bind_bad_mk hb
            · cases h2
          · rename_i k4
            split at h
            · rename_i k5
              have hin := hl.step (p := s.read) (by rw [k5]; decide)
              rcases bind_bad h with h1 | ⟨b, u, h1, h2⟩
              · exact (run_bad_at hl n _ _ _ _ h1 hin).up (Nat.le_succ _) fun l2 q hg hq hb => by
                  simp only [PS.next] at hq
                  simp only [run]; rw [hg s.read (by omega), if_neg k1, if_neg k2, if_neg k3, if_neg k4, if_pos k5]; exact bind_bad_mk hb
              · cases h2
            · rename_i k5
              exact (FAt.fault hr h).up (Nat.le_refl _) fun l2 q hg hq hb => by
                simp only [run]; rw [hg s.read hq, if_neg k1, if_neg k2, if_neg k3, if_neg k4, if_neg k5]; exact hb
  | n + 1, .group, s, e, p, h, hr => by
    simp only [run] at h
    split at h
    · rename_i hk
      have hin := hl.step (p := s.read) (by rw [hk]; decide)
      split at h
      · rename_i hd
        refine ⟨s.read, Nat.le_refl _, hr, fun h7 => ?_, fun l2 hg => ?_⟩
        · cases h; exact absurd h7 (by decide)
        · simp only [run]; rw [hg s.read (Nat.le_refl _), if_pos hk, if_pos hd]; exact h
      · rename_i hd
        rcases bind_bad h with h1 | ⟨b, u, h1, h2⟩
        · exact (run_bad_at hl n _ _ _ _ h1 (by simp only [PS.next]; omega)).up (by simp only [PS.next]; omega) fun l2 q hg hq hb => by
            simp only [PS.next] at hq
            simp only [run]; rw [hg s.read (by omega), if_pos hk, if_neg hd]; exact bind_bad_mk hb
        · have q1 := run_read n _ _ _ _ h1
          simp only [eats, PS.next] at q1
          have r1 := run_range hl n _ _ _ _ h1 (by simp only [PS.next]; omega)
          split at h2
          · cases h2
          · rename_i hk2
            exact (FAt.fault r1 h2).up (by omega) fun l2 q hg hq hb => by
              simp only [run]; rw [hg s.read (by omega), if_pos hk, if_neg hd, run_agree n _ _ _ _ h1 (hg.down hq)]
              simp only [PR.bind]
              rw [hg u.read hq, if_neg hk2]; exact hb
    · rename_i hk
      exact (FAt.fault hr h).up (Nat.le_refl _) fun l2 q hg hq hb => by
        simp only [run]; rw [hg s.read hq, if_neg hk]; exact hb
  | n + 1, .inside, s, e, p, h, hr => by
    simp only [run] at h
    split at h
    · cases h
    · rename_i hk
      exact (run_bad_at hl n _ _ _ _ h hr).up (Nat.le_refl _) fun l2 q hg hq hb => by
        simp only [run]; rw [hg s.read hq, if_neg hk]; exact hb
theorem run_le {l : List Tk} {n : Nat} {m : Md} {s : PS} (h : run l n m s ≠ .out) : ∀ d, run l (n + d) m s = run l n m s
  | 0 => rfl
  | d + 1 => by
    have q := run_le h d
    rw [← Nat.add_assoc, run_more _ _ _ (by rw [q]; exact h), q]
/-- However much there is to do it with, the same comes. -/
theorem run_same {l : List Tk} {n n2 : Nat} {m : Md} {s : PS} (h : run l n m s ≠ .out) (h2 : run l n2 m s ≠ .out) : run l n m s = run l n2 m s := by
  rcases Nat.le_total n n2 with hh | hh
  · obtain ⟨d, rfl⟩ := Nat.exists_eq_add_of_le hh; exact (run_le h d).symm
  · obtain ⟨d, rfl⟩ := Nat.exists_eq_add_of_le hh; exact run_le h2 d
theorem run_whole {l : List Tk} {n : Nat} {r : PR} (h : run l n .or {} = r) (hr : r ≠ .out) : run l (10 * l.length + 10) .or {} = r := by
  rw [← h]; exact run_same (run_fuel _ _ _ (by simp only [fuelP, rankM]; omega)) (by rw [h]; exact hr)
/-- What stands behind a fault says nothing. -/
theorem parse_bad_at {l : List Tk} (hl : TEnds l) {e p : Int} (h : parseP l = .bad e p) (he : e ≠ 9) : ∃ q, q < l.length ∧ (e = 7 → (tkAt l q).at_ = p) ∧ ∀ l2, Agr l l2 q → parseP l2 = .bad e p := by
  unfold parseP at h
  rcases bind_bad h with h1 | ⟨k, u, h1, h2⟩
  · obtain ⟨q, _, q2, q3, q4⟩ := (run_bad_at hl _ _ _ _ _ h1 hl.pos).ex
    refine ⟨q, q2, q3, fun l2 hg => ?_⟩
    unfold parseP
    rw [run_whole (q4 l2 hg) (fun hh => by cases hh)]; rfl
  · have r1 := run_range hl _ _ _ _ _ h1 hl.pos
    split at h2
    · split at h2
      · cases h2; exact absurd rfl he
      · cases h2
    · rename_i hk
      refine ⟨u.read, r1, (fault_agree h2).1, fun l2 hg => ?_⟩
      unfold parseP
      rw [run_whole (run_agree _ _ _ _ _ h1 hg) (fun hh => by cases hh)]
      simp only [PR.bind]
      rw [hg u.read (Nat.le_refl _), if_neg hk]; exact (fault_agree h2).2 l2 hg
end Go.Proofs.Ytencdlcpnbdlbaa
/- Descriptions out of tokens: what comes of the parser, by how much it has to do it with; what each reading stops at. -/
namespace Go.Proofs.Ytencdlcpnbdlbaa
open Go
set_option linter.unusedVariables false
set_option linter.unusedSimpArgs false

/-- It comes to this, with enough to do it with. -/
def Runs (l : List Tk) (m : Md) (s : PS) (r : PR) : Prop := r ≠ .out ∧ ∃ n, run l n m s = r
theorem Runs.mk {l : List Tk} {n : Nat} {m : Md} {s : PS} {r : PR} (h : run l n m s = r) (hr : r ≠ .out) : Runs l m s r := ⟨hr, n, h⟩
theorem Runs.two {l : List Tk} {m m2 : Md} {s s2 : PS} {r r2 : PR} (h : Runs l m s r) (h2 : Runs l m2 s2 r2) : ∃ n, run l n m s = r ∧ run l n m2 s2 = r2 := by
  obtain ⟨hr, n, hn⟩ := h
  obtain ⟨hr2, n2, hn2⟩ := h2
  subst hn; subst hn2
  refine ⟨n + n2, run_le hr n2, ?_⟩
  rw [Nat.add_comm]; exact run_le hr2 n
theorem Runs.inj {l : List Tk} {m : Md} {s : PS} {r r2 : PR} (h : Runs l m s r) (h2 : Runs l m s r2) : r = r2 := by
  obtain ⟨n, h3, h4⟩ := h.two h2
  exact h3.symm.trans h4
theorem Runs.whole {l : List Tk} {r : PR} (h : Runs l .or {} r) : run l (10 * l.length + 10) .or {} = r := by
  obtain ⟨hr, n, hn⟩ := h; exact run_whole hn hr
theorem ok_not {k : Int} {s : PS} : PR.ok k s ≠ .out := fun h => by cases h
theorem bad_not {e p : Int} : PR.bad e p ≠ .out := fun h => by cases h
theorem Runs.or {l : List Tk} {s u : PS} {a : Int} {r : PR} (h : Runs l .row s (.ok a u)) (h2 : Runs l (.orL a) u r) : Runs l .or s r := by
  obtain ⟨n, h3, h4⟩ := h.two h2
  exact .mk (n := n + 1) (by simp only [run]; rw [h3]; exact h4) h2.1
theorem Runs.orB {l : List Tk} {s : PS} {e p : Int} (h : Runs l .row s (.bad e p)) : Runs l .or s (.bad e p) := by
  obtain ⟨hr, n, hn⟩ := h
  exact .mk (n := n + 1) (by simp only [run]; rw [hn]; rfl) bad_not
theorem Runs.row {l : List Tk} {s u : PS} {a : Int} {r : PR} (h : Runs l .post s (.ok a u)) (h2 : Runs l (.rowL a) u r) : Runs l .row s r := by
  obtain ⟨n, h3, h4⟩ := h.two h2
  exact .mk (n := n + 1) (by simp only [run]; rw [h3]; exact h4) h2.1
theorem Runs.rowB {l : List Tk} {s : PS} {e p : Int} (h : Runs l .post s (.bad e p)) : Runs l .row s (.bad e p) := by
  obtain ⟨hr, n, hn⟩ := h
  exact .mk (n := n + 1) (by simp only [run]; rw [hn]; rfl) bad_not
theorem Runs.post {l : List Tk} {s u : PS} {a : Int} {r : PR} (h : Runs l .atom s (.ok a u)) (h2 : Runs l (.postL a) u r) : Runs l .post s r := by
  obtain ⟨n, h3, h4⟩ := h.two h2
  exact .mk (n := n + 1) (by simp only [run]; rw [h3]; exact h4) h2.1
theorem Runs.postB {l : List Tk} {s : PS} {e p : Int} (h : Runs l .atom s (.bad e p)) : Runs l .post s (.bad e p) := by
  obtain ⟨hr, n, hn⟩ := h
  exact .mk (n := n + 1) (by simp only [run]; rw [hn]; rfl) bad_not
theorem Runs.orLGo {l : List Tk} {s u : PS} {a b : Int} {r : PR} (hk : (tkAt l s.read).kind = 5) (h : Runs l .row s.next (.ok b u)) (h2 : Runs l (.orL (u.count : Int)) (u.lay { kind := 5, a := a, b := b } (-1)) r) : Runs l (.orL a) s r := by
  obtain ⟨n, h3, h4⟩ := h.two h2
  exact .mk (n := n + 1) (by simp only [run]; rw [if_pos hk, h3]; exact h4) h2.1
theorem Runs.orLB {l : List Tk} {s : PS} {a e p : Int} (hk : (tkAt l s.read).kind = 5) (h : Runs l .row s.next (.bad e p)) : Runs l (.orL a) s (.bad e p) := by
  obtain ⟨hr, n, hn⟩ := h
  exact .mk (n := n + 1) (by simp only [run]; rw [if_pos hk, hn]; rfl) bad_not
theorem Runs.orLStop {l : List Tk} {s : PS} {a : Int} (hk : ¬((tkAt l s.read).kind = 5)) : Runs l (.orL a) s (.ok a s) :=
  .mk (n := 1) (by simp only [run]; rw [if_neg hk]) ok_not
theorem Runs.rowLGo {l : List Tk} {s u : PS} {a b : Int} {r : PR} (hk : begK (tkAt l s.read).kind = true) (h : Runs l .post s (.ok b u)) (h2 : Runs l (.rowL (u.count : Int)) (u.lay { kind := 4, a := a, b := b } (-1)) r) : Runs l (.rowL a) s r := by
  obtain ⟨n, h3, h4⟩ := h.two h2
  exact .mk (n := n + 1) (by simp only [run]; rw [if_pos hk, h3]; exact h4) h2.1
theorem Runs.rowLB {l : List Tk} {s : PS} {a e p : Int} (hk : begK (tkAt l s.read).kind = true) (h : Runs l .post s (.bad e p)) : Runs l (.rowL a) s (.bad e p) := by
  obtain ⟨hr, n, hn⟩ := h
  exact .mk (n := n + 1) (by simp only [run]; rw [if_pos hk, hn]; rfl) bad_not
theorem Runs.rowLStop {l : List Tk} {s : PS} {a : Int} (hk : ¬(begK (tkAt l s.read).kind = true)) : Runs l (.rowL a) s (.ok a s) :=
  .mk (n := 1) (by simp only [run]; rw [if_neg hk]) ok_not
theorem Runs.star {l : List Tk} {s : PS} {a : Int} {r : PR} (hk : (tkAt l s.read).kind = 6) (h : Runs l (.postL (s.count : Int)) (s.lay { kind := 6, a := a } (tkAt l s.read).at_).next r) : Runs l (.postL a) s r := by
  obtain ⟨hr, n, hn⟩ := h
  exact .mk (n := n + 1) (by simp only [run]; rw [if_pos hk]; exact hn) hr
theorem Runs.rep {l : List Tk} {s : PS} {a : Int} {r : PR} (hk : (tkAt l s.read).kind = 7) (h : Runs l (.postL (s.count : Int)) (s.lay { kind := 7, a := a, lo := (tkAt l s.read).lo, hi := (tkAt l s.read).hi } (tkAt l s.read).at_).next r) : Runs l (.postL a) s r := by
  obtain ⟨hr, n, hn⟩ := h
  exact .mk (n := n + 1) (by simp only [run]; rw [if_neg (by rw [hk]; decide), if_pos hk]; exact hn) hr
theorem Runs.postLStop {l : List Tk} {s : PS} {a : Int} (h6 : (tkAt l s.read).kind ≠ 6) (h7 : (tkAt l s.read).kind ≠ 7) : Runs l (.postL a) s (.ok a s) :=
  .mk (n := 1) (by simp only [run]; rw [if_neg h6, if_neg h7]) ok_not
theorem Runs.bytes {l : List Tk} {s : PS} (hk : (tkAt l s.read).kind = 1) : Runs l .atom s (.ok (s.count : Int) (s.next.lay { kind := 2, cls := (tkAt l s.read).cls } (-1))) :=
  .mk (n := 1) (by simp only [run]; rw [if_pos hk]; rfl) ok_not
theorem Runs.text {l : List Tk} {s : PS} (hk : (tkAt l s.read).kind = 2) : Runs l .atom s (.ok (s.count : Int) (s.next.lay { kind := 3, text := (tkAt l s.read).text } (-1))) :=
  .mk (n := 1) (by simp only [run]; rw [if_neg (by rw [hk]; decide), if_pos hk]; rfl) ok_not
theorem Runs.atomG {l : List Tk} {s : PS} {r : PR} (hk : (tkAt l s.read).kind = 3) (h : Runs l .group s r) : Runs l .atom s r := by
  obtain ⟨hr, n, hn⟩ := h
  exact .mk (n := n + 1) (by simp only [run]; rw [if_neg (by rw [hk]; decide), if_neg (by rw [hk]; decide), if_pos hk]; exact hn) hr
theorem Runs.frame {l : List Tk} {s u : PS} {a : Int} {k : Int} (hk : (tkAt l s.read).kind = k) (h89 : k = 8 ∨ k = 9) (h : Runs l .group s.next (.ok a u)) : Runs l .atom s (.ok (u.count : Int) (u.lay { kind := k, a := a } (-1))) := by
  obtain ⟨hr, n, hn⟩ := h
  rcases h89 with rfl | rfl
  · exact .mk (n := n + 1) (by simp only [run]; rw [if_neg (by rw [hk]; decide), if_neg (by rw [hk]; decide), if_neg (by rw [hk]; decide), if_pos hk, hn]; rfl) ok_not
  · exact .mk (n := n + 1) (by simp only [run]; rw [if_neg (by rw [hk]; decide), if_neg (by rw [hk]; decide), if_neg (by rw [hk]; decide), if_neg (by rw [hk]; decide), if_pos hk, hn]; rfl) ok_not
theorem Runs.frameB {l : List Tk} {s : PS} {e p : Int} {k : Int} (hk : (tkAt l s.read).kind = k) (h89 : k = 8 ∨ k = 9) (h : Runs l .group s.next (.bad e p)) : Runs l .atom s (.bad e p) := by
  obtain ⟨hr, n, hn⟩ := h
  rcases h89 with rfl | rfl
  · exact .mk (n := n + 1) (by simp only [run]; rw [if_neg (by rw [hk]; decide), if_neg (by rw [hk]; decide), if_neg (by rw [hk]; decide), if_pos hk, hn]; rfl) bad_not
  · exact .mk (n := n + 1) (by simp only [run]; rw [if_neg (by rw [hk]; decide), if_neg (by rw [hk]; decide), if_neg (by rw [hk]; decide), if_neg (by rw [hk]; decide), if_pos hk, hn]; rfl) bad_not
theorem Runs.atomB {l : List Tk} {s : PS} {e p : Int} (hk : begK (tkAt l s.read).kind = false) (h : faultP l s = .bad e p) : Runs l .atom s (.bad e p) := by
  have hn : ∀ j : Int, begK j = true → (tkAt l s.read).kind ≠ j := fun j hj e2 => by rw [e2, hj] at hk; cases hk
  exact .mk (n := 1) (by simp only [run]; rw [if_neg (hn 1 rfl), if_neg (hn 2 rfl), if_neg (hn 3 rfl), if_neg (hn 8 rfl), if_neg (hn 9 rfl)]; exact h) bad_not
def PS.into (l : List Tk) (s : PS) : PS := { s.next with opn := s.opn ++ [(tkAt l s.read).at_] }
theorem Runs.group {l : List Tk} {s u : PS} {a : Int} (hk : (tkAt l s.read).kind = 3) (hd : s.opn.length < 64) (h : Runs l .inside (s.into l) (.ok a u)) (hk2 : (tkAt l u.read).kind = 4) : Runs l .group s (.ok a { u.next with opn := u.opn.dropLast }) := by
  obtain ⟨hr, n, hn⟩ := h
  refine .mk (n := n + 1) ?_ ok_not
  simp only [run]; rw [if_pos hk, if_neg (by omega)]
  unfold PS.into at hn; rw [hn]; simp only [PR.bind]; rw [if_pos hk2]
theorem Runs.groupB {l : List Tk} {s : PS} {e p : Int} (hk : (tkAt l s.read).kind = 3) (hd : s.opn.length < 64) (h : Runs l .inside (s.into l) (.bad e p)) : Runs l .group s (.bad e p) := by
  obtain ⟨hr, n, hn⟩ := h
  refine .mk (n := n + 1) ?_ bad_not
  simp only [run]; rw [if_pos hk, if_neg (by omega)]
  unfold PS.into at hn; rw [hn]; rfl
theorem Runs.groupDeep {l : List Tk} {s : PS} (hk : (tkAt l s.read).kind = 3) (hd : 64 ≤ s.opn.length) : Runs l .group s (.bad 8 (tkAt l s.read).at_) :=
  .mk (n := 1) (by simp only [run]; rw [if_pos hk, if_pos (by omega)]) bad_not
theorem Runs.groupF {l : List Tk} {s : PS} {e p : Int} (hk : (tkAt l s.read).kind ≠ 3) (h : faultP l s = .bad e p) : Runs l .group s (.bad e p) :=
  .mk (n := 1) (by simp only [run]; rw [if_neg hk]; exact h) bad_not
theorem Runs.empty {l : List Tk} {s : PS} (hk : (tkAt l s.read).kind = 4) : Runs l .inside s (.ok (s.count : Int) (s.lay { kind := 1 } (-1))) :=
  .mk (n := 1) (by simp only [run]; rw [if_pos hk]; rfl) ok_not
theorem Runs.inside {l : List Tk} {s : PS} {r : PR} (hk : (tkAt l s.read).kind ≠ 4) (h : Runs l .or s r) : Runs l .inside s r := by
  obtain ⟨hr, n, hn⟩ := h
  exact .mk (n := n + 1) (by simp only [run]; rw [if_neg hk]; exact hn) hr
/-- What each reading stops at. -/
theorem run_stop {l : List Tk} : ∀ (n : Nat) (m : Md) (s : PS) (k : Int) (t : PS), run l n m s = .ok k t → match m with
    | .or => (tkAt l t.read).kind ≠ 5 ∧ begK (tkAt l t.read).kind = false ∧ (tkAt l t.read).kind ≠ 6 ∧ (tkAt l t.read).kind ≠ 7
    | .orL _ => (tkAt l t.read).kind ≠ 5 ∧ (s.read < t.read → begK (tkAt l t.read).kind = false ∧ (tkAt l t.read).kind ≠ 6 ∧ (tkAt l t.read).kind ≠ 7)
    | .row => begK (tkAt l t.read).kind = false ∧ (tkAt l t.read).kind ≠ 6 ∧ (tkAt l t.read).kind ≠ 7
    | .rowL _ => begK (tkAt l t.read).kind = false ∧ (s.read < t.read → (tkAt l t.read).kind ≠ 6 ∧ (tkAt l t.read).kind ≠ 7)
    | .post => (tkAt l t.read).kind ≠ 6 ∧ (tkAt l t.read).kind ≠ 7
    | .postL _ => (tkAt l t.read).kind ≠ 6 ∧ (tkAt l t.read).kind ≠ 7
    | _ => True
  | 0, _, _, _, _, h => by cases h
  | n + 1, .or, s, k, t, h => by
    obtain ⟨a, u, h1, h2⟩ := bind_ok h
    have q1 := run_stop n _ _ _ _ h1
    have q2 := run_stop n _ _ _ _ h2
    have r2 := run_read n _ _ _ _ h2
    simp only [eats] at q1 q2 r2 ⊢
    refine ⟨q2.1, ?_⟩
    rcases Nat.lt_or_ge u.read t.read with hh | hh
    · exact q2.2 hh
    · rw [show t.read = u.read by omega]; exact q1
  | n + 1, .orL a, s, k, t, h => by
    simp only [run] at h
    split at h
    · obtain ⟨b, u, h1, h2⟩ := bind_ok h
      have q1 := run_stop n _ _ _ _ h1
      have q2 := run_stop n _ _ _ _ h2
      have r2 := run_read n _ _ _ _ h2
      have q3 := lay_read u { kind := 5, a := a, b := b } (-1)
      simp only [eats] at q1 q2 r2 ⊢
      refine ⟨q2.1, fun _ => ?_⟩
      rcases Nat.lt_or_ge u.read t.read with hh | hh
      · exact q2.2 (by omega)
      · rw [show t.read = u.read by omega]; exact q1
    · rename_i hk; cases h; exact ⟨hk, fun hh => absurd hh (Nat.lt_irrefl _)⟩
  | n + 1, .row, s, k, t, h => by
    obtain ⟨a, u, h1, h2⟩ := bind_ok h
    have q1 := run_stop n _ _ _ _ h1
    have q2 := run_stop n _ _ _ _ h2
    have r2 := run_read n _ _ _ _ h2
    simp only [eats] at q1 q2 r2 ⊢
    refine ⟨q2.1, ?_⟩
    rcases Nat.lt_or_ge u.read t.read with hh | hh
    · exact q2.2 hh
    · rw [show t.read = u.read by omega]; exact q1
  | n + 1, .rowL a, s, k, t, h => by
    simp only [run] at h
    split at h
    · obtain ⟨b, u, h1, h2⟩ := bind_ok h
      have q1 := run_stop n _ _ _ _ h1
      have q2 := run_stop n _ _ _ _ h2
      have r2 := run_read n _ _ _ _ h2
      have q3 := lay_read u { kind := 4, a := a, b := b } (-1)
      simp only [eats] at q1 q2 r2 ⊢
      refine ⟨q2.1, fun _ => ?_⟩
      rcases Nat.lt_or_ge u.read t.read with hh | hh
      · exact q2.2 (by omega)
      · rw [show t.read = u.read by omega]; exact q1
    · rename_i hk; cases h; exact ⟨by simpa using hk, fun hh => absurd hh (Nat.lt_irrefl _)⟩
  | n + 1, .post, s, k, t, h => by
    obtain ⟨a, u, h1, h2⟩ := bind_ok h
    exact run_stop n _ _ _ _ h2
  | n + 1, .postL a, s, k, t, h => by
    simp only [run] at h
    split at h
    · exact run_stop n _ _ _ _ h
    · rename_i h6
      split at h
      · exact run_stop n _ _ _ _ h
      · rename_i h7; cases h; exact ⟨h6, h7⟩
  | n + 1, .atom, s, k, t, h => trivial
  | n + 1, .group, s, k, t, h => trivial
  | n + 1, .inside, s, k, t, h => trivial
end Go.Proofs.Ytencdlcpnbdlbaa
/- Descriptions out of tokens: tokens that are read elsewhere, with more open ahead of them and more nodes laid, are read as before. -/
namespace Go.Proofs.Ytencdlcpnbdlbaa
open Go
set_option linter.unusedVariables false
set_option linter.unusedSimpArgs false

/-- The same token, at a place of its own. -/
def LikeT (x y : Tk) : Prop := y.kind = x.kind ∧ y.lo = x.lo ∧ y.hi = x.hi ∧ y.cls = x.cls ∧ y.text = x.text
def LikeR (l l2 : List Tk) (d p q : Nat) : Prop := ∀ i, p ≤ i → i < q → LikeT (tkAt l i) (tkAt l2 (i + d))
theorem LikeR.sub {l l2 : List Tk} {d p q p2 q2 : Nat} (h : LikeR l l2 d p q) (hp : p ≤ p2) (hq : q2 ≤ q) : LikeR l l2 d p2 q2 := fun i h1 h2 => h i (by omega) (by omega)
def stepO (k : Int) (n : Nat) : Nat := if k = 3 then n + 1 else if k = 4 then n - 1 else n
/-- How many are open, with so many open ahead. -/
def cntO (l : List Tk) (e : Nat) : Nat → Nat
  | 0 => e
  | i + 1 => stepO (tkAt l i).kind (cntO l e i)
def CntAt (l : List Tk) (e : Nat) (s : PS) : Prop := s.opn.length + e = cntO l e s.read
theorem CntAt.next {l : List Tk} {e : Nat} {s : PS} (h : CntAt l e s) (h3 : (tkAt l s.read).kind ≠ 3) (h4 : (tkAt l s.read).kind ≠ 4) : CntAt l e s.next := by
  unfold CntAt at *
  simp only [PS.next, cntO, stepO]; rw [if_neg h3, if_neg h4]; exact h
theorem CntAt.lay {l : List Tk} {e : Nat} {s : PS} (h : CntAt l e s) (n : Nd) (p : Int) : CntAt l e (s.lay n p) := by
  have q := lay_read s n p
  unfold CntAt at *
  rw [q.1, q.2.1]; exact h
theorem CntAt.into {l : List Tk} {e : Nat} {s : PS} (h : CntAt l e s) (h3 : (tkAt l s.read).kind = 3) : CntAt l e (s.into l) := by
  unfold CntAt at *
  simp only [PS.into, PS.next, cntO, stepO, List.length_append, List.length_cons, List.length_nil]; rw [if_pos h3]; omega
theorem run_cnt {l : List Tk} {e : Nat} : ∀ (n : Nat) (m : Md) (s : PS) (k : Int) (t : PS), run l n m s = .ok k t → CntAt l e s → CntAt l e t
  | 0, _, _, _, _, h, _ => by cases h
  | n + 1, .or, s, k, t, h, hc => by
    obtain ⟨a, u, h1, h2⟩ := bind_ok h
    exact run_cnt n _ _ _ _ h2 (run_cnt n _ _ _ _ h1 hc)
  | n + 1, .orL a, s, k, t, h, hc => by
    simp only [run] at h
    split at h
    · rename_i hk
      obtain ⟨b, u, h1, h2⟩ := bind_ok h
      exact run_cnt n _ _ _ _ h2 ((run_cnt n _ _ _ _ h1 (hc.next (by rw [hk]; decide) (by rw [hk]; decide))).lay _ _)
    · cases h; exact hc
  | n + 1, .row, s, k, t, h, hc => by
    obtain ⟨a, u, h1, h2⟩ := bind_ok h
    exact run_cnt n _ _ _ _ h2 (run_cnt n _ _ _ _ h1 hc)
  | n + 1, .rowL a, s, k, t, h, hc => by
    simp only [run] at h
    split at h
    · obtain ⟨b, u, h1, h2⟩ := bind_ok h
      exact run_cnt n _ _ _ _ h2 ((run_cnt n _ _ _ _ h1 hc).lay _ _)
    · cases h; exact hc
  | n + 1, .post, s, k, t, h, hc => by
    obtain ⟨a, u, h1, h2⟩ := bind_ok h
    exact run_cnt n _ _ _ _ h2 (run_cnt n _ _ _ _ h1 hc)
  | n + 1, .postL a, s, k, t, h, hc => by
    simp only [run] at h
    split at h
    · rename_i hk
      refine run_cnt n _ _ _ _ h (CntAt.next (hc.lay _ _) ?_ ?_) <;> (rw [(lay_read _ _ _).1, hk]; decide)
    · split at h
      · rename_i hk
        refine run_cnt n _ _ _ _ h (CntAt.next (hc.lay _ _) ?_ ?_) <;> (rw [(lay_read _ _ _).1, hk]; decide)
      · cases h; exact hc
  | n + 1, .atom, s, k, t, h, hc => by
    simp only [run] at h
    split at h
    · rename_i hk; cases h; exact (hc.next (by rw [hk]; decide) (by rw [hk]; decide)).lay _ _
    · split at h
      · rename_i hk; cases h; exact (hc.next (by rw [hk]; decide) (by rw [hk]; decide)).lay _ _
      · split at h
        · exact run_cnt n _ _ _ _ h hc
        · split at h
          · rename_i hk
            obtain ⟨b, u, h1, h2⟩ := bind_ok h
            cases h2
            exact (run_cnt n _ _ _ _ h1 (hc.next (by rw [hk]; decide) (by rw [hk]; decide))).lay _ _
          · split at h
            · rename_i hk
              obtain ⟨b, u, h1, h2⟩ := bind_ok h
              cases h2
              exact (run_cnt n _ _ _ _ h1 (hc.next (by rw [hk]; decide) (by rw [hk]; decide))).lay _ _
            · exact absurd h fault_not_ok
  | n + 1, .group, s, k, t, h, hc => by
    simp only [run] at h
    split at h
    · rename_i hk
      split at h
      · cases h
      · obtain ⟨b, u, h1, h2⟩ := bind_ok h
        split at h2
        · rename_i hk2
          cases h2
          have q := run_cnt n _ _ _ _ h1 (hc.into hk)
          have q1 := run_read n _ _ _ _ h1
          unfold CntAt at *
          simp only [PS.next, cntO, stepO]; rw [if_neg (by rw [hk2]; decide), if_pos hk2, ← q, q1.2.1]
          simp
        · exact absurd h2 fault_not_ok
    · exact absurd h fault_not_ok
  | n + 1, .inside, s, k, t, h, hc => by
    simp only [run] at h
    split at h
    · cases h; exact hc.lay _ _
    · exact run_cnt n _ _ _ _ h hc
/-- Where the other one begins. -/
structure St (c d e : Nat) (s s2 : PS) : Prop where
  read : s2.read = s.read + d
  count : s2.count = s.count + c
  opn : s2.opn.length = s.opn.length + e
/-- What was laid, and laid there. -/
structure Aft (c d : Nat) (s s2 t t2 : PS) : Prop where
  read : t2.read = t.read + d
  count : t2.count = t.count + c
  opn : t2.opn = s2.opn
  ex : ∃ N : List Nd, t.nodes = s.nodes ++ N ∧ t2.nodes = s2.nodes ++ N.map (mvN (c : Int))
theorem Aft.trans {c d : Nat} {s s2 u u2 t t2 : PS} (h : Aft c d s s2 u u2) (k : Aft c d u u2 t t2) : Aft c d s s2 t t2 := by
  obtain ⟨N, h1, h2⟩ := h.ex
  obtain ⟨M, k1, k2⟩ := k.ex
  exact ⟨k.read, k.count, k.opn.trans h.opn, N ++ M, by rw [k1, h1, List.append_assoc], by rw [k2, h2, List.append_assoc, List.map_append]⟩
theorem Aft.st {c d e : Nat} {s s2 t t2 : PS} (h : Aft c d s s2 t t2) (k : St c d e s s2) (ho : t.opn = s.opn) : St c d e t t2 := ⟨h.read, h.count, by rw [h.opn, ho]; exact k.opn⟩
theorem St.aft {c d e : Nat} {s s2 : PS} (h : St c d e s s2) : Aft c d s s2 s s2 := ⟨h.read, h.count, rfl, [], by simp, by simp⟩
theorem St.next {c d e : Nat} {s s2 : PS} (h : St c d e s s2) : St c d e s.next s2.next := ⟨by simp only [PS.next]; have := h.read; omega, h.count, h.opn⟩
theorem Aft.next {c d : Nat} {s s2 t t2 : PS} (h : Aft c d s s2 t t2) : Aft c d s s2 t.next t2.next := ⟨by simp only [PS.next]; have := h.read; omega, h.count, h.opn, h.ex⟩
theorem Aft.next' {c d : Nat} {s s2 t t2 : PS} (h : Aft c d s.next s2.next t t2) : Aft c d s s2 t t2 := ⟨h.read, h.count, h.opn, h.ex⟩
theorem lay_fits {s : PS} (h : s.count < 4096) (n : Nd) (p : Int) : s.lay n p = { s with nodes := s.nodes ++ [n], ats := s.ats ++ [p], count := s.count + 1 } := by unfold PS.lay; rw [if_pos h]
theorem Aft.lay {c d : Nat} {s s2 t t2 : PS} (h : Aft c d s s2 t t2) (hc : t.count + 1 + c ≤ 4096) {n n2 : Nd} (hn : n2 = mvN (c : Int) n) (p p2 : Int) : Aft c d s s2 (t.lay n p) (t2.lay n2 p2) := by
  have hk := h.count
  obtain ⟨N, h1, h2⟩ := h.ex
  rw [lay_fits (by omega), lay_fits (by omega)]
  exact ⟨h.read, by simp only; omega, h.opn, N ++ [n], by simp only; rw [h1, List.append_assoc], by simp only; rw [h2, hn, List.append_assoc, List.map_append]; rfl⟩
/-- How it goes on there. -/
def Goes (l2 : List Tk) (c : Nat) (m : Md) (s2 t2 : PS) (k : Int) : Prop := match m with
  | .or => begK (tkAt l2 t2.read).kind = false → (tkAt l2 t2.read).kind ≠ 6 → (tkAt l2 t2.read).kind ≠ 7 → ∀ r, Runs l2 (.orL (k + c)) t2 r → Runs l2 .or s2 r
  | .orL a => begK (tkAt l2 t2.read).kind = false → (tkAt l2 t2.read).kind ≠ 6 → (tkAt l2 t2.read).kind ≠ 7 → ∀ r, Runs l2 (.orL (k + c)) t2 r → Runs l2 (.orL (a + c)) s2 r
  | .row => (tkAt l2 t2.read).kind ≠ 6 → (tkAt l2 t2.read).kind ≠ 7 → ∀ r, Runs l2 (.rowL (k + c)) t2 r → Runs l2 .row s2 r
  | .rowL a => (tkAt l2 t2.read).kind ≠ 6 → (tkAt l2 t2.read).kind ≠ 7 → ∀ r, Runs l2 (.rowL (k + c)) t2 r → Runs l2 (.rowL (a + c)) s2 r
  | .post => ∀ r, Runs l2 (.postL (k + c)) t2 r → Runs l2 .post s2 r
  | .postL a => ∀ r, Runs l2 (.postL (k + c)) t2 r → Runs l2 (.postL (a + c)) s2 r
  | .atom => Runs l2 .atom s2 (.ok (k + c) t2)
  | .group => Runs l2 .group s2 (.ok (k + c) t2)
  | .inside => (tkAt l2 t2.read).kind = 4 → Runs l2 .inside s2 (.ok (k + c) t2)
theorem stops_at {l l2 : List Tk} {d p q : Nat} {u2 t2 : PS} (hl : LikeR l l2 d p q) (hu : u2.read = p + d) (ht : t2.read = q + d) (hpq : p ≤ q) {P : Int → Prop} (h1 : P (tkAt l p).kind) (h2 : P (tkAt l2 t2.read).kind) : P (tkAt l2 u2.read).kind := by
  rcases Nat.lt_or_ge p q with hh | hh
  · rw [hu, (hl p (Nat.le_refl _) hh).1]; exact h1
  · have : p = q := by omega
    rw [hu, this, ← ht]; exact h2
theorem cast_more {a b c : Nat} (h : b = a + c) : ((b : Nat) : Int) = (a : Int) + (c : Int) := by omega
/-- Tokens like these are read as these. -/
theorem run_goes {l l2 : List Tk} {c d e : Nat} (hm : e = 0 ∨ ∀ i, cntO l e i ≤ 64) : ∀ (n : Nat) (m : Md) (s : PS) (k : Int) (t : PS), run l n m s = .ok k t → ∀ s2, St c d e s s2 → LikeR l l2 d s.read t.read → CntAt l e s → t.count + c ≤ 4096 → ∃ t2, Aft c d s s2 t t2 ∧ Goes l2 c m s2 t2 k
  | 0, _, _, _, _, h, _, _, _, _, _ => by cases h
  | n + 1, .or, s, k, t, h, s2, hs, hl, hc, hf => by
    obtain ⟨a, u, h1, h2⟩ := bind_ok h
    have q1 := run_read n _ _ _ _ h1
    have q2 := run_read n _ _ _ _ h2
    have w1 := run_stop n _ _ _ _ h1
    simp only [eats] at q1 q2 w1
    obtain ⟨u2, A1, G1⟩ := run_goes hm n _ _ _ _ h1 s2 hs (hl.sub (Nat.le_refl _) (by omega)) hc (by omega)
    obtain ⟨t2, A2, G2⟩ := run_goes hm n _ _ _ _ h2 u2 (A1.st hs q1.2.1) (hl.sub (by omega) (Nat.le_refl _)) (run_cnt n _ _ _ _ h1 hc) hf
    refine ⟨t2, A1.trans A2, ?_⟩
    simp only [Goes] at G1 G2 ⊢
    intro b6 b7 b8 r hr
    have L := hl.sub (p2 := u.read) (q2 := t.read) (by omega) (Nat.le_refl _)
    have e1 := stops_at L A1.read A2.read (by omega) (P := fun x => begK x = false) w1.1 b6
    have e2 := stops_at L A1.read A2.read (by omega) (P := fun x => x ≠ 6) w1.2.1 b7
    have e3 := stops_at L A1.read A2.read (by omega) (P := fun x => x ≠ 7) w1.2.2 b8
    exact (G1 e2 e3 _ (Runs.rowLStop (by simp [e1]))).or (G2 b6 b7 b8 r hr)
  | n + 1, .orL a, s, k, t, h, s2, hs, hl, hc, hf => by
    simp only [run] at h
    split at h
    · rename_i hk
      obtain ⟨b, u, h1, h2⟩ := bind_ok h
      have q1 := run_read n _ _ _ _ h1
      have q2 := run_read n _ _ _ _ h2
      have w1 := run_stop n _ _ _ _ h1
      have q3 := lay_read u { kind := 5, a := a, b := b } (-1)
      simp only [eats, PS.next] at q1 q2 w1
      obtain ⟨u2, A1, G1⟩ := run_goes hm n _ _ _ _ h1 s2.next hs.next (hl.sub (by simp only [PS.next]; omega) (by omega)) (hc.next (by rw [hk]; decide) (by rw [hk]; decide)) (by omega)
      have A3 := A1.next'.lay (n := { kind := 5, a := a, b := b }) (n2 := { kind := 5, a := a + c, b := b + c }) (by omega) (by simp [mvN]) (-1) (-1)
      obtain ⟨t2, A2, G2⟩ := run_goes hm n _ _ _ _ h2 _ (A3.st hs (by rw [q3.2.1]; exact q1.2.1)) (hl.sub (by omega) (Nat.le_refl _)) ((run_cnt n _ _ _ _ h1 (hc.next (by rw [hk]; decide) (by rw [hk]; decide))).lay _ _) hf
      refine ⟨t2, A3.trans A2, ?_⟩
      simp only [Goes] at G1 G2 ⊢
      intro b6 b7 b8 r hr
      have L := hl.sub (p2 := u.read) (q2 := t.read) (by omega) (Nat.le_refl _)
      have e1 := stops_at L A1.read A2.read (by omega) (P := fun x => begK x = false) w1.1 b6
      have e2 := stops_at L A1.read A2.read (by omega) (P := fun x => x ≠ 6) w1.2.1 b7
      have e3 := stops_at L A1.read A2.read (by omega) (P := fun x => x ≠ 7) w1.2.2 b8
      have hk2 : (tkAt l2 s2.read).kind = 5 := by rw [hs.read, (hl s.read (Nat.le_refl _) (by omega)).1, hk]
      have G3 := G2 b6 b7 b8 r hr
      rw [← cast_more A1.count] at G3
      exact Runs.orLGo hk2 (G1 e2 e3 _ (Runs.rowLStop (by simp [e1]))) G3
    · cases h; exact ⟨s2, hs.aft, fun _ _ _ r hr => hr⟩
  | n + 1, .row, s, k, t, h, s2, hs, hl, hc, hf => by
    obtain ⟨a, u, h1, h2⟩ := bind_ok h
    have q1 := run_read n _ _ _ _ h1
    have q2 := run_read n _ _ _ _ h2
    have w1 := run_stop n _ _ _ _ h1
    simp only [eats] at q1 q2 w1
    obtain ⟨u2, A1, G1⟩ := run_goes hm n _ _ _ _ h1 s2 hs (hl.sub (Nat.le_refl _) (by omega)) hc (by omega)
    obtain ⟨t2, A2, G2⟩ := run_goes hm n _ _ _ _ h2 u2 (A1.st hs q1.2.1) (hl.sub (by omega) (Nat.le_refl _)) (run_cnt n _ _ _ _ h1 hc) hf
    refine ⟨t2, A1.trans A2, ?_⟩
    simp only [Goes] at G1 G2 ⊢
    intro b7 b8 r hr
    have L := hl.sub (p2 := u.read) (q2 := t.read) (by omega) (Nat.le_refl _)
    have e2 := stops_at L A1.read A2.read (by omega) (P := fun x => x ≠ 6) w1.1 b7
    have e3 := stops_at L A1.read A2.read (by omega) (P := fun x => x ≠ 7) w1.2 b8
    exact (G1 _ (Runs.postLStop e2 e3)).row (G2 b7 b8 r hr)
  | n + 1, .rowL a, s, k, t, h, s2, hs, hl, hc, hf => by
    simp only [run] at h
    split at h
    · rename_i hk
      obtain ⟨b, u, h1, h2⟩ := bind_ok h
      have q1 := run_read n _ _ _ _ h1
      have q2 := run_read n _ _ _ _ h2
      have w1 := run_stop n _ _ _ _ h1
      have q3 := lay_read u { kind := 4, a := a, b := b } (-1)
      simp only [eats] at q1 q2 w1
      obtain ⟨u2, A1, G1⟩ := run_goes hm n _ _ _ _ h1 s2 hs (hl.sub (Nat.le_refl _) (by omega)) hc (by omega)
      have A3 := A1.lay (n := { kind := 4, a := a, b := b }) (n2 := { kind := 4, a := a + c, b := b + c }) (by omega) (by simp [mvN]) (-1) (-1)
      obtain ⟨t2, A2, G2⟩ := run_goes hm n _ _ _ _ h2 _ (A3.st hs (by rw [q3.2.1]; exact q1.2.1)) (hl.sub (by omega) (Nat.le_refl _)) ((run_cnt n _ _ _ _ h1 hc).lay _ _) hf
      refine ⟨t2, A3.trans A2, ?_⟩
      simp only [Goes] at G1 G2 ⊢
      intro b7 b8 r hr
      have L := hl.sub (p2 := u.read) (q2 := t.read) (by omega) (Nat.le_refl _)
      have e2 := stops_at L A1.read A2.read (by omega) (P := fun x => x ≠ 6) w1.1 b7
      have e3 := stops_at L A1.read A2.read (by omega) (P := fun x => x ≠ 7) w1.2 b8
      have hk2 : begK (tkAt l2 s2.read).kind = true := by rw [hs.read, (hl s.read (Nat.le_refl _) (by omega)).1, hk]
      have G3 := G2 b7 b8 r hr
      rw [← cast_more A1.count] at G3
      exact Runs.rowLGo hk2 (G1 _ (Runs.postLStop e2 e3)) G3
    · cases h; exact ⟨s2, hs.aft, fun _ _ r hr => hr⟩
  | n + 1, .post, s, k, t, h, s2, hs, hl, hc, hf => by
    obtain ⟨a, u, h1, h2⟩ := bind_ok h
    have q1 := run_read n _ _ _ _ h1
    have q2 := run_read n _ _ _ _ h2
    simp only [eats] at q1 q2
    obtain ⟨u2, A1, G1⟩ := run_goes hm n _ _ _ _ h1 s2 hs (hl.sub (Nat.le_refl _) (by omega)) hc (by omega)
    obtain ⟨t2, A2, G2⟩ := run_goes hm n _ _ _ _ h2 u2 (A1.st hs q1.2.1) (hl.sub (by omega) (Nat.le_refl _)) (run_cnt n _ _ _ _ h1 hc) hf
    refine ⟨t2, A1.trans A2, ?_⟩
    simp only [Goes] at G1 G2 ⊢
    exact fun r hr => G1.post (G2 r hr)
  | n + 1, .postL a, s, k, t, h, s2, hs, hl, hc, hf => by
    simp only [run] at h
    split at h
    · rename_i hk
      have q2 := run_read n _ _ _ _ h
      have q3 := lay_read s { kind := 6, a := a } (tkAt l s.read).at_
      simp only [eats, PS.next] at q2
      have A3 := (hs.aft.lay (n := { kind := 6, a := a }) (n2 := { kind := 6, a := a + c }) (by omega) (by simp [mvN]) (tkAt l s.read).at_ (tkAt l2 s2.read).at_).next
      have C3 : CntAt l e (s.lay { kind := 6, a := a } (tkAt l s.read).at_).next := CntAt.next (hc.lay _ _) (by rw [q3.1, hk]; decide) (by rw [q3.1, hk]; decide)
      obtain ⟨t2, A2, G2⟩ := run_goes hm n _ _ _ _ h _ (A3.st hs q3.2.1) (hl.sub (by simp only [PS.next]; omega) (Nat.le_refl _)) C3 hf
      refine ⟨t2, A3.trans A2, ?_⟩
      simp only [Goes] at G2 ⊢
      intro r hr
      have hk2 : (tkAt l2 s2.read).kind = 6 := by rw [hs.read, (hl s.read (Nat.le_refl _) (by omega)).1, hk]
      have G3 := G2 r hr
      rw [← cast_more hs.count] at G3
      exact Runs.star hk2 G3
    · split at h
      · rename_i hk
        have q2 := run_read n _ _ _ _ h
        have q3 := lay_read s { kind := 7, a := a, lo := (tkAt l s.read).lo, hi := (tkAt l s.read).hi } (tkAt l s.read).at_
        simp only [eats, PS.next] at q2
        have T := hl s.read (Nat.le_refl _) (by omega)
        rw [← hs.read] at T
        have A3 := (hs.aft.lay (n := { kind := 7, a := a, lo := (tkAt l s.read).lo, hi := (tkAt l s.read).hi }) (n2 := { kind := 7, a := a + c, lo := (tkAt l2 s2.read).lo, hi := (tkAt l2 s2.read).hi }) (by omega) (by rw [T.2.1, T.2.2.1]; simp [mvN]) (tkAt l s.read).at_ (tkAt l2 s2.read).at_).next
        have C3 : CntAt l e (s.lay { kind := 7, a := a, lo := (tkAt l s.read).lo, hi := (tkAt l s.read).hi } (tkAt l s.read).at_).next := CntAt.next (hc.lay _ _) (by rw [q3.1, hk]; decide) (by rw [q3.1, hk]; decide)
        obtain ⟨t2, A2, G2⟩ := run_goes hm n _ _ _ _ h _ (A3.st hs q3.2.1) (hl.sub (by simp only [PS.next]; omega) (Nat.le_refl _)) C3 hf
        refine ⟨t2, A3.trans A2, ?_⟩
        simp only [Goes] at G2 ⊢
        intro r hr
        have G3 := G2 r hr
        rw [← cast_more hs.count] at G3
        exact Runs.rep (by rw [T.1, hk]) G3
      · cases h; exact ⟨s2, hs.aft, fun r hr => hr⟩
  | n + 1, .atom, s, k, t, h, s2, hs, hl, hc, hf => by
    have q0 := run_read (n + 1) _ _ _ _ h
    simp only [eats] at q0
    have T := hl s.read (Nat.le_refl _) (by omega)
    rw [← hs.read] at T
    have E := cast_more hs.count
    simp only [run] at h
    split at h
    · rename_i hk
      cases h
      have q3 := lay_read s.next { kind := 2, cls := (tkAt l s.read).cls } (-1)
      refine ⟨_, (hs.aft.next).lay (n2 := { kind := 2, cls := (tkAt l2 s2.read).cls }) (by have := q3.2.2; simp only [PS.next] at this hf ⊢; omega) (by rw [T.2.2.2.1]; simp [mvN]) (-1) (-1), ?_⟩
      simp only [Goes, PS.next]; rw [← E]; exact Runs.bytes (by rw [T.1, hk])
    · split at h
      · rename_i hk
        cases h
        have q3 := lay_read s.next { kind := 3, text := (tkAt l s.read).text } (-1)
        refine ⟨_, (hs.aft.next).lay (n2 := { kind := 3, text := (tkAt l2 s2.read).text }) (by have := q3.2.2; simp only [PS.next] at this hf ⊢; omega) (by rw [T.2.2.2.2]; simp [mvN]) (-1) (-1), ?_⟩
        simp only [Goes, PS.next]; rw [← E]; exact Runs.text (by rw [T.1, hk])
      · split at h
        · rename_i hk
          obtain ⟨t2, A2, G2⟩ := run_goes hm n _ _ _ _ h s2 hs hl hc hf
          exact ⟨t2, A2, Runs.atomG (by rw [T.1, hk]) G2⟩
        · split at h
          · rename_i hk
            obtain ⟨b, u, h1, h2⟩ := bind_ok h
            have q3 := lay_read u { kind := 8, a := b } (-1)
            cases h2
            obtain ⟨u2, A1, G1⟩ := run_goes hm n _ _ _ _ h1 s2.next hs.next (hl.sub (by simp only [PS.next]; omega) (by omega)) (hc.next (by rw [hk]; decide) (by rw [hk]; decide)) (by omega)
            refine ⟨_, A1.next'.lay (n2 := { kind := 8, a := b + c }) (by omega) (by simp [mvN]) (-1) (-1), ?_⟩
            simp only [Goes] at G1 ⊢; rw [← cast_more A1.count]; exact Runs.frame (by rw [T.1, hk]) (.inl rfl) G1
          · split at h
            · rename_i hk
              obtain ⟨b, u, h1, h2⟩ := bind_ok h
              have q3 := lay_read u { kind := 9, a := b } (-1)
              cases h2
              obtain ⟨u2, A1, G1⟩ := run_goes hm n _ _ _ _ h1 s2.next hs.next (hl.sub (by simp only [PS.next]; omega) (by omega)) (hc.next (by rw [hk]; decide) (by rw [hk]; decide)) (by omega)
              refine ⟨_, A1.next'.lay (n2 := { kind := 9, a := b + c }) (by omega) (by simp [mvN]) (-1) (-1), ?_⟩
              simp only [Goes] at G1 ⊢; rw [← cast_more A1.count]; exact Runs.frame (by rw [T.1, hk]) (.inr rfl) G1
            · exact absurd h fault_not_ok
  | n + 1, .group, s, k, t, h, s2, hs, hl, hc, hf => by
    have q0 := run_read (n + 1) _ _ _ _ h
    simp only [eats] at q0
    have T := hl s.read (Nat.le_refl _) (by omega)
    rw [← hs.read] at T
    simp only [run] at h
    split at h
    · rename_i hk
      split at h
      · cases h
      · rename_i hdd
        obtain ⟨b, u, h1, h2⟩ := bind_ok h
        have q1 := run_read n _ _ _ _ h1
        split at h2
        · rename_i hk2
          cases h2
          have C1 := hc.into hk
          have hd : s2.opn.length < 64 := by
            rcases hm with he | hm
            · have := hs.opn; omega
            have := hm (s.read + 1)
            unfold CntAt at hc
            simp only [cntO, stepO] at this
            rw [if_pos hk, ← hc] at this
            have := hs.opn; omega
          have S1 : St c d e (s.into l) (s2.into l2) := ⟨by simp only [PS.into, PS.next]; have := hs.read; omega, hs.count, by simp only [PS.into, List.length_append, List.length_cons, List.length_nil]; have := hs.opn; omega⟩
          simp only [PS.next] at q1
          obtain ⟨u2, A1, G1⟩ := run_goes hm n _ _ _ _ h1 (s2.into l2) S1 (hl.sub (by simp only [PS.next]; omega) (by simp only [PS.next]; omega)) C1 hf
          have T2 := hl u.read (by omega) (by simp only [PS.next]; omega)
          rw [← A1.read] at T2
          refine ⟨{ u2.next with opn := u2.opn.dropLast }, ⟨?_, A1.count, ?_, A1.ex⟩, ?_⟩
          · simp only [PS.next]; have := A1.read; omega
          · simp only; rw [A1.opn]; simp [PS.into]
          · simp only [Goes] at G1 ⊢
            exact Runs.group (by rw [T.1, hk]) hd (G1 (by rw [T2.1, hk2])) (by rw [T2.1, hk2])
        · exact absurd h2 fault_not_ok
    · exact absurd h fault_not_ok
  | n + 1, .inside, s, k, t, h, s2, hs, hl, hc, hf => by
    simp only [run] at h
    split at h
    · rename_i hk
      cases h
      have q3 := lay_read s { kind := 1 } (-1)
      refine ⟨_, hs.aft.lay (n2 := { kind := 1 }) (by omega) (by simp [mvN]) (-1) (-1), ?_⟩
      simp only [Goes]; rw [← cast_more hs.count]
      intro h4
      exact Runs.empty (by rw [(lay_read s2 { kind := 1 } (-1)).1] at h4; exact h4)
    · rename_i hk
      have q1 := run_read n _ _ _ _ h
      simp only [eats] at q1
      obtain ⟨t2, A2, G2⟩ := run_goes hm n _ _ _ _ h s2 hs hl hc hf
      refine ⟨t2, A2, ?_⟩
      simp only [Goes] at G2 ⊢
      intro h4
      have T := hl s.read (Nat.le_refl _) (by omega)
      rw [← hs.read] at T
      exact Runs.inside (by rw [T.1]; exact hk) (G2 (by rw [h4]; rfl) (by rw [h4]; decide) (by rw [h4]; decide) _ (Runs.orLStop (by rw [h4]; decide)))
end Go.Proofs.Ytencdlcpnbdlbaa
/- The document's examples of the parser: the plain mathematics. -/
namespace Go.Proofs.Ytencdlcpnbdlbaa
open Go
set_option linter.unusedVariables false
set_option maxRecDepth 100000

/-- The tokens of a text. -/
def tksOf (t : List UInt8) : List Tk := match readL t 0 0 with
  | .ok r => r.map Tok.tk
  | .error _ => []
def aw1 : List UInt8 := [46, 42, 124, 98, 40, 41]
def aw2 : List UInt8 := [40, 40, 46]
def aw3 : List UInt8 := [46, 124, 42]
def aw4 : List UInt8 := [46, 41]
def aw5 : List UInt8 := [40, 46, 41]
theorem aw1_ok : parseP (tksOf aw1) = .ok 4 { read := 7, opn := [], nodes := [{ kind := 2, cls := BitVec.allOnes 256 }, { kind := 6, a := 0 }, { kind := 1 }, { kind := 8, a := 2 }, { kind := 5, a := 1, b := 3 }], ats := [-1, 1, -1, -1, -1], count := 5 } := by kernel_rfl
theorem aw2_bad : parseP (tksOf aw2) = .bad 6 1 := by kernel_rfl
theorem aw3_bad : parseP (tksOf aw3) = .bad 7 2 := by kernel_rfl
theorem aw4_bad : parseP (tksOf aw4) = .bad 7 1 := by kernel_rfl
/-- Of constant tokens. -/
structure AwT (l : List Tk) : Prop where
  ends : TEnds l
  txt : ∀ t ∈ l, t.text.length ≤ 100
  few : l.length ≤ 10
theorem awT (l : List Tk) (h : (decide (0 < l.length) && decide ((tkAt l (l.length - 1)).kind = 10) && ((List.range (l.length - 1)).all fun p => decide ((tkAt l p).kind ≠ 10)) && (l.all fun t => decide (t.text.length ≤ 100)) && decide (l.length ≤ 10)) = true) : AwT l := by
  simp only [Bool.and_eq_true, decide_eq_true_eq, List.all_eq_true] at h
  obtain ⟨⟨⟨⟨h1, h2⟩, h3⟩, h4⟩, h5⟩ := h
  exact ⟨⟨h1, h2, fun p hp => h3 p (List.mem_range.2 hp)⟩, h4, h5⟩
theorem aw1_t : AwT (tksOf aw1) := awT _ (by kernel_rfl)
theorem aw2_t : AwT (tksOf aw2) := awT _ (by kernel_rfl)
theorem aw3_t : AwT (tksOf aw3) := awT _ (by kernel_rfl)
theorem aw4_t : AwT (tksOf aw4) := awT _ (by kernel_rfl)
theorem aw5_t : AwT (tksOf aw5) := awT _ (by kernel_rfl)
theorem aw5_deep : (decide (∀ i, i < (tksOf aw5).length → cntO (tksOf aw5) 0 (i + 1) ≤ 64)) = true := by kernel_rfl
end Go.Proofs.Ytencdlcpnbdlbaa
