/- Descriptions out of tokens: tokens that are read elsewhere, with more open ahead of them and more nodes laid, are read as before. -/
import Derived.Test.YtcgjmnhmhiddkaaGreatDoorM18
import Derived.Test.YtcgjmnhmhiddkaaGreatDoorM16
namespace Go.Proofs.YtcgjmnhmhiddkaaGreatDoor
open Go
set_option linter.unusedVariables false
set_option linter.unusedSimpArgs false

/-- The same token, at a place of its own. -/
def LikeT (x y : Tk) : Prop := y.kind = x.kind ∧ y.lo = x.lo ∧ y.hi = x.hi ∧ y.cls = x.cls ∧ y.text = x.text
def LikeR (l l2 : List Tk) (d p q : Nat) : Prop := ∀ i, p ≤ i → i < q → LikeT (tkAt l i) (tkAt l2 (i + d))
theorem LikeR.sub {l l2 : List Tk} {d p q p2 q2 : Nat} (h : LikeR l l2 d p q) (hp : p ≤ p2) (hq : q2 ≤ q) : LikeR l l2 d p2 q2 := fun i h1 h2 => h i (by omega) (by omega)
def stepO (k : Int) (n : Nat) : Nat := if k = 3 then n + 1 else if k = 4 then n - 1 else n
/-- How many are open, with so many open ahead. -/
def cntO (l : List Tk) (e : Nat) : Nat → Nat
  | 0 => e
  | i + 1 => stepO (tkAt l i).kind (cntO l e i)
def CntAt (l : List Tk) (e : Nat) (s : PS) : Prop := s.opn.length + e = cntO l e s.read
theorem CntAt.next {l : List Tk} {e : Nat} {s : PS} (h : CntAt l e s) (h3 : (tkAt l s.read).kind ≠ 3) (h4 : (tkAt l s.read).kind ≠ 4) : CntAt l e s.next := by
  unfold CntAt at *
  simp only [PS.next, cntO, stepO]; rw [if_neg h3, if_neg h4]; exact h
theorem CntAt.lay {l : List Tk} {e : Nat} {s : PS} (h : CntAt l e s) (n : Nd) (p : Int) : CntAt l e (s.lay n p) := by
  have q := lay_read s n p
  unfold CntAt at *
  rw [q.1, q.2.1]; exact h
theorem CntAt.into {l : List Tk} {e : Nat} {s : PS} (h : CntAt l e s) (h3 : (tkAt l s.read).kind = 3) : CntAt l e (s.into l) := by
  unfold CntAt at *
  simp only [PS.into, PS.next, cntO, stepO, List.length_append, List.length_cons, List.length_nil]; rw [if_pos h3]; omega
theorem run_cnt {l : List Tk} {e : Nat} : ∀ (n : Nat) (m : Md) (s : PS) (k : Int) (t : PS), run l n m s = .ok k t → CntAt l e s → CntAt l e t
  | 0, _, _, _, _, h, _ => by cases h
  | n + 1, .or, s, k, t, h, hc => by
    obtain ⟨a, u, h1, h2⟩ := bind_ok h
    exact run_cnt n _ _ _ _ h2 (run_cnt n _ _ _ _ h1 hc)
  | n + 1, .orL a, s, k, t, h, hc => by
    simp only [run] at h
    split at h
    · rename_i hk
      obtain ⟨b, u, h1, h2⟩ := bind_ok h
      exact run_cnt n _ _ _ _ h2 ((run_cnt n _ _ _ _ h1 (hc.next (by rw [hk]; decide) (by rw [hk]; decide))).lay _ _)
    · cases h; exact hc
  | n + 1, .row, s, k, t, h, hc => by
    obtain ⟨a, u, h1, h2⟩ := bind_ok h
    exact run_cnt n _ _ _ _ h2 (run_cnt n _ _ _ _ h1 hc)
  | n + 1, .rowL a, s, k, t, h, hc => by
    simp only [run] at h
    split at h
    · obtain ⟨b, u, h1, h2⟩ := bind_ok h
      exact run_cnt n _ _ _ _ h2 ((run_cnt n _ _ _ _ h1 hc).lay _ _)
    · cases h; exact hc
  | n + 1, .post, s, k, t, h, hc => by
    obtain ⟨a, u, h1, h2⟩ := bind_ok h
    exact run_cnt n _ _ _ _ h2 (run_cnt n _ _ _ _ h1 hc)
  | n + 1, .postL a, s, k, t, h, hc => by
    simp only [run] at h
    split at h
    · rename_i hk
      refine run_cnt n _ _ _ _ h (CntAt.next (hc.lay _ _) ?_ ?_) <;> (rw [(lay_read _ _ _).1, hk]; decide)
    · split at h
      · rename_i hk
        refine run_cnt n _ _ _ _ h (CntAt.next (hc.lay _ _) ?_ ?_) <;> (rw [(lay_read _ _ _).1, hk]; decide)
      · cases h; exact hc
  | n + 1, .atom, s, k, t, h, hc => by
    simp only [run] at h
    split at h
    · rename_i hk; cases h; exact (hc.next (by rw [hk]; decide) (by rw [hk]; decide)).lay _ _
    · split at h
      · rename_i hk; cases h; exact (hc.next (by rw [hk]; decide) (by rw [hk]; decide)).lay _ _
      · split at h
        · exact run_cnt n _ _ _ _ h hc
        · split at h
          · rename_i hk
            obtain ⟨b, u, h1, h2⟩ := bind_ok h
            cases h2
            exact (run_cnt n _ _ _ _ h1 (hc.next (by rw [hk]; decide) (by rw [hk]; decide))).lay _ _
          · split at h
            · rename_i hk
              obtain ⟨b, u, h1, h2⟩ := bind_ok h
              cases h2
              exact (run_cnt n _ _ _ _ h1 (hc.next (by rw [hk]; decide) (by rw [hk]; decide))).lay _ _
            · exact absurd h fault_not_ok
  | n + 1, .group, s, k, t, h, hc => by
    simp only [run] at h
    split at h
    · rename_i hk
      split at h
      · cases h
      · obtain ⟨b, u, h1, h2⟩ := bind_ok h
        split at h2
        · rename_i hk2
          cases h2
          have q := run_cnt n _ _ _ _ h1 (hc.into hk)
          have q1 := run_read n _ _ _ _ h1
          unfold CntAt at *
          simp only [PS.next, cntO, stepO]; rw [if_neg (by rw [hk2]; decide), if_pos hk2, ← q, q1.2.1]
          simp
        · exact absurd h2 fault_not_ok
    · exact absurd h fault_not_ok
  | n + 1, .inside, s, k, t, h, hc => by
    simp only [run] at h
    split at h
    · cases h; exact hc.lay _ _
    · exact run_cnt n _ _ _ _ h hc
/-- Where the other one begins. -/
structure St (c d e : Nat) (s s2 : PS) : Prop where
  read : s2.read = s.read + d
  count : s2.count = s.count + c
  opn : s2.opn.length = s.opn.length + e
/-- What was laid, and laid there. -/
structure Aft (c d : Nat) (s s2 t t2 : PS) : Prop where
  read : t2.read = t.read + d
  count : t2.count = t.count + c
  opn : t2.opn = s2.opn
  ex : ∃ N : List Nd, t.nodes = s.nodes ++ N ∧ t2.nodes = s2.nodes ++ N.map (mvN (c : Int))
theorem Aft.trans {c d : Nat} {s s2 u u2 t t2 : PS} (h : Aft c d s s2 u u2) (k : Aft c d u u2 t t2) : Aft c d s s2 t t2 := by
  obtain ⟨N, h1, h2⟩ := h.ex
  obtain ⟨M, k1, k2⟩ := k.ex
  exact ⟨k.read, k.count, k.opn.trans h.opn, N ++ M, by rw [k1, h1, List.append_assoc], by rw [k2, h2, List.append_assoc, List.map_append]⟩
theorem Aft.st {c d e : Nat} {s s2 t t2 : PS} (h : Aft c d s s2 t t2) (k : St c d e s s2) (ho : t.opn = s.opn) : St c d e t t2 := ⟨h.read, h.count, by rw [h.opn, ho]; exact k.opn⟩
theorem St.aft {c d e : Nat} {s s2 : PS} (h : St c d e s s2) : Aft c d s s2 s s2 := ⟨h.read, h.count, rfl, [], by simp, by simp⟩
theorem St.next {c d e : Nat} {s s2 : PS} (h : St c d e s s2) : St c d e s.next s2.next := ⟨by simp only [PS.next]; have := h.read; omega, h.count, h.opn⟩
theorem Aft.next {c d : Nat} {s s2 t t2 : PS} (h : Aft c d s s2 t t2) : Aft c d s s2 t.next t2.next := ⟨by simp only [PS.next]; have := h.read; omega, h.count, h.opn, h.ex⟩
theorem Aft.next' {c d : Nat} {s s2 t t2 : PS} (h : Aft c d s.next s2.next t t2) : Aft c d s s2 t t2 := ⟨h.read, h.count, h.opn, h.ex⟩
theorem lay_fits {s : PS} (h : s.count < 4096) (n : Nd) (p : Int) : s.lay n p = { s with nodes := s.nodes ++ [n], ats := s.ats ++ [p], count := s.count + 1 } := by unfold PS.lay; rw [if_pos h]
theorem Aft.lay {c d : Nat} {s s2 t t2 : PS} (h : Aft c d s s2 t t2) (hc : t.count + 1 + c ≤ 4096) {n n2 : Nd} (hn : n2 = mvN (c : Int) n) (p p2 : Int) : Aft c d s s2 (t.lay n p) (t2.lay n2 p2) := by
  have hk := h.count
  obtain ⟨N, h1, h2⟩ := h.ex
  rw [lay_fits (by omega), lay_fits (by omega)]
  exact ⟨h.read, by simp only; omega, h.opn, N ++ [n], by simp only; rw [h1, List.append_assoc], by simp only; rw [h2, hn, List.append_assoc, List.map_append]; rfl⟩
/-- How it goes on there. -/
def Goes (l2 : List Tk) (c : Nat) (m : Md) (s2 t2 : PS) (k : Int) : Prop := match m with
  | .or => begK (tkAt l2 t2.read).kind = false → (tkAt l2 t2.read).kind ≠ 6 → (tkAt l2 t2.read).kind ≠ 7 → ∀ r, Runs l2 (.orL (k + c)) t2 r → Runs l2 .or s2 r
  | .orL a => begK (tkAt l2 t2.read).kind = false → (tkAt l2 t2.read).kind ≠ 6 → (tkAt l2 t2.read).kind ≠ 7 → ∀ r, Runs l2 (.orL (k + c)) t2 r → Runs l2 (.orL (a + c)) s2 r
  | .row => (tkAt l2 t2.read).kind ≠ 6 → (tkAt l2 t2.read).kind ≠ 7 → ∀ r, Runs l2 (.rowL (k + c)) t2 r → Runs l2 .row s2 r
  | .rowL a => (tkAt l2 t2.read).kind ≠ 6 → (tkAt l2 t2.read).kind ≠ 7 → ∀ r, Runs l2 (.rowL (k + c)) t2 r → Runs l2 (.rowL (a + c)) s2 r
  | .post => ∀ r, Runs l2 (.postL (k + c)) t2 r → Runs l2 .post s2 r
  | .postL a => ∀ r, Runs l2 (.postL (k + c)) t2 r → Runs l2 (.postL (a + c)) s2 r
  | .atom => Runs l2 .atom s2 (.ok (k + c) t2)
  | .group => Runs l2 .group s2 (.ok (k + c) t2)
  | .inside => (tkAt l2 t2.read).kind = 4 → Runs l2 .inside s2 (.ok (k + c) t2)
theorem stops_at {l l2 : List Tk} {d p q : Nat} {u2 t2 : PS} (hl : LikeR l l2 d p q) (hu : u2.read = p + d) (ht : t2.read = q + d) (hpq : p ≤ q) {P : Int → Prop} (h1 : P (tkAt l p).kind) (h2 : P (tkAt l2 t2.read).kind) : P (tkAt l2 u2.read).kind := by
  rcases Nat.lt_or_ge p q with hh | hh
  · rw [hu, (hl p (Nat.le_refl _) hh).1]; exact h1
  · have : p = q := by omega
    rw [hu, this, ← ht]; exact h2
theorem cast_more {a b c : Nat} (h : b = a + c) : ((b : Nat) : Int) = (a : Int) + (c : Int) := by omega
/-- Tokens like these are read as these. -/
theorem run_goes {l l2 : List Tk} {c d e : Nat} (hm : e = 0 ∨ ∀ i, cntO l e i ≤ 64) : ∀ (n : Nat) (m : Md) (s : PS) (k : Int) (t : PS), run l n m s = .ok k t → ∀ s2, St c d e s s2 → LikeR l l2 d s.read t.read → CntAt l e s → t.count + c ≤ 4096 → ∃ t2, Aft c d s s2 t t2 ∧ Goes l2 c m s2 t2 k
  | 0, _, _, _, _, h, _, _, _, _, _ => by cases h
  | n + 1, .or, s, k, t, h, s2, hs, hl, hc, hf => by
    obtain ⟨a, u, h1, h2⟩ := bind_ok h
    have q1 := run_read n _ _ _ _ h1
    have q2 := run_read n _ _ _ _ h2
    have w1 := run_stop n _ _ _ _ h1
    simp only [eats] at q1 q2 w1
    obtain ⟨u2, A1, G1⟩ := run_goes hm n _ _ _ _ h1 s2 hs (hl.sub (Nat.le_refl _) (by omega)) hc (by omega)
    obtain ⟨t2, A2, G2⟩ := run_goes hm n _ _ _ _ h2 u2 (A1.st hs q1.2.1) (hl.sub (by omega) (Nat.le_refl _)) (run_cnt n _ _ _ _ h1 hc) hf
    refine ⟨t2, A1.trans A2, ?_⟩
    simp only [Goes] at G1 G2 ⊢
    intro b6 b7 b8 r hr
    have L := hl.sub (p2 := u.read) (q2 := t.read) (by omega) (Nat.le_refl _)
    have e1 := stops_at L A1.read A2.read (by omega) (P := fun x => begK x = false) w1.1 b6
    have e2 := stops_at L A1.read A2.read (by omega) (P := fun x => x ≠ 6) w1.2.1 b7
    have e3 := stops_at L A1.read A2.read (by omega) (P := fun x => x ≠ 7) w1.2.2 b8
    exact (G1 e2 e3 _ (Runs.rowLStop (by simp [e1]))).or (G2 b6 b7 b8 r hr)
  | n + 1, .orL a, s, k, t, h, s2, hs, hl, hc, hf => by
    simp only [run] at h
    split at h
    · rename_i hk
      obtain ⟨b, u, h1, h2⟩ := bind_ok h
      have q1 := run_read n _ _ _ _ h1
      have q2 := run_read n _ _ _ _ h2
      have w1 := run_stop n _ _ _ _ h1
      have q3 := lay_read u { kind := 5, a := a, b := b } (-1)
      simp only [eats, PS.next] at q1 q2 w1
      obtain ⟨u2, A1, G1⟩ := run_goes hm n _ _ _ _ h1 s2.next hs.next (hl.sub (by simp only [PS.next]; omega) (by omega)) (hc.next (by rw [hk]; decide) (by rw [hk]; decide)) (by omega)
      have A3 := A1.next'.lay (n := { kind := 5, a := a, b := b }) (n2 := { kind := 5, a := a + c, b := b + c }) (by omega) (by simp [mvN]) (-1) (-1)
      obtain ⟨t2, A2, G2⟩ := run_goes hm n _ _ _ _ h2 _ (A3.st hs (by rw [q3.2.1]; exact q1.2.1)) (hl.sub (by omega) (Nat.le_refl _)) ((run_cnt n _ _ _ _ h1 (hc.next (by rw [hk]; decide) (by rw [hk]; decide))).lay _ _) hf
      refine ⟨t2, A3.trans A2, ?_⟩
      simp only [Goes] at G1 G2 ⊢
      intro b6 b7 b8 r hr
      have L := hl.sub (p2 := u.read) (q2 := t.read) (by omega) (Nat.le_refl _)
      have e1 := stops_at L A1.read A2.read (by omega) (P := fun x => begK x = false) w1.1 b6
      have e2 := stops_at L A1.read A2.read (by omega) (P := fun x => x ≠ 6) w1.2.1 b7
      have e3 := stops_at L A1.read A2.read (by omega) (P := fun x => x ≠ 7) w1.2.2 b8
      have hk2 : (tkAt l2 s2.read).kind = 5 := by rw [hs.read, (hl s.read (Nat.le_refl _) (by omega)).1, hk]
      have G3 := G2 b6 b7 b8 r hr
      rw [← cast_more A1.count] at G3
      exact Runs.orLGo hk2 (G1 e2 e3 _ (Runs.rowLStop (by simp [e1]))) G3
    · cases h; exact ⟨s2, hs.aft, fun _ _ _ r hr => hr⟩
  | n + 1, .row, s, k, t, h, s2, hs, hl, hc, hf => by
    obtain ⟨a, u, h1, h2⟩ := bind_ok h
    have q1 := run_read n _ _ _ _ h1
    have q2 := run_read n _ _ _ _ h2
    have w1 := run_stop n _ _ _ _ h1
    simp only [eats] at q1 q2 w1
    obtain ⟨u2, A1, G1⟩ := run_goes hm n _ _ _ _ h1 s2 hs (hl.sub (Nat.le_refl _) (by omega)) hc (by omega)
    obtain ⟨t2, A2, G2⟩ := run_goes hm n _ _ _ _ h2 u2 (A1.st hs q1.2.1) (hl.sub (by omega) (Nat.le_refl _)) (run_cnt n _ _ _ _ h1 hc) hf
    refine ⟨t2, A1.trans A2, ?_⟩
    simp only [Goes] at G1 G2 ⊢
    intro b7 b8 r hr
    have L := hl.sub (p2 := u.read) (q2 := t.read) (by omega) (Nat.le_refl _)
    have e2 := stops_at L A1.read A2.read (by omega) (P := fun x => x ≠ 6) w1.1 b7
    have e3 := stops_at L A1.read A2.read (by omega) (P := fun x => x ≠ 7) w1.2 b8
    exact (G1 _ (Runs.postLStop e2 e3)).row (G2 b7 b8 r hr)
  | n + 1, .rowL a, s, k, t, h, s2, hs, hl, hc, hf => by
    simp only [run] at h
    split at h
    · rename_i hk
      obtain ⟨b, u, h1, h2⟩ := bind_ok h
      have q1 := run_read n _ _ _ _ h1
      have q2 := run_read n _ _ _ _ h2
      have w1 := run_stop n _ _ _ _ h1
      have q3 := lay_read u { kind := 4, a := a, b := b } (-1)
      simp only [eats] at q1 q2 w1
      obtain ⟨u2, A1, G1⟩ := run_goes hm n _ _ _ _ h1 s2 hs (hl.sub (Nat.le_refl _) (by omega)) hc (by omega)
      have A3 := A1.lay (n := { kind := 4, a := a, b := b }) (n2 := { kind := 4, a := a + c, b := b + c }) (by omega) (by simp [mvN]) (-1) (-1)
      obtain ⟨t2, A2, G2⟩ := run_goes hm n _ _ _ _ h2 _ (A3.st hs (by rw [q3.2.1]; exact q1.2.1)) (hl.sub (by omega) (Nat.le_refl _)) ((run_cnt n _ _ _ _ h1 hc).lay _ _) hf
      refine ⟨t2, A3.trans A2, ?_⟩
      simp only [Goes] at G1 G2 ⊢
      intro b7 b8 r hr
      have L := hl.sub (p2 := u.read) (q2 := t.read) (by omega) (Nat.le_refl _)
      have e2 := stops_at L A1.read A2.read (by omega) (P := fun x => x ≠ 6) w1.1 b7
      have e3 := stops_at L A1.read A2.read (by omega) (P := fun x => x ≠ 7) w1.2 b8
      have hk2 : begK (tkAt l2 s2.read).kind = true := by rw [hs.read, (hl s.read (Nat.le_refl _) (by omega)).1, hk]
      have G3 := G2 b7 b8 r hr
      rw [← cast_more A1.count] at G3
      exact Runs.rowLGo hk2 (G1 _ (Runs.postLStop e2 e3)) G3
    · cases h; exact ⟨s2, hs.aft, fun _ _ r hr => hr⟩
  | n + 1, .post, s, k, t, h, s2, hs, hl, hc, hf => by
    obtain ⟨a, u, h1, h2⟩ := bind_ok h
    have q1 := run_read n _ _ _ _ h1
    have q2 := run_read n _ _ _ _ h2
    simp only [eats] at q1 q2
    obtain ⟨u2, A1, G1⟩ := run_goes hm n _ _ _ _ h1 s2 hs (hl.sub (Nat.le_refl _) (by omega)) hc (by omega)
    obtain ⟨t2, A2, G2⟩ := run_goes hm n _ _ _ _ h2 u2 (A1.st hs q1.2.1) (hl.sub (by omega) (Nat.le_refl _)) (run_cnt n _ _ _ _ h1 hc) hf
    refine ⟨t2, A1.trans A2, ?_⟩
    simp only [Goes] at G1 G2 ⊢
    exact fun r hr => G1.post (G2 r hr)
  | n + 1, .postL a, s, k, t, h, s2, hs, hl, hc, hf => by
    simp only [run] at h
    split at h
    · rename_i hk
      have q2 := run_read n _ _ _ _ h
      have q3 := lay_read s { kind := 6, a := a } (tkAt l s.read).at_
      simp only [eats, PS.next] at q2
      have A3 := (hs.aft.lay (n := { kind := 6, a := a }) (n2 := { kind := 6, a := a + c }) (by omega) (by simp [mvN]) (tkAt l s.read).at_ (tkAt l2 s2.read).at_).next
      have C3 : CntAt l e (s.lay { kind := 6, a := a } (tkAt l s.read).at_).next := CntAt.next (hc.lay _ _) (by rw [q3.1, hk]; decide) (by rw [q3.1, hk]; decide)
      obtain ⟨t2, A2, G2⟩ := run_goes hm n _ _ _ _ h _ (A3.st hs q3.2.1) (hl.sub (by simp only [PS.next]; omega) (Nat.le_refl _)) C3 hf
      refine ⟨t2, A3.trans A2, ?_⟩
      simp only [Goes] at G2 ⊢
      intro r hr
      have hk2 : (tkAt l2 s2.read).kind = 6 := by rw [hs.read, (hl s.read (Nat.le_refl _) (by omega)).1, hk]
      have G3 := G2 r hr
      rw [← cast_more hs.count] at G3
      exact Runs.star hk2 G3
    · split at h
      · rename_i hk
        have q2 := run_read n _ _ _ _ h
        have q3 := lay_read s { kind := 7, a := a, lo := (tkAt l s.read).lo, hi := (tkAt l s.read).hi } (tkAt l s.read).at_
        simp only [eats, PS.next] at q2
        have T := hl s.read (Nat.le_refl _) (by omega)
        rw [← hs.read] at T
        have A3 := (hs.aft.lay (n := { kind := 7, a := a, lo := (tkAt l s.read).lo, hi := (tkAt l s.read).hi }) (n2 := { kind := 7, a := a + c, lo := (tkAt l2 s2.read).lo, hi := (tkAt l2 s2.read).hi }) (by omega) (by rw [T.2.1, T.2.2.1]; simp [mvN]) (tkAt l s.read).at_ (tkAt l2 s2.read).at_).next
        have C3 : CntAt l e (s.lay { kind := 7, a := a, lo := (tkAt l s.read).lo, hi := (tkAt l s.read).hi } (tkAt l s.read).at_).next := CntAt.next (hc.lay _ _) (by rw [q3.1, hk]; decide) (by rw [q3.1, hk]; decide)
        obtain ⟨t2, A2, G2⟩ := run_goes hm n _ _ _ _ h _ (A3.st hs q3.2.1) (hl.sub (by simp only [PS.next]; omega) (Nat.le_refl _)) C3 hf
        refine ⟨t2, A3.trans A2, ?_⟩
        simp only [Goes] at G2 ⊢
        intro r hr
        have G3 := G2 r hr
        rw [← cast_more hs.count] at G3
        exact Runs.rep (by rw [T.1, hk]) G3
      · cases h; exact ⟨s2, hs.aft, fun r hr => hr⟩
  | n + 1, .atom, s, k, t, h, s2, hs, hl, hc, hf => by
    have q0 := run_read (n + 1) _ _ _ _ h
    simp only [eats] at q0
    have T := hl s.read (Nat.le_refl _) (by omega)
    rw [← hs.read] at T
    have E := cast_more hs.count
    simp only [run] at h
    split at h
    · rename_i hk
      cases h
      have q3 := lay_read s.next { kind := 2, cls := (tkAt l s.read).cls } (-1)
      refine ⟨_, (hs.aft.next).lay (n2 := { kind := 2, cls := (tkAt l2 s2.read).cls }) (by have := q3.2.2; simp only [PS.next] at this hf ⊢; omega) (by rw [T.2.2.2.1]; simp [mvN]) (-1) (-1), ?_⟩
      simp only [Goes, PS.next]; rw [← E]; exact Runs.bytes (by rw [T.1, hk])
    · split at h
      · rename_i hk
        cases h
        have q3 := lay_read s.next { kind := 3, text := (tkAt l s.read).text } (-1)
        refine ⟨_, (hs.aft.next).lay (n2 := { kind := 3, text := (tkAt l2 s2.read).text }) (by have := q3.2.2; simp only [PS.next] at this hf ⊢; omega) (by rw [T.2.2.2.2]; simp [mvN]) (-1) (-1), ?_⟩
        simp only [Goes, PS.next]; rw [← E]; exact Runs.text (by rw [T.1, hk])
      · split at h
        · rename_i hk
          obtain ⟨t2, A2, G2⟩ := run_goes hm n _ _ _ _ h s2 hs hl hc hf
          exact ⟨t2, A2, Runs.atomG (by rw [T.1, hk]) G2⟩
        · split at h
          · rename_i hk
            obtain ⟨b, u, h1, h2⟩ := bind_ok h
            have q3 := lay_read u { kind := 8, a := b } (-1)
            cases h2
            obtain ⟨u2, A1, G1⟩ := run_goes hm n _ _ _ _ h1 s2.next hs.next (hl.sub (by simp only [PS.next]; omega) (by omega)) (hc.next (by rw [hk]; decide) (by rw [hk]; decide)) (by omega)
            refine ⟨_, A1.next'.lay (n2 := { kind := 8, a := b + c }) (by omega) (by simp [mvN]) (-1) (-1), ?_⟩
            simp only [Goes] at G1 ⊢; rw [← cast_more A1.count]; exact Runs.frame (by rw [T.1, hk]) (.inl rfl) G1
          · split at h
            · rename_i hk
              obtain ⟨b, u, h1, h2⟩ := bind_ok h
              have q3 := lay_read u { kind := 9, a := b } (-1)
              cases h2
              obtain ⟨u2, A1, G1⟩ := run_goes hm n _ _ _ _ h1 s2.next hs.next (hl.sub (by simp only [PS.next]; omega) (by omega)) (hc.next (by rw [hk]; decide) (by rw [hk]; decide)) (by omega)
              refine ⟨_, A1.next'.lay (n2 := { kind := 9, a := b + c }) (by omega) (by simp [mvN]) (-1) (-1), ?_⟩
              simp only [Goes] at G1 ⊢; rw [← cast_more A1.count]; exact Runs.frame (by rw [T.1, hk]) (.inr rfl) G1
            · exact absurd h fault_not_ok
  | n + 1, .group, s, k, t, h, s2, hs, hl, hc, hf => by
    have q0 := run_read (n + 1) _ _ _ _ h
    simp only [eats] at q0
    have T := hl s.read (Nat.le_refl _) (by omega)
    rw [← hs.read] at T
    simp only [run] at h
    split at h
    · rename_i hk
      split at h
      · cases h
      · rename_i hdd
        obtain ⟨b, u, h1, h2⟩ := bind_ok h
        have q1 := run_read n _ _ _ _ h1
        split at h2
        · rename_i hk2
          cases h2
          have C1 := hc.into hk
          have hd : s2.opn.length < 64 := by
            rcases hm with he | hm
            · have := hs.opn; omega
            have := hm (s.read + 1)
            unfold CntAt at hc
            simp only [cntO, stepO] at this
            rw [if_pos hk, ← hc] at this
            have := hs.opn; omega
          have S1 : St c d e (s.into l) (s2.into l2) := ⟨by simp only [PS.into, PS.next]; have := hs.read; omega, hs.count, by simp only [PS.into, List.length_append, List.length_cons, List.length_nil]; have := hs.opn; omega⟩
          simp only [PS.next] at q1
          obtain ⟨u2, A1, G1⟩ := run_goes hm n _ _ _ _ h1 (s2.into l2) S1 (hl.sub (by simp only [PS.next]; omega) (by simp only [PS.next]; omega)) C1 hf
          have T2 := hl u.read (by omega) (by simp only [PS.next]; omega)
          rw [← A1.read] at T2
          refine ⟨{ u2.next with opn := u2.opn.dropLast }, ⟨?_, A1.count, ?_, A1.ex⟩, ?_⟩
          · simp only [PS.next]; have := A1.read; omega
          · simp only; rw [A1.opn]; simp [PS.into]
          · simp only [Goes] at G1 ⊢
            exact Runs.group (by rw [T.1, hk]) hd (G1 (by rw [T2.1, hk2])) (by rw [T2.1, hk2])
        · exact absurd h2 fault_not_ok
    · exact absurd h fault_not_ok
  | n + 1, .inside, s, k, t, h, s2, hs, hl, hc, hf => by
    simp only [run] at h
    split at h
    · rename_i hk
      cases h
      have q3 := lay_read s { kind := 1 } (-1)
      refine ⟨_, hs.aft.lay (n2 := { kind := 1 }) (by omega) (by simp [mvN]) (-1) (-1), ?_⟩
      simp only [Goes]; rw [← cast_more hs.count]
      intro h4
      exact Runs.empty (by rw [(lay_read s2 { kind := 1 } (-1)).1] at h4; exact h4)
    · rename_i hk
      have q1 := run_read n _ _ _ _ h
      simp only [eats] at q1
      obtain ⟨t2, A2, G2⟩ := run_goes hm n _ _ _ _ h s2 hs hl hc hf
      refine ⟨t2, A2, ?_⟩
      simp only [Goes] at G2 ⊢
      intro h4
      have T := hl s.read (Nat.le_refl _) (by omega)
      rw [← hs.read] at T
      exact Runs.inside (by rw [T.1]; exact hk) (G2 (by rw [h4]; rfl) (by rw [h4]; decide) (by rw [h4]; decide) _ (Runs.orLStop (by rw [h4]; decide)))
end Go.Proofs.YtcgjmnhmhiddkaaGreatDoor
/- Descriptions out of tokens: what is in brackets, behind a frame, and an or and a row of two. -/
namespace Go.Proofs.YtcgjmnhmhiddkaaGreatDoor
open Go
set_option linter.unusedVariables false
set_option linter.unusedSimpArgs false

/-- What is parsed, but for its TkEnd. -/
structure PDone (l : List Tk) (k : Int) (u : PS) : Prop where
  run : ∃ n, run l n .or {} = .ok k u
  read : u.read = l.length - 1
  opn : u.opn = []
  k : k = (u.count : Int) - 1
  pos : 0 < u.count
  fits : u.count ≤ 4096
  len : u.nodes.length = u.count
  some : 0 < u.read
theorem TEnds.is_last {l : List Tk} (h : TEnds l) {p : Nat} (hp : p < l.length) (hk : (tkAt l p).kind = 10) : p = l.length - 1 := by
  rcases Nat.lt_or_ge p (l.length - 1) with hh | hh
  · exact absurd hk (h.only p hh)
  · omega
theorem parse_done {l : List Tk} (hl : TEnds l) (ht : TkOk l) {k : Int} {t : PS} (h : parseP l = .ok k t) : ∃ u, PDone l k u ∧ t = u.next := by
  obtain ⟨a, u, h1, h2⟩ := bind_ok h
  split at h2
  · rename_i hk
    split at h2
    · cases h2
    · cases h2
      have r := run_form ht _ .or {} 0 k u h1 (by omega) ⟨rfl, fun i hi => by simp at hi⟩ rfl
      have q := run_read _ _ _ _ _ h1
      have rr := run_range hl _ _ _ _ _ h1 hl.pos
      simp only [eats] at q
      exact ⟨u, ⟨⟨_, h1⟩, hl.is_last rr hk, q.2.1, r.k, r.pos, by omega, r.lay.len, by omega⟩, rfl⟩
  · exact absurd h2 fault_not_ok
theorem runs_parse {l : List Tk} {k : Int} {u : PS} (h : Runs l .or {} (.ok k u)) (hk : (tkAt l u.read).kind = 10) (hc : u.count ≤ 4096) : parseP l = .ok k u.next := by
  unfold parseP
  rw [h.whole]
  simp only [PR.bind]
  rw [if_pos hk, if_neg (by omega)]
theorem run_beg {l : List Tk} : ∀ (n : Nat) (m : Md) (s : PS) (k : Int) (t : PS), run l n m s = .ok k t → (m = .or ∨ m = .row ∨ m = .post ∨ m = .atom) → begK (tkAt l s.read).kind = true
  | 0, _, _, _, _, h, _ => by cases h
  | n + 1, m, s, k, t, h, hm => by
    rcases hm with rfl | rfl | rfl | rfl
    · obtain ⟨a, u, h1, h2⟩ := bind_ok h
      exact run_beg n _ _ _ _ h1 (.inr (.inl rfl))
    · obtain ⟨a, u, h1, h2⟩ := bind_ok h
      exact run_beg n _ _ _ _ h1 (.inr (.inr (.inl rfl)))
    · obtain ⟨a, u, h1, h2⟩ := bind_ok h
      exact run_beg n _ _ _ _ h1 (.inr (.inr (.inr rfl)))
    · simp only [run] at h
      split at h
      · rename_i hk; rw [hk]; rfl
      · split at h
        · rename_i hk; rw [hk]; rfl
        · split at h
          · rename_i hk; rw [hk]; rfl
          · split at h
            · rename_i hk; rw [hk]; rfl
            · split at h
              · rename_i hk; rw [hk]; rfl
              · exact absurd h fault_not_ok
/-- What is parsed, in brackets. -/
theorem group_of {l l2 : List Tk} {k : Int} {u s2 : PS} (hd : PDone l k u) (h64 : ∀ i, cntO l (s2.opn.length + 1) i ≤ 64) (h3 : (tkAt l2 s2.read).kind = 3) (hl : ∀ i, i < l.length - 1 → LikeT (tkAt l i) (tkAt l2 (i + (s2.read + 1)))) (h4 : (tkAt l2 (l.length - 1 + (s2.read + 1))).kind = 4) (hf : u.count + s2.count ≤ 4096) :
    ∃ t2, Runs l2 .group s2 (.ok (k + s2.count) t2) ∧ t2.read = s2.read + l.length + 1 ∧ t2.opn = s2.opn ∧ t2.count = u.count + s2.count ∧ t2.nodes = s2.nodes ++ u.nodes.map (mvN (s2.count : Int)) := by
  obtain ⟨n, hn⟩ := hd.run
  have hb := run_beg n _ _ _ _ hn (.inl rfl)
  have hr := hd.read
  have hp := hd.some
  have S : St s2.count (s2.read + 1) (s2.opn.length + 1) {} (s2.into l2) := ⟨by simp [PS.into, PS.next], by simp [PS.into, PS.next], by simp [PS.into]⟩
  obtain ⟨t2, A, G⟩ := run_goes (l2 := l2) (.inr h64) n _ _ _ _ hn _ S (fun i _ hi => hl i (by omega)) (by unfold CntAt; simp [cntO]) hf
  have e2 : (tkAt l2 t2.read).kind = 4 := by rw [A.read, hr]; exact h4
  have e0 := hl 0 (by omega)
  have q := h64 0
  simp only [cntO] at q
  simp only [Goes] at G
  have R := G (by rw [e2]; rfl) (by rw [e2]; decide) (by rw [e2]; decide) _ (Runs.orLStop (by rw [e2]; decide))
  have hk0 : (tkAt l2 (s2.into l2).read).kind ≠ 4 := by
    have : (s2.into l2).read = 0 + (s2.read + 1) := by simp [PS.into, PS.next]
    rw [this, e0.1]; intro hh; rw [show ({} : PS).read = 0 from rfl, hh] at hb; exact absurd hb (by decide)
  refine ⟨_, Runs.group h3 (by omega) (Runs.inside hk0 R) e2, ?_, ?_, A.count, ?_⟩
  · simp only [PS.next]; rw [A.read, hr]; omega
  · simp only; rw [A.opn]; simp [PS.into]
  · obtain ⟨N, h1, h2⟩ := A.ex
    have : u.nodes = N := by rw [h1]; rfl
    simp only [PS.next]; rw [h2, this]; rfl
/-- A row of one post in brackets. -/
theorem row_of {l2 : List Tk} {s2 t2 : PS} {k : Int} (h3 : (tkAt l2 s2.read).kind = 3) (h : Runs l2 .group s2 (.ok k t2)) (hb : begK (tkAt l2 t2.read).kind = false) (h6 : (tkAt l2 t2.read).kind ≠ 6) (h7 : (tkAt l2 t2.read).kind ≠ 7) : Runs l2 .row s2 (.ok k t2) :=
  ((Runs.atomG h3 h).post (Runs.postLStop h6 h7)).row (Runs.rowLStop (by simp [hb]))
def LikeL (l l2 : List Tk) : Prop := ∀ i, LikeT (tkAt l i) (tkAt l2 i)
theorem tk_left {a b : List Tk} {i : Nat} (h : i < a.length) : tkAt (a ++ b) i = tkAt a i := by unfold tkAt; rw [List.getD_eq_getElem?_getD, List.getD_eq_getElem?_getD, List.getElem?_append_left h]
theorem tk_right {a b : List Tk} {i : Nat} (h : a.length ≤ i) : tkAt (a ++ b) i = tkAt b (i - a.length) := by unfold tkAt; rw [List.getD_eq_getElem?_getD, List.getD_eq_getElem?_getD, List.getElem?_append_right h]
theorem tk_drop {a : List Tk} {i : Nat} (h : i < a.length - 1) : tkAt a.dropLast i = tkAt a i := by unfold tkAt; rw [List.getD_eq_getElem?_getD, List.getD_eq_getElem?_getD, List.getElem?_dropLast, if_pos h]
theorem tk_cons {x : Tk} {a : List Tk} {i : Nat} : tkAt (x :: a) (i + 1) = tkAt a i := rfl
def inBr (a : List Tk) : List Tk := { kind := 3 } :: (a.dropLast ++ [{ kind := 4 }, tkEnd])
theorem inBr_len {a : List Tk} (h : 0 < a.length) : (inBr a).length = a.length + 2 := by simp [inBr]; omega
theorem inBr_in {a : List Tk} {i : Nat} (h : i < a.length - 1) : tkAt (inBr a) (i + 1) = tkAt a i := by
  unfold inBr; rw [tk_cons, tk_left (by simp; omega), tk_drop h]
theorem inBr_shut {a : List Tk} (h : 0 < a.length) : (tkAt (inBr a) a.length).kind = 4 := by
  obtain ⟨j, hj⟩ : ∃ j, a.length = j + 1 := ⟨a.length - 1, by omega⟩
  rw [hj]; unfold inBr; rw [tk_cons, tk_right (by simp; omega), show j - a.dropLast.length = 0 by simp; omega]; rfl
theorem inBr_end {a : List Tk} (h : 0 < a.length) : (tkAt (inBr a) (a.length + 1)).kind = 10 := by
  unfold inBr; rw [tk_cons, tk_right (by simp), show a.length - a.dropLast.length = 1 by simp; omega]; rfl
/-- In brackets, with some tokens ahead. -/
theorem br_of {l l2 : List Tk} {k : Int} {u s2 : PS} (he : TEnds l) (hd : PDone l k u) (h64 : ∀ i, cntO l (s2.opn.length + 1) i ≤ 64) (hl : ∀ i, i < l.length + 1 → LikeT (tkAt (inBr l) i) (tkAt l2 (i + s2.read))) (hf : u.count + s2.count ≤ 4096) :
    (tkAt l2 s2.read).kind = 3 ∧ ∃ t2, Runs l2 .group s2 (.ok (k + s2.count) t2) ∧ t2.read = s2.read + l.length + 1 ∧ t2.opn = s2.opn ∧ t2.count = u.count + s2.count ∧ t2.nodes = s2.nodes ++ u.nodes.map (mvN (s2.count : Int)) := by
  have hp := he.pos
  have e3 : (tkAt l2 s2.read).kind = 3 := by have := (hl 0 (by omega)).1; rw [Nat.zero_add] at this; rw [this]; rfl
  refine ⟨e3, group_of hd h64 e3 (fun i hi => ?_) ?_ hf⟩
  · have := hl (i + 1) (by omega)
    rw [inBr_in hi] at this
    rw [show i + (s2.read + 1) = i + 1 + s2.read by omega]; exact this
  · have := (hl l.length (by omega)).1
    rw [inBr_shut hp] at this
    rw [show l.length - 1 + (s2.read + 1) = l.length + s2.read by omega]; exact this
/-- A row of two in brackets. -/
def rowOf (a b : List Tk) : List Tk := (inBr a).dropLast ++ inBr b
theorem parse_rowOf {l m l2 : List Tk} {k j : Int} {u v : PS} (he : TEnds l) (hd : PDone l k u) (h64 : ∀ i, cntO l 1 i ≤ 64) (he2 : TEnds m) (hd2 : PDone m j v) (h642 : ∀ i, cntO m 1 i ≤ 64) (hf : u.count + v.count < 4096) (hl : LikeL (rowOf l m) l2) : ∃ t i, parseP l2 = .ok i t ∧ t.nodes = pairL 4 u.nodes v.nodes := by
  have hp := he.pos
  have hp2 := he2.pos
  have hL := inBr_len hp
  have in_ : ∀ i, i < l.length + 1 → tkAt (rowOf l m) i = tkAt (inBr l) i := fun i hi => by unfold rowOf; rw [tk_left (by rw [List.length_dropLast]; omega), tk_drop (by omega)]
  have out_ : ∀ i, tkAt (rowOf l m) (l.length + 1 + i) = tkAt (inBr m) i := fun i => by unfold rowOf; rw [tk_right (by rw [List.length_dropLast]; omega), show l.length + 1 + i - (inBr l).dropLast.length = i by rw [List.length_dropLast]; omega]
  obtain ⟨e3, s2, R, r1, r2, r3, r4⟩ := br_of (s2 := {}) (l2 := l2) he hd h64 (fun i hi => by rw [← in_ i hi]; exact hl i) (by have := hd.fits; exact this)
  have a1 : s2.read = l.length + 1 := by rw [r1]; show 0 + l.length + 1 = _; omega
  have a2 : s2.count = u.count := r3
  have a3 : s2.opn = [] := r2
  have a4 : s2.nodes = u.nodes := by
    rw [r4]; show [] ++ u.nodes.map (mvN ((0 : Nat) : Int)) = _
    rw [List.nil_append]; exact map_mv_zero _
  obtain ⟨e32, t2, R2, q1, q2, q3, q4⟩ := br_of (s2 := s2) (l2 := l2) he2 hd2 (by rw [a3]; exact h642) (fun i _ => by
    have := hl (l.length + 1 + i); rw [out_] at this
    rw [show i + s2.read = l.length + 1 + i by omega]; exact this) (by omega)
  have e10 : (tkAt l2 t2.read).kind = 10 := by
    rw [q1, show s2.read + m.length + 1 = l.length + 1 + (m.length + 1) by omega, (hl _).1, out_]; exact inBr_end hp2
  have hc : t2.count = v.count + u.count := by rw [q3]; omega
  have P1 := (Runs.atomG e3 R).post (Runs.postLStop (by rw [e32]; decide) (by rw [e32]; decide))
  have P2 := (Runs.atomG e32 R2).post (Runs.postLStop (by rw [e10]; decide) (by rw [e10]; decide))
  have R3 := (P1.row (Runs.rowLGo (by rw [e32]; rfl) P2 (Runs.rowLStop (by rw [(lay_read _ _ _).1, e10]; decide)))).or (Runs.orLStop (by rw [(lay_read _ _ _).1, e10]; decide))
  refine ⟨_, _, runs_parse R3 (by rw [(lay_read _ _ _).1]; exact e10) (by rw [(lay_read _ _ _).2.2, hc]; omega), ?_⟩
  show (t2.lay _ _).nodes = _
  rw [lay_nodes (by omega), q4]
  show s2.nodes ++ v.nodes.map (mvN (s2.count : Int)) ++ [{ kind := 4, a := k + ((0 : Nat) : Int), b := j + (s2.count : Int) }] = _
  rw [a4, a2, hd.k, hd2.k]
  unfold pairL; rw [hd.len, hd2.len]
  congr 2
  simp only [Nd.mk.injEq, true_and, and_true]
  omega
end Go.Proofs.YtcgjmnhmhiddkaaGreatDoor
/- The tokens of a description's text are parsed to it: plain mathematics. -/
namespace Go.Proofs.YtcgjmnhmhiddkaaGreatDoor
open Go
set_option linter.unusedVariables false
set_option linter.unusedSimpArgs false

/-- How deep they are. -/
def dpP (f : Int → Int → Nat) (n : Nd) : Nat :=
  if n.kind = 1 then 1
  else if n.kind = 2 then 0
  else if n.kind = 3 then 0
  else if n.kind = 4 then max (f n.a 1) (f n.b 2)
  else if n.kind = 5 then max (f n.a 0) (f n.b 1)
  else if n.kind = 6 then f n.a 2
  else if n.kind = 7 then f n.a 2
  else f n.a 0 + 1
def dpF (l : List Nd) : Nat → Int → Int → Nat
  | 0, _, _ => 0
  | f + 1, i, lev => if levK (atN l i.toNat).kind < lev then dpP (dpF l f) (atN l i.toNat) + 1 else dpP (dpF l f) (atN l i.toNat)
theorem dpF_succ (l : List Nd) (f : Nat) (i lev : Int) : dpF l (f + 1) i lev = if levK (atN l i.toNat).kind < lev then dpP (dpF l f) (atN l i.toNat) + 1 else dpP (dpF l f) (atN l i.toNat) := rfl
end Go.Proofs.YtcgjmnhmhiddkaaGreatDoor
/- How deep a text is, counted over its pieces, and over its bytes: plain mathematics. -/
namespace Go.Proofs.YtcgjmnhmhiddkaaGreatDoor
open Go
set_option linter.unusedVariables false
set_option linter.unusedSimpArgs false

/-- One piece: how many brackets are open, and the most that were. -/
def dstep (p : Int × Int) (s : List UInt8) : Int × Int := if s = [40] then (p.1 + 1, max p.2 (p.1 + 1)) else if s = [41] then (p.1 - 1, p.2) else p
/-- Signs that are no bracket. -/
def NoBr (s : List UInt8) : Prop := s ≠ [40] ∧ s ≠ [41]
theorem dstep_no {p : Int × Int} {s : List UInt8} (h : NoBr s) : dstep p s = p := by
  unfold dstep; rw [if_neg h.1, if_neg h.2]
/-- Some pieces are so deep, and leave nothing open. -/
def DeepD (ss : List (List UInt8)) (d : Nat) : Prop := ∀ o m : Int, o ≤ m → ss.foldl dstep (o, m) = (o, max m (o + d))
theorem DeepD.nil : DeepD [] 0 := fun o m h => by show (o, m) = _; rw [show max m (o + ((0 : Nat) : Int)) = m by omega]
theorem DeepD.append {a b : List (List UInt8)} {x y : Nat} (h : DeepD a x) (k : DeepD b y) : DeepD (a ++ b) (max x y) := fun o m hm => by
  rw [List.foldl_append, h o m hm, k o _ (by omega)]
  congr 1; omega
theorem DeepD.one {s : List UInt8} (h : NoBr s) : DeepD [s] 0 := fun o m hm => by
  show dstep (o, m) s = _; rw [dstep_no h, show max m (o + ((0 : Nat) : Int)) = m by omega]
theorem DeepD.cons {s : List UInt8} {a : List (List UInt8)} {x : Nat} (h : NoBr s) (k : DeepD a x) : DeepD (s :: a) x := fun o m hm => by
  show a.foldl dstep (dstep (o, m) s) = _; rw [dstep_no h, k o m hm]
theorem DeepD.brk {a : List (List UInt8)} {x : Nat} (h : DeepD a x) : DeepD ([40] :: (a ++ [[41]])) (x + 1) := fun o m hm => by
  show (a ++ [[41]]).foldl dstep (o + 1, max m (o + 1)) = _
  rw [List.foldl_append, h _ _ (by omega)]
  show (o + 1 - 1, max (max m (o + 1)) (o + 1 + (x : Int))) = _
  rw [show o + 1 - 1 = o by omega]
  congr 1; omega
section
variable {cT : BitVec 256 → List UInt8} {bT : Int → Int → List UInt8}
theorem deep_part {f : Int → Int → List (List UInt8)} {g : Int → Int → Nat} (hc : ∀ c, NoBr (cT c)) (hb : ∀ a b, NoBr (bT a b)) (h : ∀ i lev, DeepD (f i lev) (g i lev)) (n : Nd) : DeepD (outP f (pcsN cT bT n)) (dpP g n) := by
  unfold pcsN dpP
  have two : ∀ (a : List (List UInt8)) (x : Nat), DeepD a x → DeepD (a ++ []) x := fun a x hh => by rw [List.append_nil]; exact hh
  have zero : ∀ (a b : List (List UInt8)) (x : Nat), DeepD a x → DeepD b 0 → DeepD (a ++ b) x := fun a b x ha hbb => by
    have := ha.append hbb
    rwa [show max x 0 = x by omega] at this
  split
  · exact DeepD.nil.brk
  split
  · exact DeepD.one (hc _)
  split
  · exact DeepD.one ⟨by simp, by simp⟩
  split
  · show DeepD (f n.a 1 ++ (f n.b 2 ++ [])) _
    exact (h _ _).append (two _ _ (h _ _))
  split
  · show DeepD (f n.a 0 ++ ([124] :: (f n.b 1 ++ []))) _
    exact (h _ _).append ((two _ _ (h _ _)).cons ⟨by decide, by decide⟩)
  split
  · exact zero _ _ _ (h _ _) (DeepD.one ⟨by decide, by decide⟩)
  split
  · exact zero _ _ _ (h _ _) (DeepD.one (hb _ _))
  split
  · show DeepD ([98] :: outP f (Go.Proofs.YtcgjmnhmhiddkaaGreatDoor.brk [.nd n.a 0])) _
    rw [outP_brk]
    exact ((two _ _ (h _ _)).brk).cons ⟨by decide, by decide⟩
  · show DeepD ([119] :: outP f (Go.Proofs.YtcgjmnhmhiddkaaGreatDoor.brk [.nd n.a 0])) _
    rw [outP_brk]
    exact ((two _ _ (h _ _)).brk).cons ⟨by decide, by decide⟩
/-- A node's text is as deep as its tokens. -/
theorem deep_told (hc : ∀ c, NoBr (cT c)) (hb : ∀ a b, NoBr (bT a b)) (l : List Nd) : ∀ (f : Nat) (i lev : Int), DeepD (sgsF cT bT l f i lev) (dpF l f i lev)
  | 0, i, lev => DeepD.nil
  | f + 1, i, lev => by
    rw [sgsF_succ, dpF_succ]
    unfold fullN
    have key := deep_part hc hb (deep_told hc hb l f) (atN l i.toNat)
    split
    · rw [outP_brk]; exact key.brk
    · exact key
end

end Go.Proofs.YtcgjmnhmhiddkaaGreatDoor
