/- Which tokens may stand where they do, and what a run of the parser tells of it: plain mathematics. -/
import Derived.Test.YtcgjmnhmhiddkaaGreatDoorM12
import Derived.Test.YtcgjmnhmhiddkaaGreatDoorM18
namespace Go.Proofs.YtcgjmnhmhiddkaaGreatDoor
open Go
set_option linter.unusedVariables false
set_option linter.unusedSimpArgs false

/-- May a token stand behind another one, with so many open? Behind kind 0 stands the first one. -/
def mayK (last k : Int) (o : Nat) : Prop :=
  if last = 8 ∨ last = 9 then k = 3
  else if last = 0 ∨ last = 5 then begK k = true
  else if last = 3 then begK k = true ∨ k = 4
  else begK k = true ∨ k = 5 ∨ k = 6 ∨ k = 7 ∨ (k = 4 ∧ 0 < o) ∨ (k = 10 ∧ o = 0)
def lastK (l : List Tk) (p : Nat) : Int := if p = 0 then 0 else (tkAt l (p - 1)).kind
/-- The places of what is open. -/
def opsL (l : List Tk) : Nat → List Int
  | 0 => []
  | p + 1 => if (tkAt l p).kind = 3 then opsL l p ++ [(tkAt l p).at_] else if (tkAt l p).kind = 4 then (opsL l p).dropLast else opsL l p
def mayAt (l : List Tk) (p : Nat) : Prop := mayK (lastK l p) (tkAt l p).kind (opsL l p).length
theorem lastK_next (l : List Tk) (p : Nat) : lastK l (p + 1) = (tkAt l p).kind := by unfold lastK; rw [if_neg (by omega), Nat.add_sub_cancel]
theorem opsL_same {l : List Tk} {p : Nat} (h3 : (tkAt l p).kind ≠ 3) (h4 : (tkAt l p).kind ≠ 4) : opsL l (p + 1) = opsL l p := by rw [opsL, if_neg h3, if_neg h4]
theorem opsL_open {l : List Tk} {p : Nat} (h3 : (tkAt l p).kind = 3) : opsL l (p + 1) = opsL l p ++ [(tkAt l p).at_] := by rw [opsL, if_pos h3]
theorem opsL_close {l : List Tk} {p : Nat} (h4 : (tkAt l p).kind = 4) : opsL l (p + 1) = (opsL l p).dropLast := by rw [opsL, if_neg (by omega), if_pos h4]
def Seg (l : List Tk) (a b : Nat) : Prop := ∀ q, a ≤ q → q < b → mayAt l q ∧ (opsL l (q + 1)).length ≤ 64
theorem Seg.nil (l : List Tk) (a : Nat) : Seg l a a := fun q h1 h2 => by omega
theorem Seg.trans {l : List Tk} {a b c : Nat} (h : Seg l a b) (k : Seg l b c) : Seg l a c := fun q h1 h2 => by
  rcases Nat.lt_or_ge q b with h3 | h3
  · exact h q h1 h3
  · exact k q h3 h2
theorem Seg.one {l : List Tk} {p : Nat} (h : mayAt l p) (k : (opsL l (p + 1)).length ≤ 64) : Seg l p (p + 1) := fun q h1 h2 => by
  obtain rfl : q = p := by omega
  exact ⟨h, k⟩
/-- Behind what may end. -/
def endK (last : Int) : Prop := last ≠ 0 ∧ last ≠ 3 ∧ last ≠ 5 ∧ last ≠ 8 ∧ last ≠ 9
theorem may_end {last k : Int} {o : Nat} (h : endK last) : mayK last k o ↔ begK k = true ∨ k = 5 ∨ k = 6 ∨ k = 7 ∨ (k = 4 ∧ 0 < o) ∨ (k = 10 ∧ o = 0) := by
  obtain ⟨h0, h3, h5, h8, h9⟩ := h
  unfold mayK
  rw [if_neg (by omega), if_neg (by omega), if_neg h3]
theorem beg_cases {k : Int} : begK k = true ↔ k = 1 ∨ k = 2 ∨ k = 3 ∨ k = 8 ∨ k = 9 := by
  unfold begK
  simp only [Bool.or_eq_true, decide_eq_true_iff]
  omega
/-- What stands ahead, for each way that a run begins. -/
def CtxK (l : List Tk) (p : Nat) : Md → Prop
  | .or | .row | .post | .atom => (lastK l p = 0 ∨ lastK l p = 5) ∨ (lastK l p = 3 ∧ (tkAt l p).kind ≠ 4) ∨ (begK (tkAt l p).kind = true ∧ lastK l p ≠ 8 ∧ lastK l p ≠ 9)
  | .orL _ => endK (lastK l p) ∧ begK (tkAt l p).kind = false ∧ (tkAt l p).kind ≠ 6 ∧ (tkAt l p).kind ≠ 7
  | .rowL _ => endK (lastK l p) ∧ (tkAt l p).kind ≠ 6 ∧ (tkAt l p).kind ≠ 7
  | .postL _ => endK (lastK l p)
  | .group => (lastK l p = 8 ∨ lastK l p = 9) ∨ (tkAt l p).kind = 3 ∧ lastK l p ≠ 8 ∧ lastK l p ≠ 9
  | .inside => lastK l p = 3
structure Ctx (l : List Tk) (m : Md) (s : PS) : Prop where
  opn : s.opn = opsL l s.read
  few : s.opn.length ≤ 64
  k : CtxK l s.read m
/-- .. and how it ends. -/
def ExK (l : List Tk) (p : Nat) : Md → Prop
  | .or | .orL _ => endK (lastK l p) ∧ begK (tkAt l p).kind = false ∧ (tkAt l p).kind ≠ 5 ∧ (tkAt l p).kind ≠ 6 ∧ (tkAt l p).kind ≠ 7
  | .row | .rowL _ => endK (lastK l p) ∧ begK (tkAt l p).kind = false ∧ (tkAt l p).kind ≠ 6 ∧ (tkAt l p).kind ≠ 7
  | .post | .postL _ => endK (lastK l p) ∧ (tkAt l p).kind ≠ 6 ∧ (tkAt l p).kind ≠ 7
  | .atom | .group => endK (lastK l p)
  | .inside => (lastK l p = 3 ∧ (tkAt l p).kind = 4) ∨ (endK (lastK l p) ∧ begK (tkAt l p).kind = false ∧ (tkAt l p).kind ≠ 5 ∧ (tkAt l p).kind ≠ 6 ∧ (tkAt l p).kind ≠ 7)
def faultV (l : List Tk) (f : Nat) : Int × Int := match (tkAt l f).kind, (opsL l f).getLast? with
  | 10, some p => (6, p)
  | _, _ => (7, (tkAt l f).at_)
/-- The first fault. -/
structure Flt (l : List Tk) (a : Nat) (e p : Int) (f : Nat) : Prop where
  le : a ≤ f
  seg : Seg l a f
  what : (e = 8 ∧ (tkAt l f).kind = 3 ∧ mayAt l f ∧ 64 < (opsL l (f + 1)).length ∧ p = (tkAt l f).at_) ∨ (¬ mayAt l f ∧ faultV l f = (e, p))
def Res (l : List Tk) (m : Md) (a : Nat) : PR → Prop
  | .ok k t => Seg l a t.read ∧ a ≤ t.read ∧ t.opn = opsL l t.read ∧ t.opn.length ≤ 64 ∧ ExK l t.read m
  | .bad e p => ∃ f, Flt l a e p f
  | .out => True
theorem Res.from {l : List Tk} {m : Md} {a b : Nat} {r : PR} (h : Res l m b r) (hs : Seg l a b) (hl : a ≤ b) : Res l m a r := by
  cases r with
  | ok k t => exact ⟨hs.trans h.1, Nat.le_trans hl h.2.1, h.2.2⟩
  | bad e p => obtain ⟨f, hf⟩ := h; exact ⟨f, Nat.le_trans hl hf.le, hs.trans hf.seg, hf.what⟩
  | out => trivial
theorem Res.bind {l : List Tk} {m m1 : Md} {a : Nat} {r : PR} {f : Int → PS → PR} (h : Res l m1 a r) (k : ∀ j u, r = .ok j u → u.opn = opsL l u.read → u.opn.length ≤ 64 → ExK l u.read m1 → Res l m u.read (f j u)) : Res l m a (r.bind f) := by
  cases r with
  | ok j u => exact (k j u rfl h.2.2.1 h.2.2.2.1 h.2.2.2.2).from h.1 h.2.1
  | bad e p => exact h
  | out => trivial
theorem fault_res {l : List Tk} {m : Md} {s : PS} (ho : s.opn = opsL l s.read) (hn : ¬ mayAt l s.read) : Res l m s.read (faultP l s) := by
  have e : faultP l s = .bad (faultV l s.read).1 (faultV l s.read).2 := by
    unfold faultP faultV
    rw [ho]
    split
    · rename_i h1 h2; rw [h1, h2]; rfl
    · rename_i h1
      split
      · rename_i h2 h3; exact absurd h3 (h1 _ h2)
      · rfl
  rw [e]
  exact ⟨s.read, Nat.le_refl _, Seg.nil _ _, .inr ⟨hn, rfl⟩⟩
theorem may_of_beg {last k : Int} {o : Nat} (hb : begK k = true) (h8 : last ≠ 8) (h9 : last ≠ 9) : mayK last k o := by
  unfold mayK
  rw [if_neg (by omega)]
  split
  · exact hb
  · split
    · exact .inl hb
    · exact .inl hb
theorem Res.imp {l : List Tk} {m m1 : Md} {a : Nat} {r : PR} (h : Res l m1 a r) (k : ∀ p, ExK l p m1 → ExK l p m) : Res l m a r := by
  cases r with
  | ok j u => exact ⟨h.1, h.2.1, h.2.2.1, h.2.2.2.1, k _ h.2.2.2.2⟩
  | bad e p => exact h
  | out => trivial
theorem atom_may {l : List Tk} {p : Nat} (h : CtxK l p .atom) : lastK l p ≠ 8 ∧ lastK l p ≠ 9 ∧ (mayAt l p ↔ begK (tkAt l p).kind = true) := by
  have h8 : lastK l p ≠ 8 ∧ lastK l p ≠ 9 := by
    rcases h with (h | h) | ⟨h, _⟩ | ⟨_, h1, h2⟩
    · omega
    · omega
    · omega
    · exact ⟨h1, h2⟩
  refine ⟨h8.1, h8.2, ?_, fun hb => may_of_beg hb h8.1 h8.2⟩
  intro hm
  unfold mayAt mayK at hm
  rw [if_neg (by omega)] at hm
  rcases h with h | ⟨h, h4⟩ | ⟨h, _⟩
  · rwa [if_pos h] at hm
  · rw [if_neg (by omega), if_pos h] at hm
    rcases hm with hm | hm
    · exact hm
    · exact absurd hm h4
  · exact h
theorem lay_opn (s : PS) (n : Nd) (p : Int) : (s.lay n p).opn = s.opn ∧ (s.lay n p).read = s.read := ⟨(lay_read s n p).2.1, (lay_read s n p).1⟩
/-- A run reads tokens that may stand; its fault is the first one that may not, or the first that is too deep. -/
theorem run_may {l : List Tk} : ∀ (n : Nat) (m : Md) (s : PS), Ctx l m s → Res l m s.read (run l n m s)
  | 0, _, _, _ => trivial
  | n + 1, .or, s, h => by
    refine Res.bind (run_may n .row s ⟨h.opn, h.few, h.k⟩) fun a u _ ho hf hx => ?_
    exact run_may n (.orL a) u ⟨ho, hf, hx⟩
  | n + 1, .orL a, s, h => by
    obtain ⟨hk, hb, h6, h7⟩ : endK (lastK l s.read) ∧ begK (tkAt l s.read).kind = false ∧ (tkAt l s.read).kind ≠ 6 ∧ (tkAt l s.read).kind ≠ 7 := h.k
    simp only [run]
    split
    · rename_i h5
      have e := opsL_same (l := l) (p := s.read) (by omega) (by omega)
      have hm : mayAt l s.read := (may_end hk).2 (by omega)
      have q : Res l .row s.next.read _ := run_may n .row s.next ⟨by simp only [PS.next]; rw [e, h.opn], h.few, .inl (.inr (by simp only [PS.next]; rw [lastK_next, h5]))⟩
      have q2 := q.from (a := s.read) (Seg.one hm (by rw [e, ← h.opn]; exact h.few)) (Nat.le_succ _)
      refine Res.bind q2 fun b u _ ho hf hx => ?_
      have r := run_may n (.orL (u.count : Int)) (u.lay { kind := 5, a := a, b := b } (-1)) ⟨by rw [(lay_opn u _ _).1, (lay_opn u _ _).2]; exact ho, by rw [(lay_opn u _ _).1]; exact hf, by rw [(lay_opn u _ _).2]; exact hx⟩
      rw [(lay_opn u _ _).2] at r
      exact r
    · rename_i h5
      exact ⟨Seg.nil _ _, Nat.le_refl _, h.opn, h.few, hk, hb, h5, h6, h7⟩
  | n + 1, .row, s, h => by
    refine Res.bind (run_may n .post s ⟨h.opn, h.few, h.k⟩) fun a u _ ho hf hx => ?_
    exact run_may n (.rowL a) u ⟨ho, hf, hx⟩
  | n + 1, .rowL a, s, h => by
    obtain ⟨hk, h6, h7⟩ : endK (lastK l s.read) ∧ (tkAt l s.read).kind ≠ 6 ∧ (tkAt l s.read).kind ≠ 7 := h.k
    simp only [run]
    split
    · rename_i hb
      refine Res.bind (run_may n .post s ⟨h.opn, h.few, .inr (.inr ⟨hb, hk.2.2.2.1, hk.2.2.2.2⟩)⟩) fun b u _ ho hf hx => ?_
      have r := run_may n (.rowL (u.count : Int)) (u.lay { kind := 4, a := a, b := b } (-1)) ⟨by rw [(lay_opn u _ _).1, (lay_opn u _ _).2]; exact ho, by rw [(lay_opn u _ _).1]; exact hf, by rw [(lay_opn u _ _).2]; exact hx⟩
      rw [(lay_opn u _ _).2] at r
      exact r
    · rename_i hb
      exact ⟨Seg.nil _ _, Nat.le_refl _, h.opn, h.few, hk, by simpa using hb, h6, h7⟩
  | n + 1, .post, s, h => by
    refine Res.bind (run_may n .atom s ⟨h.opn, h.few, h.k⟩) fun a u _ ho hf hx => ?_
    exact run_may n (.postL a) u ⟨ho, hf, hx⟩
  | n + 1, .postL a, s, h => by
    have hk : endK (lastK l s.read) := h.k
    have step : ∀ (s' : PS), s'.read = s.read + 1 → s'.opn = s.opn → ((tkAt l s.read).kind = 6 ∨ (tkAt l s.read).kind = 7) → Res l (.postL a) s.read (run l n (.postL (s.count : Int)) s') := fun s' hr ho h67 => by
      have e := opsL_same (l := l) (p := s.read) (by omega) (by omega)
      have hm : mayAt l s.read := (may_end hk).2 (by omega)
      have q : Res l (.postL (s.count : Int)) s'.read _ := run_may n (.postL (s.count : Int)) s' ⟨by rw [ho, hr, e, h.opn], by rw [ho]; exact h.few, by
        show endK (lastK l s'.read)
        rw [hr, lastK_next]; unfold endK; omega⟩
      rw [hr] at q
      exact q.from (Seg.one hm (by rw [e, ← h.opn]; exact h.few)) (Nat.le_succ _)
    simp only [run]
    split
    · rename_i h6
      exact step _ (by simp only [PS.next]; rw [(lay_opn s _ _).2]) (by simp only [PS.next]; rw [(lay_opn s _ _).1]) (.inl h6)
    · split
      · rename_i h7
        exact step _ (by simp only [PS.next]; rw [(lay_opn s _ _).2]) (by simp only [PS.next]; rw [(lay_opn s _ _).1]) (.inr h7)
      · rename_i h6 h7
        exact ⟨Seg.nil _ _, Nat.le_refl _, h.opn, h.few, hk, h6, h7⟩
  | n + 1, .atom, s, h => by
    obtain ⟨h8, h9, hmay⟩ := atom_may (l := l) (p := s.read) h.k
    have leaf : ∀ (nd : Nd), ((tkAt l s.read).kind = 1 ∨ (tkAt l s.read).kind = 2) → Res l .atom s.read (layK s.next nd (-1)) := fun nd hk => by
      have e := opsL_same (l := l) (p := s.read) (by omega) (by omega)
      have hm : mayAt l s.read := hmay.2 (beg_cases.2 (by omega))
      refine ⟨?_, ?_, ?_, ?_, ?_⟩
      · rw [(lay_opn s.next nd (-1)).2]; exact Seg.one hm (by rw [e, ← h.opn]; exact h.few)
      · rw [(lay_opn s.next nd (-1)).2]; exact Nat.le_succ _
      · rw [(lay_opn s.next nd (-1)).1, (lay_opn s.next nd (-1)).2]; simp only [PS.next]; rw [e, h.opn]
      · rw [(lay_opn s.next nd (-1)).1]; exact h.few
      · rw [(lay_opn s.next nd (-1)).2]
        show endK (lastK l (s.read + 1))
        rw [lastK_next]; unfold endK; omega
    have frame : ∀ (kd : Int), ((tkAt l s.read).kind = 8 ∨ (tkAt l s.read).kind = 9) → Res l .atom s.read ((run l n .group s.next).bind fun g s => layK s { kind := kd, a := g } (-1)) := fun kd hk => by
      have e := opsL_same (l := l) (p := s.read) (by omega) (by omega)
      have hm : mayAt l s.read := hmay.2 (beg_cases.2 (by omega))
      have q : Res l .group s.next.read _ := run_may n .group s.next ⟨by simp only [PS.next]; rw [e, h.opn], h.few, .inl (by simp only [PS.next]; rw [lastK_next]; exact hk)⟩
      have q2 := q.from (a := s.read) (Seg.one hm (by rw [e, ← h.opn]; exact h.few)) (Nat.le_succ _)
      refine Res.bind q2 fun g u _ ho hf hx => ?_
      refine ⟨?_, ?_, ?_, ?_, ?_⟩
      · rw [(lay_opn u _ _).2]; exact Seg.nil _ _
      · rw [(lay_opn u _ _).2]; exact Nat.le_refl _
      · rw [(lay_opn u _ _).1, (lay_opn u _ _).2]; exact ho
      · rw [(lay_opn u _ _).1]; exact hf
      · rw [(lay_opn u _ _).2]; exact hx
    simp only [run]
    split
    · rename_i hk; exact leaf _ (.inl hk)
    · split
      · rename_i hk; exact leaf _ (.inr hk)
      · split
        · rename_i hk
          exact (run_may n .group s ⟨h.opn, h.few, .inr ⟨hk, h8, h9⟩⟩).imp fun p hx => hx
        · split
          · rename_i hk; exact frame 8 (.inl hk)
          · split
            · rename_i hk; exact frame 9 (.inr hk)
            · rename_i k1 k2 k3 k8 k9
              exact fault_res h.opn (fun hm => by
                have := beg_cases.1 (hmay.1 hm)
                omega)
  | n + 1, .group, s, h => by
    have hc : (lastK l s.read = 8 ∨ lastK l s.read = 9) ∨ (tkAt l s.read).kind = 3 ∧ lastK l s.read ≠ 8 ∧ lastK l s.read ≠ 9 := h.k
    simp only [run]
    split
    · rename_i h3
      have e := opsL_open (l := l) (p := s.read) h3
      have hm : mayAt l s.read := by
        rcases hc with hc | ⟨_, h8, h9⟩
        · unfold mayAt mayK; rw [if_pos hc]; exact h3
        · exact may_of_beg (beg_cases.2 (by omega)) h8 h9
      split
      · rename_i hd
        exact ⟨s.read, Nat.le_refl _, Seg.nil _ _, .inl ⟨rfl, h3, hm, by rw [e, ← h.opn, List.length_append]; exact hd, rfl⟩⟩
      · rename_i hd
        have q : Res l .inside (s.read + 1) _ := run_may n .inside { s.next with opn := s.opn ++ [(tkAt l s.read).at_] } ⟨by simp only [PS.next]; rw [e, h.opn], by simp only [List.length_append, List.length_cons, List.length_nil]; omega, by simp only [PS.next]; show lastK l (s.read + 1) = 3; rw [lastK_next]; exact h3⟩
        have q2 := q.from (a := s.read) (Seg.one hm (by rw [e, ← h.opn, List.length_append]; simp only [List.length_cons, List.length_nil]; omega)) (Nat.le_succ _)
        refine Res.bind q2 fun g u hr ho hf hx => ?_
        have hu := (run_read n _ _ _ _ hr).2.1
        have hpos : 0 < (opsL l u.read).length := by rw [← ho, hu]; simp
        split
        · rename_i h4
          have hm4 : mayAt l u.read := by
            rcases hx with ⟨hl, _⟩ | ⟨hl, _⟩
            · unfold mayAt mayK; rw [if_neg (by omega), if_neg (by omega), if_pos hl]; exact .inr h4
            · exact (may_end hl).2 (.inr (.inr (.inr (.inr (.inl ⟨h4, hpos⟩)))))
          have e4 := opsL_close (l := l) (p := u.read) h4
          have hle : (opsL l (u.read + 1)).length ≤ 64 := by rw [e4, List.length_dropLast, ← ho]; omega
          refine ⟨Seg.one hm4 hle, Nat.le_succ _, ?_, ?_, ?_⟩
          · show u.opn.dropLast = opsL l (u.read + 1)
            rw [e4, ho]
          · show u.opn.dropLast.length ≤ 64
            rw [List.length_dropLast]; omega
          · show endK (lastK l (u.read + 1))
            rw [lastK_next, h4]; unfold endK; omega
        · rename_i h4
          refine fault_res ho fun hm => ?_
          rcases hx with ⟨_, h⟩ | ⟨hl, hb, h5, h6, h7⟩
          · exact h4 h
          · rcases (may_end hl).1 hm with h | h | h | h | ⟨h, _⟩ | ⟨_, h⟩
            · rw [h] at hb; cases hb
            · exact h5 h
            · exact h6 h
            · exact h7 h
            · exact h4 h
            · omega
    · rename_i h3
      refine fault_res h.opn fun hm => ?_
      rcases hc with hc | ⟨hc, _⟩
      · unfold mayAt mayK at hm; rw [if_pos hc] at hm; exact h3 hm
      · exact h3 hc
  | n + 1, .inside, s, h => by
    have hk : lastK l s.read = 3 := h.k
    simp only [run]
    split
    · rename_i h4
      refine ⟨?_, ?_, ?_, ?_, ?_⟩
      · rw [(lay_opn s _ _).2]; exact Seg.nil _ _
      · rw [(lay_opn s _ _).2]; exact Nat.le_refl _
      · rw [(lay_opn s _ _).1, (lay_opn s _ _).2]; exact h.opn
      · rw [(lay_opn s _ _).1]; exact h.few
      · rw [(lay_opn s _ _).2]; exact .inl ⟨hk, h4⟩
    · rename_i h4
      exact (run_may n .or s ⟨h.opn, h.few, .inr (.inl ⟨hk, h4⟩)⟩).imp fun p hx => .inr hx
end Go.Proofs.YtcgjmnhmhiddkaaGreatDoor
/- What a run of the parser reads and lays, as the grammar derives it: plain mathematics. -/
namespace Go.Proofs.YtcgjmnhmhiddkaaGreatDoor
open Go
set_option linter.unusedVariables false
set_option linter.unusedSimpArgs false

inductive DM where
  | or | row | post | atom | group | inside
/-- Tokens from one place to another one, the description that they are, the places of its stars and repeats. -/
inductive Dv (l : List Tk) : DM → Nat → Nat → List Nd → List Int → Prop where
  | cls {a : Nat} (h : (tkAt l a).kind = 1) : Dv l .atom a (a + 1) [{ kind := 2, cls := (tkAt l a).cls }] [-1]
  | text {a : Nat} (h : (tkAt l a).kind = 2) : Dv l .atom a (a + 1) [{ kind := 3, text := (tkAt l a).text }] [-1]
  | brk {a b : Nat} {D : List Nd} {A : List Int} (h : (tkAt l a).kind = 3) (d : Dv l .group a b D A) : Dv l .atom a b D A
  | frame {a b : Nat} {D : List Nd} {A : List Int} (h : (tkAt l a).kind = 8 ∨ (tkAt l a).kind = 9) (d : Dv l .group (a + 1) b D A) : Dv l .atom a b (wrapL (tkAt l a).kind 0 0 D) (A ++ [-1])
  | group {a b : Nat} {D : List Nd} {A : List Int} (h : (tkAt l a).kind = 3) (d : Dv l .inside (a + 1) b D A) (h4 : (tkAt l b).kind = 4) : Dv l .group a (b + 1) D A
  | none {a : Nat} (h : (tkAt l a).kind = 4) : Dv l .inside a a [{ kind := 1 }] [-1]
  | some {a b : Nat} {D : List Nd} {A : List Int} (h : (tkAt l a).kind ≠ 4) (d : Dv l .or a b D A) : Dv l .inside a b D A
  | post0 {a b : Nat} {D : List Nd} {A : List Int} (d : Dv l .atom a b D A) : Dv l .post a b D A
  | star {a b : Nat} {D : List Nd} {A : List Int} (d : Dv l .post a b D A) (h : (tkAt l b).kind = 6) : Dv l .post a (b + 1) (wrapL 6 0 0 D) (A ++ [(tkAt l b).at_])
  | rep {a b : Nat} {D : List Nd} {A : List Int} (d : Dv l .post a b D A) (h : (tkAt l b).kind = 7) : Dv l .post a (b + 1) (wrapL 7 (tkAt l b).lo (tkAt l b).hi D) (A ++ [(tkAt l b).at_])
  | row0 {a b : Nat} {D : List Nd} {A : List Int} (d : Dv l .post a b D A) : Dv l .row a b D A
  | row {a b c : Nat} {D E : List Nd} {A B : List Int} (d : Dv l .row a b D A) (h : begK (tkAt l b).kind = true) (e : Dv l .post b c E B) : Dv l .row a c (pairL 4 D E) (A ++ B ++ [-1])
  | or0 {a b : Nat} {D : List Nd} {A : List Int} (d : Dv l .row a b D A) : Dv l .or a b D A
  | or {a b c : Nat} {D E : List Nd} {A B : List Int} (d : Dv l .or a b D A) (h : (tkAt l b).kind = 5) (e : Dv l .row (b + 1) c E B) : Dv l .or a c (pairL 5 D E) (A ++ B ++ [-1])
theorem wrapL_len (kind lo hi : Int) (l : List Nd) : (wrapL kind lo hi l).length = l.length + 1 := by unfold wrapL; rw [List.length_append]; rfl
theorem pairL_len (kind : Int) (l m : List Nd) : (pairL kind l m).length = l.length + m.length + 1 := by unfold pairL; rw [List.length_append, List.length_append, List.length_map]; rfl
theorem wrapL_mv (kind lo hi : Int) (hk : 6 ≤ kind ∧ kind ≤ 9) (D : List Nd) (c : Nat) : (wrapL kind lo hi D).map (mvN (c : Int)) = D.map (mvN (c : Int)) ++ [{ kind := kind, a := ((c + D.length : Nat) : Int) - 1, lo := lo, hi := hi }] := by
  unfold wrapL
  rw [List.map_append]
  congr 1
  simp only [List.map_cons, List.map_nil]
  unfold mvN
  rw [if_pos hk]
  simp only
  congr 2
  omega
theorem pairL_mv (kind : Int) (hk : kind = 4 ∨ kind = 5) (D E : List Nd) (c : Nat) : (pairL kind D E).map (mvN (c : Int)) = (D.map (mvN (c : Int)) ++ E.map (mvN ((c + D.length : Nat) : Int))) ++ [{ kind := kind, a := ((c + D.length : Nat) : Int) - 1, b := ((c + D.length + E.length : Nat) : Int) - 1 }] := by
  unfold pairL
  rw [List.map_append, List.map_append, map_mv_add]
  congr 1
  · congr 2
    rw [show (D.length : Int) + (c : Int) = ((c + D.length : Nat) : Int) by omega]
  · simp only [List.map_cons, List.map_nil]
    unfold mvN
    rw [if_neg (by simp only; omega), if_pos hk]
    simp only
    congr 2 <;> omega
/-- What was laid ahead. -/
structure Bs (N0 : List Nd) (A0 : List Int) (c0 : Nat) (s : PS) : Prop where
  cnt : s.count = c0
  nd : s.count ≤ 4096 → s.nodes = N0 ∧ s.ats = A0
/-- What is laid now. -/
structure Ld (l : List Tk) (N0 : List Nd) (A0 : List Int) (c0 a : Nat) (m : DM) (D : List Nd) (A : List Int) (k : Int) (s : PS) : Prop where
  dv : Dv l m a s.read D A
  cnt : s.count = c0 + D.length
  k : k = (s.count : Int) - 1
  nd : s.count ≤ 4096 → s.nodes = N0 ++ D.map (mvN (c0 : Int)) ∧ s.ats = A0 ++ A
theorem lay_cases (s : PS) (n : Nd) (p : Int) : (s.lay n p).count = s.count + 1 ∧ (s.lay n p).read = s.read ∧ ((s.lay n p).count ≤ 4096 → (s.lay n p).nodes = s.nodes ++ [n] ∧ (s.lay n p).ats = s.ats ++ [p]) := by
  refine ⟨(lay_read s n p).2.2, (lay_read s n p).1, fun h => ?_⟩
  rw [(lay_read s n p).2.2] at h
  unfold PS.lay
  rw [if_pos (by omega)]
  exact ⟨rfl, rfl⟩
theorem Bs.next {N0 : List Nd} {A0 : List Int} {c0 : Nat} {s : PS} (h : Bs N0 A0 c0 s) : Bs N0 A0 c0 s.next := ⟨h.cnt, h.nd⟩
section
variable {l : List Tk} {N0 : List Nd} {A0 : List Int} {c0 a : Nat} {m : DM} {D E : List Nd} {A B : List Int} {k j : Int} {s t : PS}
theorem Ld.mode {m' : DM} {a' : Nat} (h : Ld l N0 A0 c0 a m D A k s) (d : Dv l m a s.read D A → Dv l m' a' s.read D A) : Ld l N0 A0 c0 a' m' D A k s := ⟨d h.dv, h.cnt, h.k, h.nd⟩
theorem Bs.leaf (h : Bs N0 A0 c0 s) {n : Nd} (hn : ∀ c, mvN c n = n) {b : Nat} (d : Dv l m b s.read [n] [-1]) : Ld l N0 A0 c0 b m [n] [-1] (s.count : Int) (s.lay n (-1)) := by
  obtain ⟨h1, h2, h3⟩ := lay_cases s n (-1)
  refine ⟨by rw [h2]; exact d, by rw [h1, h.cnt]; rfl, by rw [h1]; omega, fun hc => ?_⟩
  obtain ⟨e1, e2⟩ := h3 hc
  obtain ⟨e3, e4⟩ := h.nd (by omega)
  rw [e1, e2, e3, e4]
  exact ⟨by simp [hn], rfl⟩
theorem Ld.wrap (h : Ld l N0 A0 c0 a m D A k s) {kind lo hi : Int} (hk : 6 ≤ kind ∧ kind ≤ 9) (p : Int) : (s.lay { kind := kind, a := k, lo := lo, hi := hi } p).count = c0 + (wrapL kind lo hi D).length ∧ (s.lay { kind := kind, a := k, lo := lo, hi := hi } p).read = s.read ∧ ((s.lay { kind := kind, a := k, lo := lo, hi := hi } p).count ≤ 4096 → (s.lay { kind := kind, a := k, lo := lo, hi := hi } p).nodes = N0 ++ (wrapL kind lo hi D).map (mvN (c0 : Int)) ∧ (s.lay { kind := kind, a := k, lo := lo, hi := hi } p).ats = A0 ++ (A ++ [p])) := by
  obtain ⟨h1, h2, h3⟩ := lay_cases s { kind := kind, a := k, lo := lo, hi := hi } p
  refine ⟨by rw [h1, wrapL_len, h.cnt]; omega, h2, fun hc => ?_⟩
  obtain ⟨e1, e2⟩ := h3 hc
  obtain ⟨e3, e4⟩ := h.nd (by omega)
  rw [e1, e2, e3, e4, wrapL_mv _ _ _ hk, h.k, h.cnt]
  exact ⟨by rw [List.append_assoc], by rw [List.append_assoc]⟩
theorem Ld.pair (h : Ld l N0 A0 c0 a m D A k s) {m2 : DM} {b : Nat} (e : Ld l s.nodes s.ats s.count b m2 E B j t) {kind : Int} (hk : kind = 4 ∨ kind = 5) : (t.lay { kind := kind, a := k, b := j } (-1)).count = c0 + (pairL kind D E).length ∧ (t.lay { kind := kind, a := k, b := j } (-1)).read = t.read ∧ ((t.lay { kind := kind, a := k, b := j } (-1)).count ≤ 4096 → (t.lay { kind := kind, a := k, b := j } (-1)).nodes = N0 ++ (pairL kind D E).map (mvN (c0 : Int)) ∧ (t.lay { kind := kind, a := k, b := j } (-1)).ats = A0 ++ (A ++ B ++ [-1])) := by
  obtain ⟨h1, h2, h3⟩ := lay_cases t { kind := kind, a := k, b := j } (-1)
  have ec := e.cnt
  have hcn := h.cnt
  refine ⟨by rw [h1, pairL_len]; omega, h2, fun hc => ?_⟩
  obtain ⟨e1, e2⟩ := h3 hc
  obtain ⟨e3, e4⟩ := e.nd (by omega)
  obtain ⟨e5, e6⟩ := h.nd (by omega)
  rw [e1, e2, e3, e4, e5, e6, pairL_mv _ hk, h.k, e.k, ec, hcn]
  exact ⟨by simp only [List.append_assoc], by simp only [List.append_assoc]⟩
end
/-- What a run does. -/
def RunDv (l : List Tk) (s : PS) (k : Int) (t : PS) : Md → Prop
  | .or => ∀ N0 A0 c0, Bs N0 A0 c0 s → ∃ D A, Ld l N0 A0 c0 s.read .or D A k t
  | .orL k0 => ∀ N0 A0 c0 a D0 B0, Ld l N0 A0 c0 a .or D0 B0 k0 s → ∃ D A, Ld l N0 A0 c0 a .or D A k t
  | .row => ∀ N0 A0 c0, Bs N0 A0 c0 s → ∃ D A, Ld l N0 A0 c0 s.read .row D A k t
  | .rowL k0 => ∀ N0 A0 c0 a D0 B0, Ld l N0 A0 c0 a .row D0 B0 k0 s → ∃ D A, Ld l N0 A0 c0 a .row D A k t
  | .post => ∀ N0 A0 c0, Bs N0 A0 c0 s → ∃ D A, Ld l N0 A0 c0 s.read .post D A k t
  | .postL k0 => ∀ N0 A0 c0 a D0 B0, Ld l N0 A0 c0 a .post D0 B0 k0 s → ∃ D A, Ld l N0 A0 c0 a .post D A k t
  | .atom => ∀ N0 A0 c0, Bs N0 A0 c0 s → ∃ D A, Ld l N0 A0 c0 s.read .atom D A k t
  | .group => ∀ N0 A0 c0, Bs N0 A0 c0 s → ∃ D A, Ld l N0 A0 c0 s.read .group D A k t
  | .inside => ∀ N0 A0 c0, Bs N0 A0 c0 s → ∃ D A, Ld l N0 A0 c0 s.read .inside D A k t
theorem bsD_self (s : PS) : Bs s.nodes s.ats s.count s := ⟨rfl, fun _ => ⟨rfl, rfl⟩⟩
theorem run_dv {l : List Tk} : ∀ (n : Nat) (m : Md) (s : PS) (k : Int) (t : PS), run l n m s = .ok k t → RunDv l s k t m
  | 0, _, _, _, _, h => by cases h
  | n + 1, .or, s, k, t, h => by
    intro N0 A0 c0 hb
    obtain ⟨a, u, h1, h2⟩ := bind_ok h
    obtain ⟨D, A, d⟩ := (run_dv n .row s a u h1 : RunDv l s a u .row) N0 A0 c0 hb
    exact (run_dv n (.orL a) u k t h2 : RunDv l u k t (.orL a)) N0 A0 c0 s.read D A (d.mode .or0)
  | n + 1, .orL k0, s, k, t, h => by
    intro N0 A0 c0 a D0 B0 d
    simp only [run] at h
    split at h
    · rename_i h5
      obtain ⟨b, u, h1, h2⟩ := bind_ok h
      obtain ⟨E, B, e⟩ := (run_dv n .row s.next b u h1 : RunDv l s.next b u .row) s.nodes s.ats s.count (bsD_self s).next
      obtain ⟨q1, q2, q3⟩ := d.pair e (kind := 5) (.inr rfl)
      exact (run_dv n (.orL (u.count : Int)) _ k t h2 : RunDv l _ k t (.orL (u.count : Int))) N0 A0 c0 a (pairL 5 D0 E) (B0 ++ B ++ [-1]) ⟨by rw [q2]; exact .or d.dv h5 e.dv, q1, by rw [(lay_cases u _ _).1]; omega, q3⟩
    · cases h; exact ⟨D0, B0, d⟩
  | n + 1, .row, s, k, t, h => by
    intro N0 A0 c0 hb
    obtain ⟨a, u, h1, h2⟩ := bind_ok h
    obtain ⟨D, A, d⟩ := (run_dv n .post s a u h1 : RunDv l s a u .post) N0 A0 c0 hb
    exact (run_dv n (.rowL a) u k t h2 : RunDv l u k t (.rowL a)) N0 A0 c0 s.read D A (d.mode .row0)
  | n + 1, .rowL k0, s, k, t, h => by
    intro N0 A0 c0 a D0 B0 d
    simp only [run] at h
    split at h
    · rename_i hbg
      obtain ⟨b, u, h1, h2⟩ := bind_ok h
      obtain ⟨E, B, e⟩ := (run_dv n .post s b u h1 : RunDv l s b u .post) s.nodes s.ats s.count (bsD_self s)
      obtain ⟨q1, q2, q3⟩ := d.pair e (kind := 4) (.inl rfl)
      exact (run_dv n (.rowL (u.count : Int)) _ k t h2 : RunDv l _ k t (.rowL (u.count : Int))) N0 A0 c0 a (pairL 4 D0 E) (B0 ++ B ++ [-1]) ⟨by rw [q2]; exact .row d.dv hbg e.dv, q1, by rw [(lay_cases u _ _).1]; omega, q3⟩
    · cases h; exact ⟨D0, B0, d⟩
  | n + 1, .post, s, k, t, h => by
    intro N0 A0 c0 hb
    obtain ⟨a, u, h1, h2⟩ := bind_ok h
    obtain ⟨D, A, d⟩ := (run_dv n .atom s a u h1 : RunDv l s a u .atom) N0 A0 c0 hb
    exact (run_dv n (.postL a) u k t h2 : RunDv l u k t (.postL a)) N0 A0 c0 s.read D A (d.mode .post0)
  | n + 1, .postL k0, s, k, t, h => by
    intro N0 A0 c0 a D0 B0 d
    simp only [run] at h
    split at h
    · rename_i h6
      obtain ⟨q1, q2, q3⟩ := d.wrap (kind := 6) (lo := 0) (hi := 0) (by omega) (tkAt l s.read).at_
      exact (run_dv n (.postL (s.count : Int)) _ k t h : RunDv l _ k t (.postL (s.count : Int))) N0 A0 c0 a (wrapL 6 0 0 D0) (B0 ++ [(tkAt l s.read).at_]) ⟨by simp only [PS.next]; rw [(lay_cases s _ _).2.1]; exact .star d.dv h6, q1, by simp only [PS.next]; rw [(lay_cases s _ _).1]; omega, q3⟩
    · split at h
      · rename_i h7
        obtain ⟨q1, q2, q3⟩ := d.wrap (kind := 7) (lo := (tkAt l s.read).lo) (hi := (tkAt l s.read).hi) (by omega) (tkAt l s.read).at_
        exact (run_dv n (.postL (s.count : Int)) _ k t h : RunDv l _ k t (.postL (s.count : Int))) N0 A0 c0 a (wrapL 7 (tkAt l s.read).lo (tkAt l s.read).hi D0) (B0 ++ [(tkAt l s.read).at_]) ⟨by simp only [PS.next]; rw [(lay_cases s _ _).2.1]; exact .rep d.dv h7, q1, by simp only [PS.next]; rw [(lay_cases s _ _).1]; omega, q3⟩
      · cases h; exact ⟨D0, B0, d⟩
  | n + 1, .atom, s, k, t, h => by
    intro N0 A0 c0 hb
    simp only [run] at h
    split at h
    · rename_i h1
      cases h
      exact ⟨_, _, hb.next.leaf (n := { kind := 2, cls := (tkAt l s.read).cls }) (fun c => by unfold mvN; rw [if_neg (by simp), if_neg (by simp)]) (.cls h1)⟩
    · split at h
      · rename_i h2
        cases h
        exact ⟨_, _, hb.next.leaf (n := { kind := 3, text := (tkAt l s.read).text }) (fun c => by unfold mvN; rw [if_neg (by simp), if_neg (by simp)]) (.text h2)⟩
      · split at h
        · rename_i h3
          obtain ⟨D, A, d⟩ := (run_dv n .group s k t h : RunDv l s k t .group) N0 A0 c0 hb
          exact ⟨D, A, d.mode (.brk h3)⟩
        · split at h
          · rename_i h8
            obtain ⟨b, u, h1, h2⟩ := bind_ok h
            cases h2
            obtain ⟨D, A, d⟩ := (run_dv n .group s.next b u h1 : RunDv l s.next b u .group) N0 A0 c0 hb.next
            obtain ⟨q1, q2, q3⟩ := d.wrap (kind := 8) (lo := 0) (hi := 0) (by omega) (-1)
            have hf := Dv.frame (.inl h8) d.dv
            rw [h8] at hf
            exact ⟨_, _, by rw [q2]; exact hf, q1, by rw [(lay_cases u _ _).1]; omega, q3⟩
          · split at h
            · rename_i h9
              obtain ⟨b, u, h1, h2⟩ := bind_ok h
              cases h2
              obtain ⟨D, A, d⟩ := (run_dv n .group s.next b u h1 : RunDv l s.next b u .group) N0 A0 c0 hb.next
              obtain ⟨q1, q2, q3⟩ := d.wrap (kind := 9) (lo := 0) (hi := 0) (by omega) (-1)
              have hf := Dv.frame (.inr h9) d.dv
              rw [h9] at hf
              exact ⟨_, _, by rw [q2]; exact hf, q1, by rw [(lay_cases u _ _).1]; omega, q3⟩
            · exact absurd h fault_not_ok
  | n + 1, .group, s, k, t, h => by
    intro N0 A0 c0 hb
    simp only [run] at h
    split at h
    · rename_i h3
      split at h
      · cases h
      · obtain ⟨b, u, h1, h2⟩ := bind_ok h
        split at h2
        · rename_i h4
          cases h2
          obtain ⟨D, A, d⟩ := (run_dv n .inside _ k u h1 : RunDv l _ k u .inside) N0 A0 c0 ⟨hb.cnt, hb.nd⟩
          exact ⟨D, A, .group h3 d.dv h4, d.cnt, d.k, d.nd⟩
        · exact absurd h2 fault_not_ok
    · exact absurd h fault_not_ok
  | n + 1, .inside, s, k, t, h => by
    intro N0 A0 c0 hb
    simp only [run] at h
    split at h
    · rename_i h4
      cases h
      exact ⟨_, _, hb.leaf (n := { kind := 1 }) (fun c => by unfold mvN; rw [if_neg (by simp), if_neg (by simp)]) (.none h4)⟩
    · rename_i h4
      obtain ⟨D, A, d⟩ := (run_dv n .or s k t h : RunDv l s k t .or) N0 A0 c0 hb
      exact ⟨D, A, d.mode (.some h4)⟩
end Go.Proofs.YtcgjmnhmhiddkaaGreatDoor
/- How deep tokens of the grammar stand: plain mathematics. -/
namespace Go.Proofs.YtcgjmnhmhiddkaaGreatDoor
open Go
set_option linter.unusedVariables false
set_option linter.unusedSimpArgs false

end Go.Proofs.YtcgjmnhmhiddkaaGreatDoor
/- What Parse answers, by the tokens that may stand and by the grammar: plain mathematics. -/
namespace Go.Proofs.YtcgjmnhmhiddkaaGreatDoor
open Go
set_option linter.unusedVariables false
set_option linter.unusedSimpArgs false

theorem dv_kinds {l : List Tk} {m : DM} {a b : Nat} {D : List Nd} {A : List Int} (h : Dv l m a b D A) : a ≤ b ∧ ∀ q, a ≤ q → q < b → (tkAt l q).kind ≠ 10 := by
  have one : ∀ {a : Nat}, (tkAt l a).kind ≠ 10 → ∀ q, a ≤ q → q < a + 1 → (tkAt l q).kind ≠ 10 := fun {a} hk q h1 h2 => by
    obtain rfl : q = a := by omega
    exact hk
  induction h with
  | cls h => exact ⟨Nat.le_succ _, one (by omega)⟩
  | text h => exact ⟨Nat.le_succ _, one (by omega)⟩
  | brk h d ih => exact ih
  | frame h d ih =>
    refine ⟨by omega, fun q h1 h2 => ?_⟩
    rcases Nat.lt_or_ge _ q with h3 | h3
    · exact ih.2 q h3 h2
    · exact one (by omega) q h1 (by omega)
  | group h d h4 ih =>
    refine ⟨by omega, fun q h1 h2 => ?_⟩
    rcases Nat.lt_or_ge _ q with h3 | h3
    · rcases Nat.lt_or_ge q _ with h5 | h5
      · exact ih.2 q h3 h5
      · exact one (by omega) q h5 h2
    · exact one (by omega) q h1 (by omega)
  | none h => exact ⟨Nat.le_refl _, fun q h1 h2 => by omega⟩
  | some h d ih => exact ih
  | post0 d ih => exact ih
  | star d h ih =>
    refine ⟨by omega, fun q h1 h2 => ?_⟩
    rcases Nat.lt_or_ge q _ with h3 | h3
    · exact ih.2 q h1 h3
    · exact one (by omega) q h3 h2
  | rep d h ih =>
    refine ⟨by omega, fun q h1 h2 => ?_⟩
    rcases Nat.lt_or_ge q _ with h3 | h3
    · exact ih.2 q h1 h3
    · exact one (by omega) q h3 h2
  | row0 d ih => exact ih
  | row d h e ih ih2 =>
    refine ⟨by omega, fun q h1 h2 => ?_⟩
    rcases Nat.lt_or_ge q _ with h3 | h3
    · exact ih.2 q h1 h3
    · exact ih2.2 q h3 h2
  | or0 d ih => exact ih
  | or d h e ih ih2 =>
    refine ⟨by omega, fun q h1 h2 => ?_⟩
    rcases Nat.lt_or_ge q _ with h3 | h3
    · exact ih.2 q h1 h3
    · rcases Nat.lt_or_ge _ q with h5 | h5
      · exact ih2.2 q h5 h2
      · exact one (by omega) q h3 (by omega)
theorem tk_over {l : List Tk} {p : Nat} (h : l.length ≤ p) : tkAt l p = tkEnd := by unfold tkAt; rw [List.getD_eq_getElem?_getD, List.getElem?_eq_none h]; rfl
theorem may_ten {last : Int} {o : Nat} (h : mayK last 10 o) : o = 0 := by
  unfold mayK at h
  have hb : begK 10 = false := rfl
  split at h
  · omega
  · split at h
    · rw [hb] at h; cases h
    · split at h
      · rcases h with h | h
        · rw [hb] at h; cases h
        · omega
      · rcases h with h | h | h | h | ⟨h, _⟩ | ⟨_, h⟩
        · rw [hb] at h; cases h
        · omega
        · omega
        · omega
        · omega
        · exact h
theorem flt_lt {l : List Tk} (he : TEnds l) {e p : Int} {f : Nat} (h : Flt l 0 e p f) : f < l.length := by
  rcases h.what with ⟨_, h3, _⟩ | ⟨hn, _⟩
  · exact tk_in (by rw [h3]; decide)
  · rcases Nat.lt_or_ge f l.length with hlt | hge
    · exact hlt
    · exfalso
      have hpos := he.pos
      have h10 : ∀ q, l.length - 1 ≤ q → (tkAt l q).kind = 10 := fun q hq => by
        rcases Nat.lt_or_ge q l.length with h | h
        · rw [show q = l.length - 1 by omega]; exact he.last
        · rw [tk_over h]; rfl
      have hm := (h.seg (l.length - 1) (Nat.zero_le _) (by omega)).1
      unfold mayAt at hm
      rw [he.last] at hm
      have ho := may_ten hm
      have hall : ∀ j, opsL l (l.length - 1 + j) = opsL l (l.length - 1) := fun j => by
        induction j with
        | zero => rfl
        | succ j ih =>
          have hk := h10 (l.length - 1 + j) (by omega)
          rw [← Nat.add_assoc, opsL_same (by omega) (by omega), ih]
      apply hn
      unfold mayAt
      have e1 : lastK l f = 10 := by
        unfold lastK; rw [if_neg (by omega)]; exact h10 _ (by omega)
      have e2 : opsL l f = opsL l (l.length - 1) := by
        have := hall (f - (l.length - 1))
        rwa [show l.length - 1 + (f - (l.length - 1)) = f by omega] at this
      rw [e1, h10 f (by omega), e2, ho]
      exact (may_end (by unfold endK; omega)).2 (.inr (.inr (.inr (.inr (.inr ⟨rfl, rfl⟩)))))
/-- What Parse answers. -/
def RefP (l : List Tk) : PR → Prop
  | .ok k t => Seg l 0 l.length ∧ ∃ D A, Dv l .or 0 (l.length - 1) D A ∧ t.nodes = D ∧ t.ats = A ∧ D.length ≤ 4096
  | .bad e p => (e = 9 ∧ p = (tkAt l (l.length - 1)).at_ ∧ Seg l 0 l.length ∧ ∃ D A, Dv l .or 0 (l.length - 1) D A ∧ 4096 < D.length) ∨ ∃ f, f < l.length ∧ Flt l 0 e p f
  | .out => False
theorem parse_ref {l : List Tk} (he : TEnds l) : RefP l (parseP l) := by
  have hpos := he.pos
  have hM := run_may (l := l) (10 * l.length + 10) .or {} ⟨rfl, Nat.zero_le _, .inl (.inl rfl)⟩
  have hO := run_fuel (l := l) (10 * l.length + 10) .or {} (by show 10 * (l.length - 0) + 7 ≤ _; omega)
  unfold parseP
  cases hr : run l (10 * l.length + 10) .or {} with
  | out => exact absurd hr hO
  | bad e p =>
    rw [hr] at hM
    obtain ⟨f, hf⟩ := hM
    exact .inr ⟨f, flt_lt he hf, hf⟩
  | ok k u =>
    rw [hr] at hM
    obtain ⟨hseg, -, ho, hf, hend, hb, h5, h6, h7⟩ := hM
    have hu : u.opn = [] := (run_read _ _ _ _ _ hr).2.1
    have h0 : (opsL l u.read).length = 0 := by rw [← ho, hu]; rfl
    obtain ⟨D, A, d⟩ := (run_dv _ _ _ _ _ hr : RunDv l {} k u .or) [] [] 0 ⟨rfl, fun _ => ⟨rfl, rfl⟩⟩
    have hkd := dv_kinds d.dv
    show RefP l (if (tkAt l u.read).kind = 10 then (if 4096 < u.count then .bad 9 (tkAt l u.read).at_ else .ok k u.next) else faultP l u)
    by_cases h10 : (tkAt l u.read).kind = 10
    · rw [if_pos h10]
      have hlast : u.read = l.length - 1 := by
        rcases Nat.lt_or_ge u.read (l.length - 1) with h | h
        · exact absurd h10 (he.only _ h)
        · rcases Nat.lt_or_ge (l.length - 1) u.read with h2 | h2
          · exact absurd he.last (hkd.2 _ (Nat.zero_le _) h2)
          · omega
      have hm : mayAt l u.read := (may_end hend).2 (.inr (.inr (.inr (.inr (.inr ⟨h10, h0⟩)))))
      have e1 := opsL_same (l := l) (p := u.read) (by omega) (by omega)
      have hs : Seg l 0 l.length := by
        have := hseg.trans (Seg.one hm (by rw [e1]; omega))
        rwa [hlast, show l.length - 1 + 1 = l.length by omega] at this
      have hd := d.dv
      have hc := d.cnt
      rw [hlast] at hd
      rw [Nat.zero_add] at hc
      by_cases h4 : 4096 < u.count
      · rw [if_pos h4]
        exact .inl ⟨rfl, by rw [hlast], hs, D, A, hd, by omega⟩
      · rw [if_neg h4]
        obtain ⟨e2, e3⟩ := d.nd (by omega)
        refine ⟨hs, D, A, hd, ?_, ?_, by omega⟩
        · show u.nodes = D
          rw [e2, List.nil_append]
          exact map_mv_zero D
        · show u.ats = A
          rw [e3, List.nil_append]
    · rw [if_neg h10]
      have hn : ¬ mayAt l u.read := fun hm => by
        rcases (may_end hend).1 hm with h | h | h | h | ⟨_, h⟩ | ⟨h, _⟩
        · rw [h] at hb; cases hb
        · exact h5 h
        · exact h6 h
        · exact h7 h
        · omega
        · exact h10 h
      have q := fault_res (l := l) (m := .or) (s := u) ho hn
      cases hq : faultP l u with
      | ok k2 t2 => exact absurd hq fault_not_ok
      | out => exact absurd hq fault_not_out
      | bad e p =>
        rw [hq] at q
        obtain ⟨f, hf2⟩ := q
        have hf3 : Flt l 0 e p f := ⟨Nat.zero_le _, hseg.trans hf2.seg, hf2.what⟩
        exact .inr ⟨f, flt_lt he hf3, hf3⟩
end Go.Proofs.YtcgjmnhmhiddkaaGreatDoor
