/- Texts in brackets, one behind the other, with an or between, with a star behind: plain mathematics. -/
import Derived.Test.YtcgjmnhmhiddkaaGreatDoorM25
import Derived.Test.YtcgjmnhmhiddkaaGreatDoorM42
namespace Go.Proofs.YtcgjmnhmhiddkaaGreatDoor
open Go
set_option linter.unusedVariables false
set_option linter.unusedSimpArgs false

/-- May kinds stand one behind the other, behind a kind, with so many open? -/
def mayS : Int → Nat → List Int → Prop
  | _, _, [] => True
  | last, o, k :: ks => mayK last k o ∧ mayS k (stepO k o) ks
def opnS : Nat → List Int → Nat
  | o, [] => o
  | o, k :: ks => opnS (stepO k o) ks
def lastS : Int → List Int → Int
  | last, [] => last
  | _, k :: ks => lastS k ks
theorem opnS_append : ∀ (a b : List Int) (o : Nat), opnS o (a ++ b) = opnS (opnS o a) b
  | [], b, o => rfl
  | k :: a, b, o => opnS_append a b (stepO k o)
theorem mayS_append : ∀ (a b : List Int) (last : Int) (o : Nat), mayS last o (a ++ b) ↔ mayS last o a ∧ mayS (lastS last a) (opnS o a) b
  | [], b, last, o => ⟨fun h => ⟨trivial, h⟩, fun h => h.2⟩
  | k :: a, b, last, o => by
    have ih := mayS_append a b k (stepO k o)
    exact ⟨fun h => ⟨⟨h.1, (ih.1 h.2).1⟩, (ih.1 h.2).2⟩, fun h => ⟨h.1.1, ih.2 ⟨h.1.2, h.2⟩⟩⟩
theorem opsL_cnt (l : List Tk) : ∀ p, (opsL l p).length = cntO l 0 p
  | 0 => rfl
  | p + 1 => by
    rw [opsL, cntO, ← opsL_cnt l p]
    unfold stepO
    split
    · rw [List.length_append]; rfl
    · split
      · rw [List.length_dropLast]
      · rfl
def kds (l : List Tk) : List Int := l.map (·.kind)
theorem kds_at {l : List Tk} {p : Nat} (h : p < l.length) : l.drop p = tkAt l p :: l.drop (p + 1) := by
  rw [List.drop_eq_getElem_cons h]; unfold tkAt; simp [h]
theorem cnt_opnS (l : List Tk) (e : Nat) : ∀ p, p ≤ l.length → cntO l e p = opnS e (kds (l.take p))
  | 0, _ => by rw [List.take_zero]; rfl
  | p + 1, h => by
    have e1 : l.take (p + 1) = l.take p ++ [tkAt l p] := by rw [List.take_add_one, List.getElem?_eq_getElem (by omega)]; unfold tkAt; simp [show p < l.length by omega]
    rw [cntO, cnt_opnS l e p (by omega), e1]
    unfold kds
    rw [List.map_append, opnS_append]; rfl
theorem may_iff {l : List Tk} : ∀ (n p : Nat), l.length - p = n → p ≤ l.length → (mayS (lastK l p) (cntO l 0 p) (kds (l.drop p)) ↔ ∀ q, p ≤ q → q < l.length → mayAt l q)
  | 0, p, hn, hp => by
    rw [List.drop_eq_nil_of_le (by omega)]
    exact ⟨fun _ q h1 h2 => by omega, fun _ => trivial⟩
  | n + 1, p, hn, hp => by
    have hlt : p < l.length := by omega
    have ih := may_iff (l := l) n (p + 1) (by omega) (by omega)
    rw [kds_at hlt]
    rw [lastK_next] at ih
    have e : mayAt l p ↔ mayK (lastK l p) (tkAt l p).kind (cntO l 0 p) := by unfold mayAt; rw [opsL_cnt]
    show mayK _ (tkAt l p).kind _ ∧ mayS (tkAt l p).kind (stepO (tkAt l p).kind (cntO l 0 p)) (kds (l.drop (p + 1))) ↔ _
    rw [← e]
    constructor
    · rintro ⟨h1, h2⟩ q hq1 hq2
      rcases Nat.lt_or_ge p q with h | h
      · exact ih.1 h2 q h hq2
      · rw [show q = p by omega]; exact h1
    · intro h
      exact ⟨h p (Nat.le_refl _) hlt, ih.2 fun q h1 h2 => h q (by omega) h2⟩
theorem may_all (l : List Tk) : mayS 0 0 (kds l) ↔ ∀ q, q < l.length → mayAt l q := by
  have := may_iff (l := l) l.length 0 (by omega) (Nat.zero_le _)
  rw [List.drop_zero] at this
  exact this.trans ⟨fun h q hq => h q (Nat.zero_le _) hq, fun h q _ hq => h q hq⟩
/-- With one more open. -/
theorem mayS_more {e : Nat} : ∀ (ks : List Int) (last : Int) (o : Nat), (∀ k ∈ ks, k ≠ 10) → (last = 3 → 0 < o) → mayS last o ks → mayS last (o + e) ks ∧ opnS (o + e) ks = opnS o ks + e
  | [], last, o, _, _, _ => ⟨trivial, rfl⟩
  | k :: ks, last, o, h10, h3, h => by
    have hk : k ≠ 10 := h10 k List.mem_cons_self
    obtain ⟨h1, h2⟩ := h
    have h4 : k = 4 → 0 < o := fun e4 => by
      subst e4
      have hb : begK 4 = false := rfl
      unfold mayK at h1
      split at h1
      · omega
      · split at h1
        · rw [hb] at h1; cases h1
        · split at h1
          · rename_i e3; exact h3 e3
          · rcases h1 with h1 | h1 | h1 | h1 | ⟨_, h1⟩ | ⟨h1, _⟩
            · rw [hb] at h1; cases h1
            · omega
            · omega
            · omega
            · exact h1
            · omega
    have es : stepO k (o + e) = stepO k o + e := by
      unfold stepO
      split
      · omega
      · split
        · rename_i e4; have := h4 e4; omega
        · rfl
    have ih := mayS_more (e := e) ks k (stepO k o) (fun k hk => h10 k (List.mem_cons_of_mem _ hk)) (fun e3 => by unfold stepO; rw [if_pos e3]; omega) h2
    refine ⟨⟨?_, ?_⟩, ?_⟩
    · unfold mayK at h1 ⊢
      split at h1
      · rename_i e1; rw [if_pos e1]; exact h1
      · rename_i e1; rw [if_neg e1]
        split at h1
        · rename_i e2; rw [if_pos e2]; exact h1
        · rename_i e2; rw [if_neg e2]
          split at h1
          · rename_i e3; rw [if_pos e3]; exact h1
          · rename_i e3; rw [if_neg e3]
            rcases h1 with h1 | h1 | h1 | h1 | ⟨h1, h5⟩ | ⟨h1, _⟩
            · exact .inl h1
            · exact .inr (.inl h1)
            · exact .inr (.inr (.inl h1))
            · exact .inr (.inr (.inr (.inl h1)))
            · exact .inr (.inr (.inr (.inr (.inl ⟨h1, by omega⟩))))
            · exact absurd h1 hk
    · rw [es]; exact ih.1
    · show opnS (stepO k (o + e)) ks = opnS (stepO k o) ks + e
      rw [es]; exact ih.2
theorem three_may (last : Int) (o : Nat) : mayK last 3 o := by
  unfold mayK
  split
  · rfl
  · split
    · rfl
    · split
      · exact .inl rfl
      · exact .inl rfl
/-- The kinds of what is parsed. -/
structure Whol (ks : List Int) : Prop where
  may : mayS 0 0 (ks ++ [10])
  ten : ∀ k ∈ ks, k ≠ 10
theorem Whol.ends {ks : List Int} (h : Whol ks) : opnS 0 ks = 0 ∧ endK (lastS 0 ks) := by
  obtain ⟨h1, h2, _⟩ := (mayS_append ks [10] 0 0).1 h.may
  have ho := may_ten h2
  refine ⟨ho, ?_⟩
  generalize lastS 0 ks = last at *
  unfold endK
  unfold mayK at h2
  have hb : begK 10 = false := rfl
  split at h2
  · omega
  · split at h2
    · rw [hb] at h2; cases h2
    · split at h2
      · rcases h2 with h2 | h2
        · rw [hb] at h2; cases h2
        · omega
      · omega
theorem lastS_ne : ∀ (ks : List Int) (a b : Int), ks ≠ [] → lastS a ks = lastS b ks
  | [], _, _, h => absurd rfl h
  | _ :: _, _, _, _ => rfl
theorem Whol.ne {ks : List Int} (h : Whol ks) : ks ≠ [] := fun e => by
  have := h.ends.2
  rw [e] at this
  exact this.1 rfl
def grpS (ks : List Int) : List Int := 3 :: (ks ++ [4])
/-- In brackets. -/
theorem Whol.grp {ks : List Int} (h : Whol ks) (last : Int) (o : Nat) : mayS last o (grpS ks) ∧ opnS o (grpS ks) = o ∧ lastS last (grpS ks) = 4 := by
  obtain ⟨h1, h2, _⟩ := (mayS_append ks [10] 0 0).1 h.may
  obtain ⟨e1, e2⟩ := h.ends
  have hin : mayS 3 (o + 1) ks ∧ opnS (o + 1) ks = o + 1 := by
    have hn := h.ne
    have h10 := h.ten
    cases ks with
    | nil => exact absurd rfl hn
    | cons k ks =>
      have hb : begK k = true := by
        have := h1.1
        unfold mayK at this
        rw [if_neg (by omega), if_pos (.inl rfl)] at this
        exact this
      have hb4 : k ≠ 4 := fun e => by rw [e] at hb; cases hb
      have q := mayS_more (e := o + 1) (k :: ks) 0 0 h10 (fun h => by cases h) h1
      rw [Nat.zero_add] at q
      refine ⟨⟨?_, q.1.2⟩, by rw [q.2, e1]; omega⟩
      unfold mayK
      rw [if_neg (by omega), if_neg (by omega), if_pos rfl]
      exact .inl hb
  have es : stepO 3 o = o + 1 := rfl
  refine ⟨⟨three_may last o, ?_⟩, ?_, ?_⟩
  · rw [es, mayS_append]
    refine ⟨hin.1, ?_, trivial⟩
    rw [hin.2, lastS_ne ks 3 0 h.ne]
    exact (may_end e2).2 (.inr (.inr (.inr (.inr (.inl ⟨rfl, by omega⟩)))))
  · show opnS (stepO 3 o) (ks ++ [4]) = o
    rw [es, opnS_append, hin.2]; rfl
  · show lastS 3 (ks ++ [4]) = 4
    have : ∀ (ks : List Int) (a : Int), lastS a (ks ++ [4]) = 4 := fun ks => by
      induction ks with
      | nil => intro a; rfl
      | cons k ks ih => intro a; exact ih k
    exact this ks 3
theorem four_end : endK 4 := by unfold endK; omega
theorem ten_may {last : Int} (h : endK last) : mayS last 0 [10] := ⟨(may_end h).2 (.inr (.inr (.inr (.inr (.inr ⟨rfl, rfl⟩))))), trivial⟩
theorem row_may {a b : List Int} (ha : Whol a) (hb : Whol b) : mayS 0 0 (grpS a ++ (grpS b ++ [10])) := by
  obtain ⟨a1, a2, a3⟩ := ha.grp 0 0
  obtain ⟨b1, b2, b3⟩ := hb.grp 4 0
  rw [mayS_append, a2, a3, mayS_append, b2, b3]
  exact ⟨a1, b1, ten_may four_end⟩
/-- What is open somewhere. -/
def DeepS (o : Nat) (ks : List Int) : Prop := ∃ n, n ≤ ks.length ∧ 64 < opnS o (ks.take n)
theorem DeepS.left {o : Nat} {a : List Int} (h : DeepS o a) (b : List Int) : DeepS o (a ++ b) := by
  obtain ⟨n, h1, h2⟩ := h
  exact ⟨n, by rw [List.length_append]; omega, by rw [List.take_append_of_le_length h1]; exact h2⟩
theorem DeepS.right {o : Nat} {a b : List Int} (h : DeepS (opnS o a) b) : DeepS o (a ++ b) := by
  obtain ⟨n, h1, h2⟩ := h
  refine ⟨a.length + n, by rw [List.length_append]; omega, ?_⟩
  rw [List.take_length_add_append, opnS_append]; exact h2
theorem DeepS.grp {ks : List Int} (h : DeepS 1 ks) : DeepS 0 (grpS ks) := DeepS.right (a := [3]) (b := ks ++ [4]) (h.left _)
/-- Tokens that may stand, but are too deep. -/
theorem deep_bad {l : List Tk} (he : TEnds l) (hm : mayS 0 0 (kds l)) (hd : DeepS 0 (kds l)) : ∃ p, parseP l = .bad 8 p := by
  have hm := (may_all l).1 hm
  obtain ⟨n, h1, h2⟩ := hd
  have hlen : (kds l).length = l.length := List.length_map ..
  rw [hlen] at h1
  have e : opnS 0 ((kds l).take n) = (opsL l n).length := by
    rw [opsL_cnt, cnt_opnS l 0 n h1]; unfold kds; rw [List.map_take]
  rw [e] at h2
  have hn : n ≠ 0 := fun e0 => by rw [e0] at h2; simp [opsL] at h2
  have hseg : ¬ Seg l 0 l.length := fun hs => by
    have := (hs (n - 1) (Nat.zero_le _) (by omega)).2
    rw [show n - 1 + 1 = n by omega] at this
    omega
  have q := parse_ref he
  cases hp : parseP l with
  | out => exact absurd hp (parse_not_out l)
  | ok k t => rw [hp] at q; exact absurd q.1 hseg
  | bad er p =>
    rw [hp] at q
    rcases q with ⟨_, _, hs, _⟩ | ⟨f, hf, hF⟩
    · exact absurd hs hseg
    · rcases hF.what with ⟨rfl, _⟩ | ⟨hn, _⟩
      · exact ⟨p, rfl⟩
      · exact absurd (hm f hf) hn
/-- What is parsed may stand. -/
theorem whol_of {l : List Tk} (he : TEnds l) {k : Int} {t : PS} (h : parseP l = .ok k t) : Whol (kds l.dropLast) ∧ kds l = kds l.dropLast ++ [10] := by
  have q := parse_ref he
  rw [h] at q
  have hpos := he.pos
  have hlast : l = l.dropLast ++ [tkAt l (l.length - 1)] := by
    have hne : l ≠ [] := List.length_pos_iff.1 hpos
    have := List.dropLast_concat_getLast hne
    have e2 : l.getLast hne = tkAt l (l.length - 1) := by
      unfold tkAt
      rw [List.getLast_eq_getElem, List.getD_eq_getElem?_getD, List.getElem?_eq_getElem (by omega)]; rfl
    rw [e2] at this
    exact this.symm
  have e : kds l = kds l.dropLast ++ [10] := by
    have : kds l = kds (l.dropLast ++ [tkAt l (l.length - 1)]) := by rw [← hlast]
    rw [this]
    unfold kds
    rw [List.map_append, List.map_cons, he.last]; rfl
  refine ⟨⟨?_, ?_⟩, e⟩
  · rw [← e, may_all]
    exact fun p hp => (q.1 p (Nat.zero_le _) hp).1
  · intro k hk
    unfold kds at hk
    obtain ⟨x, hx, rfl⟩ := List.mem_map.1 hk
    obtain ⟨i, hi, ex⟩ := List.getElem_of_mem hx
    rw [List.length_dropLast] at hi
    have : tkAt l i = x := by
      rw [← tk_drop hi]; unfold tkAt
      rw [List.getD_eq_getElem?_getD, List.getElem?_eq_getElem (by rw [List.length_dropLast]; exact hi)]; exact ex
    rw [← this]; exact he.only i hi
/-- Is there room for one more bracket around it? -/
theorem fit_or {l : List Tk} (he : TEnds l) : (∀ i, cntO l 1 i ≤ 64) ∨ DeepS 1 (kds l.dropLast) := by
  by_cases h : ∀ i, i ≤ l.length - 1 → cntO l 1 i ≤ 64
  · left
    intro i
    rcases Nat.lt_or_ge (l.length - 1) i with hi | hi
    · have e : ∀ j, cntO l 1 (l.length - 1 + j) = cntO l 1 (l.length - 1) := fun j => by
        induction j with
        | zero => rfl
        | succ j ih =>
          have h10 : (tkAt l (l.length - 1 + j)).kind = 10 := by
            rcases Nat.eq_zero_or_pos j with h0 | h0
            · rw [h0]; exact he.last
            · rw [tk_over (by omega)]; rfl
          rw [← Nat.add_assoc, cntO, h10, ih]; rfl
      have := e (i - (l.length - 1))
      rw [show l.length - 1 + (i - (l.length - 1)) = i by omega] at this
      rw [this]; exact h _ (Nat.le_refl _)
    · exact h i hi
  · right
    rw [Classical.not_forall] at h
    obtain ⟨i, h⟩ := h
    rw [Classical.not_imp] at h
    obtain ⟨h1, h2⟩ := h
    refine ⟨i, by unfold kds; rw [List.length_map, List.length_dropLast]; exact h1, ?_⟩
    rw [cnt_opnS l 1 i (by omega)] at h2
    have e : (kds l.dropLast).take i = kds (l.take i) := by
      unfold kds
      rw [← List.map_take, List.dropLast_eq_take, List.take_take, Nat.min_eq_left h1]
    rw [e]; omega
/-- An or of two in brackets. -/
def orBr (a b : List Tk) : List Tk := (inBr a).dropLast ++ { kind := 5 } :: inBr b
theorem parse_orBr {l m l2 : List Tk} {k j : Int} {u v : PS} (he : TEnds l) (hd : PDone l k u) (h64 : ∀ i, cntO l 1 i ≤ 64) (he2 : TEnds m) (hd2 : PDone m j v) (h642 : ∀ i, cntO m 1 i ≤ 64) (hf : u.count + v.count < 4096) (hl : LikeL (orBr l m) l2) : ∃ t i, parseP l2 = .ok i t ∧ t.nodes = pairL 5 u.nodes v.nodes := by
  have hp := he.pos
  have hp2 := he2.pos
  have hL := inBr_len hp
  have in_ : ∀ i, i < l.length + 1 → tkAt (orBr l m) i = tkAt (inBr l) i := fun i hi => by unfold orBr; rw [tk_left (by rw [List.length_dropLast]; omega), tk_drop (by omega)]
  have out_ : ∀ i, tkAt (orBr l m) (l.length + 1 + i) = tkAt ({ kind := 5 } :: inBr m) i := fun i => by unfold orBr; rw [tk_right (by rw [List.length_dropLast]; omega), show l.length + 1 + i - (inBr l).dropLast.length = i by rw [List.length_dropLast]; omega]
  obtain ⟨e3, s2, R, r1, r2, r3, r4⟩ := br_of (s2 := {}) (l2 := l2) he hd h64 (fun i hi => by rw [← in_ i hi]; exact hl i) (by have := hd.fits; exact this)
  have a1 : s2.read = l.length + 1 := by rw [r1]; show 0 + l.length + 1 = _; omega
  have a2 : s2.count = u.count := r3
  have a3 : s2.opn = [] := r2
  have a4 : s2.nodes = u.nodes := by
    rw [r4]; show [] ++ u.nodes.map (mvN ((0 : Nat) : Int)) = _
    rw [List.nil_append]; exact map_mv_zero _
  have e5 : (tkAt l2 s2.read).kind = 5 := by have := (hl (l.length + 1 + 0)).1; rw [out_] at this; rw [a1]; exact this
  obtain ⟨e32, t2, R2, q1, q2, q3, q4⟩ := br_of (s2 := s2.next) (l2 := l2) he2 hd2 (by rw [show s2.next.opn = [] from a3]; exact h642) (fun i _ => by
    have := hl (l.length + 1 + (i + 1)); rw [out_, tk_cons] at this
    rw [show i + s2.next.read = l.length + 1 + (i + 1) by simp only [PS.next]; omega]; exact this) (by show v.count + s2.count ≤ 4096; omega)
  have e10 : (tkAt l2 t2.read).kind = 10 := by
    rw [q1, show s2.next.read + m.length + 1 = l.length + 1 + (m.length + 1 + 1) by simp only [PS.next]; omega, (hl _).1, out_, tk_cons]; exact inBr_end hp2
  have hc : t2.count = v.count + u.count := by rw [q3]; show v.count + s2.count = _; omega
  have W1 := row_of e3 R (by rw [e5]; rfl) (by rw [e5]; decide) (by rw [e5]; decide)
  have W2 := row_of e32 R2 (by rw [e10]; rfl) (by rw [e10]; decide) (by rw [e10]; decide)
  have R3 := W1.or (Runs.orLGo e5 W2 (Runs.orLStop (by rw [(lay_read _ _ _).1, e10]; decide)))
  refine ⟨_, _, runs_parse R3 (by rw [(lay_read _ _ _).1]; exact e10) (by rw [(lay_read _ _ _).2.2, hc]; omega), ?_⟩
  show (t2.lay _ _).nodes = _
  rw [lay_nodes (by omega), q4]
  show s2.nodes ++ v.nodes.map (mvN (s2.count : Int)) ++ [{ kind := 5, a := k + ((0 : Nat) : Int), b := j + (s2.count : Int) }] = _
  rw [a4, a2, hd.k, hd2.k]
  unfold pairL; rw [hd.len, hd2.len]
  congr 2
  simp only [Nd.mk.injEq, true_and, and_true]
  omega
/-- A star of what stands in brackets. -/
def starBr (a : List Tk) : List Tk := (inBr a).dropLast ++ [{ kind := 6 }, tkEnd]
theorem parse_starBr {l l2 : List Tk} {k : Int} {u : PS} (he : TEnds l) (hd : PDone l k u) (h64 : ∀ i, cntO l 1 i ≤ 64) (hf : u.count < 4096) (hl : LikeL (starBr l) l2) : ∃ t i x, parseP l2 = .ok i t ∧ t.nodes = wrapL 6 0 0 u.nodes ∧ t.ats = x ++ [(tkAt l2 (l.length + 1)).at_] := by
  have hp := he.pos
  have hL := inBr_len hp
  have in_ : ∀ i, i < l.length + 1 → tkAt (starBr l) i = tkAt (inBr l) i := fun i hi => by unfold starBr; rw [tk_left (by rw [List.length_dropLast]; omega), tk_drop (by omega)]
  have out_ : ∀ i, tkAt (starBr l) (l.length + 1 + i) = tkAt [{ kind := 6 }, tkEnd] i := fun i => by unfold starBr; rw [tk_right (by rw [List.length_dropLast]; omega), show l.length + 1 + i - (inBr l).dropLast.length = i by rw [List.length_dropLast]; omega]
  obtain ⟨e3, s2, R, r1, r2, r3, r4⟩ := br_of (s2 := {}) (l2 := l2) he hd h64 (fun i hi => by rw [← in_ i hi]; exact hl i) (by have := hd.fits; exact this)
  have a1 : s2.read = l.length + 1 := by rw [r1]; show 0 + l.length + 1 = _; omega
  have a2 : s2.count = u.count := r3
  have a4 : s2.nodes = u.nodes := by
    rw [r4]; show [] ++ u.nodes.map (mvN ((0 : Nat) : Int)) = _
    rw [List.nil_append]; exact map_mv_zero _
  have e6 : (tkAt l2 s2.read).kind = 6 := by have := (hl (l.length + 1 + 0)).1; rw [out_] at this; rw [a1]; exact this
  have e10 : (tkAt l2 (s2.read + 1)).kind = 10 := by have := (hl (l.length + 1 + 1)).1; rw [out_] at this; rw [a1]; exact this
  have f1 : (s2.lay { kind := 6, a := k + ((0 : Nat) : Int) } (tkAt l2 s2.read).at_).next.read = s2.read + 1 := by simp only [PS.next]; rw [(lay_read _ _ _).1]
  have R2 := (((Runs.atomG e3 R).post (Runs.star e6 (Runs.postLStop (by rw [f1, e10]; decide) (by rw [f1, e10]; decide)))).row (Runs.rowLStop (by rw [f1, e10]; decide))).or (Runs.orLStop (by rw [f1, e10]; decide))
  have hfit : s2.count < 4096 := by omega
  refine ⟨_, _, s2.ats, runs_parse R2 (by rw [f1]; exact e10) (by simp only [PS.next]; rw [(lay_read _ _ _).2.2]; omega), ?_, ?_⟩
  · show (s2.lay _ _).nodes = _
    rw [lay_nodes hfit, a4, hd.k]
    unfold wrapL
    rw [hd.len]
    congr 2
    simp only [Nd.mk.injEq, true_and, and_true]
    omega
  · show (s2.lay _ _).ats = _
    rw [lay_ats hfit, a1]
end Go.Proofs.YtcgjmnhmhiddkaaGreatDoor
/- Two valid texts in brackets, one behind the other, with an or between, and one with a star behind: plain mathematics. -/
namespace Go.Proofs.YtcgjmnhmhiddkaaGreatDoor
open Go
set_option linter.unusedVariables false
set_option linter.unusedSimpArgs false

/-- A text is read as these tokens, whatever is behind. -/
def RdA (s : List UInt8) (K : List Tk) : Prop := ∀ p x, ∃ ts : List Tok, readL (s ++ x) p 0 = (readL x (p + s.length) 0).map (ts ++ ·) ∧ ts.length = K.length ∧ LikeL K (ts.map tkOfT)
theorem map_map (r : Except (Nat × Nat) (List Tok)) (a b : List Tok) : (r.map (b ++ ·)).map (a ++ ·) = r.map ((a ++ b) ++ ·) := by
  cases r with
  | error z => rfl
  | ok r => show Except.ok (a ++ (b ++ r)) = Except.ok ((a ++ b) ++ r); rw [List.append_assoc]
theorem LikeL.app {a b c d : List Tk} (h : LikeL a c) (k : LikeL b d) (hl : c.length = a.length) : LikeL (a ++ b) (c ++ d) := fun i => by
  rcases Nat.lt_or_ge i a.length with hi | hi
  · rw [tk_left hi, tk_left (by omega)]; exact h i
  · rw [tk_right hi, tk_right (by omega), hl]; exact k _
theorem RdA.append {a b : List UInt8} {K L : List Tk} (h : RdA a K) (k : RdA b L) : RdA (a ++ b) (K ++ L) := fun p x => by
  obtain ⟨ts, h1, h2, h3⟩ := h p (b ++ x)
  obtain ⟨us, k1, k2, k3⟩ := k (p + a.length) x
  refine ⟨ts ++ us, ?_, by rw [List.length_append, List.length_append, h2, k2], ?_⟩
  · rw [List.append_assoc, h1, k1, map_map, List.length_append, Nat.add_assoc]
  · rw [List.map_append]; exact h3.app k3 (by rw [List.length_map, h2])
theorem RdA.short {c : UInt8} {t : Tok} (hs : shortV c = some t) (hc : c ≠ 32) : RdA [c] [tkOfT t] := fun p x => by
  refine ⟨[{ t with at_ := p }], ?_, rfl, fun i => ?_⟩
  · show readL (c :: x) p 0 = _
    rw [readL_c0, if_neg hc, oneV_eq, hs]; rfl
  · cases i with
    | zero => exact ⟨rfl, rfl, rfl, rfl, rfl⟩
    | succ i => cases i <;> exact ⟨rfl, rfl, rfl, rfl, rfl⟩
theorem RdA.space : RdA [32] [] := fun p x => by
  refine ⟨[], ?_, rfl, fun i => ⟨rfl, rfl, rfl, rfl, rfl⟩⟩
  show readL (32 :: x) p 0 = _
  rw [readL_c0, if_pos rfl]
  show _ = (readL x (p + 1) 0).map ([] ++ ·)
  cases readL x (p + 1) 0 <;> rfl
theorem like_drop {a b : List Tk} (h : LikeL a b) (hl : b.length = a.length) : LikeL a.dropLast b.dropLast := fun i => by
  rcases Nat.lt_or_ge i (a.length - 1) with hi | hi
  · rw [tk_drop hi, tk_drop (by omega)]; exact h i
  · rw [tk_over (by rw [List.length_dropLast]; omega), tk_over (by rw [List.length_dropLast]; omega)]; exact ⟨rfl, rfl, rfl, rfl, rfl⟩
theorem RdA.text {s : List UInt8} {r : List Tok} (h : readL s 0 0 = .ok r) : RdA s (r.map tkOfT).dropLast := fun p x => by
  have e : readL s p 0 = .ok (r.map (Tok.shift p)) := by
    have := readL_shift p s 0 0
    rw [Nat.zero_add, h] at this; exact this
  refine ⟨(r.map (Tok.shift p)).dropLast, readL_app s p 0 _ x (Nat.zero_le _) e, by rw [List.length_dropLast, List.length_dropLast, List.length_map, List.length_map], ?_⟩
  have hl : LikeL (r.map tkOfT) ((r.map (Tok.shift p)).map tkOfT) := fun i => by
    rcases Nat.lt_or_ge i r.length with hi | hi
    · rw [tkT_at hi, tkT_at (by rw [List.length_map]; exact hi), List.getElem_map]; exact ⟨rfl, rfl, rfl, rfl, rfl⟩
    · rw [tk_over (by rw [List.length_map]; exact hi), tk_over (by rw [List.length_map, List.length_map]; exact hi)]; exact ⟨rfl, rfl, rfl, rfl, rfl⟩
  rw [List.map_dropLast]
  exact like_drop hl (by rw [List.length_map, List.length_map, List.length_map])
/-- .. and it is the whole. -/
theorem RdA.whole {s : List UInt8} {K : List Tk} (h : RdA s K) : ∃ X, readL s 0 0 = .ok X ∧ X.length = K.length + 1 ∧ LikeL (K ++ [tkEnd]) (X.map tkOfT) := by
  obtain ⟨ts, h1, h2, h3⟩ := h 0 []
  rw [List.append_nil, Nat.zero_add, readL_nil] at h1
  refine ⟨ts ++ [{ kind := 10, at_ := s.length }], h1.trans rfl, by rw [List.length_append, h2]; rfl, ?_⟩
  rw [List.map_append]
  exact h3.app (fun i => by cases i <;> exact ⟨rfl, rfl, rfl, rfl, rfl⟩) (by rw [List.length_map, h2])
theorem like_kds {a b : List Tk} (h : LikeL a b) (hl : b.length = a.length) : kds b = kds a := by
  unfold kds
  apply List.ext_getElem
  · rw [List.length_map, List.length_map, hl]
  · intro i h1 h2
    have hi : i < a.length := by rw [List.length_map] at h2; exact h2
    have := (h i).1
    unfold tkAt at this
    rw [List.getD_eq_getElem?_getD, List.getD_eq_getElem?_getD, List.getElem?_eq_getElem hi, List.getElem?_eq_getElem (by omega)] at this
    simp only [List.getElem_map]
    exact this
def opK : Tk := { kind := 3 }
def clK : Tk := { kind := 4 }
/-- A text in brackets. -/
def brT_ (s : List UInt8) : List UInt8 := 40 :: (s ++ [41])
def brS (s : List UInt8) : List UInt8 := 40 :: 32 :: (s ++ [32, 41])
theorem brA {s : List UInt8} {r : List Tok} (h : readL s 0 0 = .ok r) : RdA (brT_ s) (opK :: ((r.map tkOfT).dropLast ++ [clK])) := by
  have o : RdA [40] [opK] := RdA.short (c := 40) rfl (by decide)
  have c : RdA [41] [clK] := RdA.short (c := 41) rfl (by decide)
  exact o.append ((RdA.text h).append c)
theorem brB {s : List UInt8} {r : List Tok} (h : readL s 0 0 = .ok r) : RdA (brS s) (opK :: ((r.map tkOfT).dropLast ++ [clK])) := by
  have o : RdA [40] [opK] := RdA.short (c := 40) rfl (by decide)
  have c : RdA [41] [clK] := RdA.short (c := 41) rfl (by decide)
  exact o.append (RdA.space.append ((RdA.text h).append (RdA.space.append c)))
theorem inBr_split (R : List Tk) : inBr R = opK :: (R.dropLast ++ [clK]) ++ [tkEnd] := by unfold inBr opK clK; simp
theorem inBr_drop (R : List Tk) : (inBr R).dropLast = opK :: (R.dropLast ++ [clK]) := by rw [inBr_split, List.dropLast_concat]
theorem rgt_fst {D : List Nd} (hf : Form D) : Rgt D ↔ (fstW D).2 = false := ⟨fun h => (fstW_right D).2 h.2, fun h => ⟨hf, (fstW_right D).1 h⟩⟩
/-- A valid text's tokens. -/
structure VTk (s : List UInt8) (D : List Nd) (r : List Tok) (k : Int) (u : PS) : Prop where
  rd : readL s 0 0 = .ok r
  ends : TEnds (r.map tkOfT)
  done : PDone (r.map tkOfT) k u
  nodes : u.nodes = D
  whol : Whol (kds (r.map tkOfT).dropLast)
theorem vtk {s : List UInt8} {D : List Nd} (h : validL s = .ok D) : ∃ r k u, VTk s D r k u := by
  obtain ⟨r, k, t, hr, hp, hn, hf⟩ := valid_tok_ok h
  obtain ⟨u, hd, rfl⟩ := parse_done (readL_ends hr) (readL_tkok hr) hp
  exact ⟨r, k, u, hr, readL_ends hr, hd, hn, (whol_of (readL_ends hr) hp).1⟩
/-- What a composed text is. -/
theorem comp_of {x : List UInt8} {K L : List Tk} (h : RdA x K) (e : K ++ [tkEnd] = L) (hk : kds (K ++ [tkEnd]) = kds L) : ∃ X, readL x 0 0 = .ok X ∧ LikeL L (X.map tkOfT) ∧ TEnds (X.map tkOfT) ∧ kds (X.map tkOfT) = kds L := by
  obtain ⟨X, h1, h2, h3⟩ := h.whole
  rw [e] at h3
  exact ⟨X, h1, h3, readL_ends h1, like_kds h3 (by rw [List.length_map, h2, ← e, List.length_append]; rfl)⟩
theorem kds_br (R : List Tk) (L : List Tk) : kds (opK :: (R ++ [clK]) ++ L) = grpS (kds R) ++ kds L := by unfold kds grpS opK clK; simp
/-- Two valid texts in brackets. -/
structure Both (s t : List UInt8) (D E : List Nd) : Prop where
  row : validL (brT_ s ++ brS t) = .ok (pairL 4 D E)
  or : validL (brT_ s ++ ([32, 124, 32] ++ brS t)) = .ok (pairL 5 D E)
  star : wyN D (D.length - 1) = 0 → validL (brT_ s ++ [42]) = .ok (wrapL 6 0 0 D)
  null : 0 < wyN D (D.length - 1) → validL (brT_ s ++ [42]) = .bad 10 ((brT_ s).length : Nat)
theorem valid_both {s t : List UInt8} {D E : List Nd} (hs : validL s = .ok D) (ht : validL t = .ok E) (hls : s.length ≤ 300) (hlt : t.length ≤ 300) :
    Both s t D E ∨ ∃ p, validL (brT_ s ++ brS t) = .bad 8 p := by
  have os := valid_ok hs
  have ot := valid_ok ht
  obtain ⟨r, k, u, vs⟩ := vtk hs
  obtain ⟨q, j, v, vt⟩ := vtk ht
  have hK1 : RdA (brT_ s ++ brS t) ((opK :: ((r.map tkOfT).dropLast ++ [clK])) ++ (opK :: ((q.map tkOfT).dropLast ++ [clK]))) := (brA vs.rd).append (brB vt.rd)
  have e1 : (opK :: ((r.map tkOfT).dropLast ++ [clK])) ++ (opK :: ((q.map tkOfT).dropLast ++ [clK])) ++ [tkEnd] = rowOf (r.map tkOfT) (q.map tkOfT) := by
    unfold rowOf; rw [inBr_drop, inBr_split, List.append_assoc]
  obtain ⟨X, x1, x2, x3, x4⟩ := comp_of hK1 e1 (by rw [e1])
  have kX : kds (X.map tkOfT) = grpS (kds (r.map tkOfT).dropLast) ++ (grpS (kds (q.map tkOfT).dropLast) ++ [10]) := by
    rw [x4, ← e1, List.append_assoc, kds_br, kds_br]; rfl
  have hmay : mayS 0 0 (kds (X.map tkOfT)) := by rw [kX]; exact row_may vs.whol vt.whol
  have bad : DeepS 0 (kds (X.map tkOfT)) → ∃ p, validL (brT_ s ++ brS t) = .bad 8 p := fun hd => by
    obtain ⟨p, hp⟩ := deep_bad x3 hmay hd
    exact ⟨p, by rw [validL_tok x1, toksR_bad hp]⟩
  rcases fit_or vs.ends with f1 | f1
  case inr => exact .inr (bad (by rw [kX]; exact f1.grp.left _))
  rcases fit_or vt.ends with f2 | f2
  case inr =>
    refine .inr (bad ?_)
    rw [kX]
    have := (vs.whol.grp 0 0).2.1
    exact DeepS.right (by rw [this]; exact f2.grp.left _)
  left
  have cu : u.count = D.length := by rw [← vs.nodes, vs.done.len]
  have cv : v.count = E.length := by rw [← vt.nodes, vt.done.len]
  have h1 := os.few
  have h2 := ot.few
  have hcount : u.count + v.count < 4096 := by omega
  have rD := (rgt_fst os.form).2 os.fst
  have rE := (rgt_fst ot.form).2 ot.fst
  have okp : ∀ kind : Int, (kind = 4 ∨ kind = 5) → (fstW (pairL kind D E)).2 = false := fun kind hk => by
    have q := (rgt_pair os.form ot.form hk).2 ⟨rD, rE⟩
    exact (fstW_right _).2 q.2
  have fin : ∀ {x : List UInt8} {Y : List Tok} {i : Int} {t : PS} {F : List Nd}, readL x 0 0 = .ok Y → parseP (Y.map tkOfT) = .ok i t → t.nodes = F → (fstW F).2 = false → validL x = .ok F := fun hx hp hn hF => by
    rw [validL_tok hx, toksR_ok hp]
    unfold nullR
    rw [hn, if_neg (by rw [hF]; decide)]
  have hOr : RdA [32, 124, 32] [({ kind := 5 } : Tk)] := RdA.space.append (RdA.append (K := [{ kind := 5 }]) (RdA.short (c := 124) rfl (by decide)) RdA.space)
  have hK2 : RdA (brT_ s ++ ([32, 124, 32] ++ brS t)) ((opK :: ((r.map tkOfT).dropLast ++ [clK])) ++ ([{ kind := 5 }] ++ (opK :: ((q.map tkOfT).dropLast ++ [clK])))) := (brA vs.rd).append (hOr.append (brB vt.rd))
  have e2 : (opK :: ((r.map tkOfT).dropLast ++ [clK])) ++ ([{ kind := 5 }] ++ (opK :: ((q.map tkOfT).dropLast ++ [clK]))) ++ [tkEnd] = orBr (r.map tkOfT) (q.map tkOfT) := by
    unfold orBr; rw [inBr_drop, inBr_split]; simp
  obtain ⟨Y, y1, y2, y3, y4⟩ := comp_of hK2 e2 (by rw [e2])
  have hSt : RdA [42] [({ kind := 6 } : Tk)] := RdA.short (c := 42) rfl (by decide)
  have hK3 : RdA (brT_ s ++ [42]) ((opK :: ((r.map tkOfT).dropLast ++ [clK])) ++ [{ kind := 6 }]) := (brA vs.rd).append hSt
  have e3 : (opK :: ((r.map tkOfT).dropLast ++ [clK])) ++ [({ kind := 6 } : Tk)] ++ [tkEnd] = starBr (r.map tkOfT) := by
    unfold starBr; rw [inBr_drop]; simp
  obtain ⟨Z, z1, z2, z3, z4⟩ := comp_of hK3 e3 (by rw [e3])
  -- the place of the star
  obtain ⟨ts, g1, g2, g3⟩ := (brA vs.rd) 0 [42]
  have g4 : readL [42] (brT_ s).length 0 = .ok [{ kind := 6, at_ := (brT_ s).length }, { kind := 10, at_ := (brT_ s).length + 1 }] := by
    rw [readL_c0, if_neg (by decide)]; rfl
  rw [Nat.zero_add, g4] at g1
  have eZ : Z = ts ++ [{ kind := 6, at_ := (brT_ s).length }, { kind := 10, at_ := (brT_ s).length + 1 }] := by
    rw [g1] at z1
    injection z1 with z1
    exact z1.symm
  have hR : (r.map tkOfT).length = r.length := List.length_map ..
  have hts : ts.length = r.length + 1 := by
    have hpos := vs.ends.pos
    rw [g2]; simp only [List.length_cons, List.length_append, List.length_dropLast, List.length_nil]; omega
  have hat : (tkAt (Z.map tkOfT) ((r.map tkOfT).length + 1)).at_ = ((brT_ s).length : Int) := by
    rw [hR, tkT_at (by rw [eZ, List.length_append, hts]; simp)]
    show ((Z[r.length + 1]'_).at_ : Int) = _
    have : Z[r.length + 1]? = some { kind := 6, at_ := (brT_ s).length } := by
      rw [eZ, List.getElem?_append_right (by omega), hts, Nat.sub_self]; rfl
    rw [List.getElem?_eq_getElem (by rw [eZ, List.length_append, hts]; simp)] at this
    rw [Option.some.inj this]
  obtain ⟨t1, i1, p1, n1⟩ := parse_rowOf vs.ends vs.done f1 vt.ends vt.done f2 hcount x2
  obtain ⟨t2, i2, p2, n2⟩ := parse_orBr vs.ends vs.done f1 vt.ends vt.done f2 hcount y2
  obtain ⟨t3, i3, A3, p3, n3, m3⟩ := parse_starBr vs.ends vs.done f1 (by omega) z2
  rw [vs.nodes, vt.nodes] at n1 n2
  rw [vs.nodes] at n3
  have hpos := os.form.1
  have hFw : Form (wrapL 6 0 0 D) := wrap_form os.form (.inl rfl) ⟨rfl, rfl⟩
  have hrw := rgt_wrap os.form hFw (by omega)
  refine ⟨fin x1 p1 n1 (okp 4 (.inl rfl)), fin y1 p2 n2 (okp 5 (.inr rfl)), fun h0 => fin z1 p3 n3 ((fstW_right _).2 (hrw.2 ⟨rD, fun _ => h0⟩).2), fun h0 => ?_⟩
  rw [validL_tok z1, toksR_ok p3]
  unfold nullR
  have hlen : (wrapL 6 0 0 D).length = D.length + 1 := by unfold wrapL; rw [List.length_append]; rfl
  have hAt := wrap_at (l := D) (kind := 6) (lo := 0) (hi := 0)
  have hWy := (wyN_wrap (l := D) (kind := 6) (lo := 0) (hi := 0)).1
  have hit : fstW (wrapL 6 0 0 D) = (D.length, true) := by
    refine fstW_some (by omega) ?_ fun j hj => ?_
    · rw [badW_form hFw (by omega), hAt.2, hWy _ (by omega)]
      exact ⟨.inl rfl, by omega⟩
    · have hb := rD.2 j hj
      have hb' : ¬ badW D j = true := by rw [hb]; decide
      rw [badW_form os.form hj] at hb'
      rw [← Bool.not_eq_true, badW_form hFw (by omega), hAt.1 j hj]
      rcases Nat.eq_zero_or_pos j with e0 | e0
      · rw [e0] at hb' ⊢
        rwa [hWy _ (by omega)]
      · rwa [hWy _ (by omega)]
  rw [n3, hit, if_pos rfl]
  have hal := (ats_star (readL_ends z1) p3).1
  rw [n3, hlen, m3, List.length_append] at hal
  simp only [List.length_cons, List.length_nil] at hal
  rw [m3, hat, List.getD_eq_getElem?_getD, List.getElem?_append_right (by omega), show D.length - A3.length = 0 by omega]
  rfl
end Go.Proofs.YtcgjmnhmhiddkaaGreatDoor
