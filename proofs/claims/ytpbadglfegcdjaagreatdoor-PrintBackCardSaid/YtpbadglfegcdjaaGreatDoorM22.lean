/- The tokens of a description's text are parsed to it: plain mathematics. -/
import Derived.Test.YtpbadglfegcdjaaGreatDoorM18
import Derived.Test.YtpbadglfegcdjaaGreatDoorM21
import Derived.Test.YtpbadglfegcdjaaGreatDoorM19
import Derived.Shelf.Strings.BuilderK
import Derived.Shelf.Strings.OnBuilder
import Derived.Shelf.Strconv.Itoa3
namespace Go.Proofs.YtpbadglfegcdjaaGreatDoor
open Go
set_option linter.unusedVariables false
set_option linter.unusedSimpArgs false

/-- A node's tokens, given its parts'. -/
def tkP (f : Int → Int → List Tk) (n : Nd) : List Tk :=
  if n.kind = 1 then [{ kind := 3 }, { kind := 4 }]
  else if n.kind = 2 then [{ kind := 1, cls := n.cls }]
  else if n.kind = 3 then [{ kind := 2, text := n.text }]
  else if n.kind = 4 then f n.a 1 ++ f n.b 2
  else if n.kind = 5 then f n.a 0 ++ ({ kind := 5 } :: f n.b 1)
  else if n.kind = 6 then f n.a 2 ++ [{ kind := 6 }]
  else if n.kind = 7 then f n.a 2 ++ [{ kind := 7, lo := n.lo, hi := n.hi }]
  else { kind := n.kind } :: { kind := 3 } :: (f n.a 0 ++ [{ kind := 4 }])
def brT (l : List Tk) : List Tk := { kind := 3 } :: (l ++ [{ kind := 4 }])
def tkF (l : List Nd) : Nat → Int → Int → List Tk
  | 0, _, _ => []
  | f + 1, i, lev => if levK (atN l i.toNat).kind < lev then brT (tkP (tkF l f) (atN l i.toNat)) else tkP (tkF l f) (atN l i.toNat)
/-- How deep they are. -/
def dpP (f : Int → Int → Nat) (n : Nd) : Nat :=
  if n.kind = 1 then 1
  else if n.kind = 2 then 0
  else if n.kind = 3 then 0
  else if n.kind = 4 then max (f n.a 1) (f n.b 2)
  else if n.kind = 5 then max (f n.a 0) (f n.b 1)
  else if n.kind = 6 then f n.a 2
  else if n.kind = 7 then f n.a 2
  else f n.a 0 + 1
def dpF (l : List Nd) : Nat → Int → Int → Nat
  | 0, _, _ => 0
  | f + 1, i, lev => if levK (atN l i.toNat).kind < lev then dpP (dpF l f) (atN l i.toNat) + 1 else dpP (dpF l f) (atN l i.toNat)
/-- These tokens stand there, but for the places. -/
def Here (L : List Tk) (p : Nat) (ts : List Tk) : Prop := ∀ j, j < ts.length → LikeT (tkAt ts j) (tkAt L (p + j))
theorem Here.left {L : List Tk} {p : Nat} {a b : List Tk} (h : Here L p (a ++ b)) : Here L p a := fun j hj => by
  have := h j (by rw [List.length_append]; omega)
  rwa [tk_left hj] at this
theorem Here.right {L : List Tk} {p : Nat} {a b : List Tk} (h : Here L p (a ++ b)) : Here L (p + a.length) b := fun j hj => by
  have := h (a.length + j) (by rw [List.length_append]; omega)
  rw [tk_right (by omega), show a.length + j - a.length = j by omega] at this
  rwa [show p + a.length + j = p + (a.length + j) by omega]
theorem Here.head {L : List Tk} {p : Nat} {x : Tk} {b : List Tk} (h : Here L p (x :: b)) : LikeT x (tkAt L p) ∧ Here L (p + 1) b := ⟨h 0 (by simp), fun j hj => by
  have := h (j + 1) (by simp; omega)
  rw [tk_cons] at this
  rwa [show p + 1 + j = p + (j + 1) by omega]⟩
/-- How reading goes on behind a node, by its level. -/
def GoP (L : List Tk) (lev : Int) (s t : PS) (k : Int) : Prop :=
  if lev = 3 then Runs L .atom s (.ok k t)
  else if lev = 2 then ∀ r, Runs L (.postL k) t r → Runs L .post s r
  else if lev = 1 then (tkAt L t.read).kind ≠ 6 → (tkAt L t.read).kind ≠ 7 → ∀ r, Runs L (.rowL k) t r → Runs L .row s r
  else begK (tkAt L t.read).kind = false → (tkAt L t.read).kind ≠ 6 → (tkAt L t.read).kind ≠ 7 → ∀ r, Runs L (.orL k) t r → Runs L .or s r
theorem GoP.two {L : List Tk} {s t : PS} {k : Int} (h : GoP L 3 s t k) : GoP L 2 s t k := fun r hr => Runs.post h hr
theorem GoP.oneL {L : List Tk} {s t : PS} {k : Int} (h : GoP L 2 s t k) : GoP L 1 s t k := fun h6 h7 r hr => Runs.row (h _ (Runs.postLStop h6 h7)) hr
theorem GoP.zero {L : List Tk} {s t : PS} {k : Int} (h : GoP L 1 s t k) : GoP L 0 s t k := fun hb h6 h7 r hr => Runs.or (h h6 h7 _ (Runs.rowLStop (by rw [hb]; decide))) hr
theorem GoP.down {L : List Tk} {s t : PS} {k lv lev : Int} (h : GoP L lv s t k) (h0 : lv = 0 ∨ lv = 1 ∨ lv = 2 ∨ lv = 3) (h1 : lev = 0 ∨ lev = 1 ∨ lev = 2 ∨ lev = 3) (hle : lev ≤ lv) : GoP L lev s t k := by
  rcases h0 with rfl | rfl | rfl | rfl <;> rcases h1 with rfl | rfl | rfl | rfl <;> first
    | exact h
    | (exfalso; omega)
    | exact h.zero
    | exact h.oneL
    | exact h.oneL.zero
    | exact h.two
    | exact h.two.oneL
    | exact h.two.oneL.zero
theorem lev_four (k : Int) : levK k = 0 ∨ levK k = 1 ∨ levK k = 2 ∨ levK k = 3 := by unfold levK; (repeat' split) <;> simp
/-- What the parser holds ahead of a node, and behind it. -/
structure At (l : List Nd) (s : PS) (n : Nat) : Prop where
  cnt : s.count = n
  nds : s.nodes = l.take n
theorem At.next {l : List Nd} {s : PS} {n : Nat} (h : At l s n) : At l s.next n := ⟨h.cnt, h.nds⟩
theorem At.into {l : List Nd} {s : PS} {n : Nat} {L : List Tk} (h : At l s n) : At l (s.into L) n := ⟨h.cnt, h.nds⟩
theorem At.lay {l : List Nd} {s : PS} {n : Nat} (h : At l s n) (hn : n < l.length) (h4 : l.length ≤ 4096) {x : Nd} (hx : x = atN l n) (p : Int) : At l (s.lay x p) (n + 1) := by
  have hc := h.cnt
  refine ⟨by rw [(lay_read _ _ _).2.2, hc], ?_⟩
  rw [lay_nodes (by omega), h.nds, hx, List.take_succ_eq_append_getElem hn]
  unfold atN; simp [hn]
theorem tkF_succ (l : List Nd) (f : Nat) (i lev : Int) : tkF l (f + 1) i lev = if levK (atN l i.toNat).kind < lev then brT (tkP (tkF l f) (atN l i.toNat)) else tkP (tkF l f) (atN l i.toNat) := rfl
theorem dpF_succ (l : List Nd) (f : Nat) (i lev : Int) : dpF l (f + 1) i lev = if levK (atN l i.toNat).kind < lev then dpP (dpF l f) (atN l i.toNat) + 1 else dpP (dpF l f) (atN l i.toNat) := rfl
/-- What a node's parts are. -/
theorem ok_parts {l : List Nd} {i : Nat} (h : okN l i (atN l i)) :
    ((atN l i).kind = 1 ∨ (atN l i).kind = 2 ∨ (atN l i).kind = 3) ∧ firstP l i = i ∨
    (∃ q : Nat, i = q + 1 ∧ (atN l i).a = (q : Int) ∧ firstP l i = firstP l q ∧ ((atN l i).kind = 6 ∨ (atN l i).kind = 7 ∨ (atN l i).kind = 8 ∨ (atN l i).kind = 9)) ∨
    (∃ q p : Nat, i = q + 1 ∧ (atN l i).b = (q : Int) ∧ (atN l i).a = (p : Int) ∧ firstP l q = p + 1 ∧ firstP l i = firstP l p ∧ p < q + 1 ∧ ((atN l i).kind = 4 ∨ (atN l i).kind = 5)) := by
  have hle := firstP_le l i
  rcases h.2 with h | h | h | h | h | h
  · exact .inl ⟨.inl h, firstP_stop (fun hc => by have := hc.1; unfold partK at this; omega)⟩
  · exact .inl ⟨.inr (.inl h), firstP_stop (fun hc => by have := hc.1; unfold partK at this; omega)⟩
  · exact .inl ⟨.inr (.inr h.1), firstP_stop (fun hc => by have := hc.1; have := h.1; unfold partK at *; omega)⟩
  · obtain ⟨hk, h0, h1⟩ := h
    have hp : partK (atN l i).kind := by unfold partK; omega
    refine .inr (.inl ⟨i - 1, by omega, by omega, ?_, by omega⟩)
    rw [firstP_go hp (by omega) (by omega), show (atN l i).a.toNat = i - 1 by omega]
  · obtain ⟨hk, ⟨h0, h1⟩, _⟩ := h
    have hp : partK (atN l i).kind := by unfold partK; omega
    refine .inr (.inl ⟨i - 1, by omega, by omega, ?_, by omega⟩)
    rw [firstP_go hp (by omega) (by omega), show (atN l i).a.toNat = i - 1 by omega]
  · obtain ⟨hk, ⟨h0, h1⟩, h2, h3⟩ := h
    have hp : partK (atN l i).kind := by unfold partK; omega
    have hq : (atN l i).b.toNat = i - 1 := by omega
    rw [hq] at h3
    have hle2 := firstP_le l (i - 1)
    refine .inr (.inr ⟨i - 1, (atN l i).a.toNat, by omega, by omega, by omega, by omega, ?_, by omega, hk⟩)
    rw [firstP_go hp (by omega) (by omega)]
/-- More steps make the same. -/
theorem tkF_more (l : List Nd) (hok : ∀ j, j < l.length → okN l j (atN l j)) : ∀ (i : Nat), i < l.length → ∀ f g : Nat, i < f → i < g → ∀ lev, tkF l f (i : Int) lev = tkF l g (i : Int) lev ∧ dpF l f (i : Int) lev = dpF l g (i : Int) lev := by
  intro i
  induction i using Nat.strongRecOn with
  | ind i ih =>
    intro hi f g hf hg lev
    obtain ⟨f, rfl⟩ : ∃ f', f = f' + 1 := ⟨f - 1, by omega⟩
    obtain ⟨g, rfl⟩ : ∃ g', g = g' + 1 := ⟨g - 1, by omega⟩
    rw [tkF_succ, tkF_succ, dpF_succ, dpF_succ, Int.toNat_natCast]
    have hp := ok_parts (hok i hi)
    have both : tkP (tkF l f) (atN l i) = tkP (tkF l g) (atN l i) ∧ dpP (dpF l f) (atN l i) = dpP (dpF l g) (atN l i) := by
      generalize atN l i = n at hp ⊢
      unfold tkP dpP
      rcases hp with ⟨hk, _⟩ | ⟨q, hq, ha, _, hk⟩ | ⟨q, p, hq, hb, ha, _, _, hpq, hk⟩
      · rcases hk with hk | hk | hk <;> simp [hk]
      · have K := fun lv => ih q (by omega) (by omega) f g (by omega) (by omega) lv
        rcases hk with hk | hk | hk | hk <;> simp [hk, ha, (K _).1, (K _).2]
      · have K := fun lv => ih q (by omega) (by omega) f g (by omega) (by omega) lv
        have K2 := fun lv => ih p (by omega) (by omega) f g (by omega) (by omega) lv
        rcases hk with hk | hk <;> simp [hk, ha, hb, (K _).1, (K _).2, (K2 _).1, (K2 _).2]
    rw [both.1, both.2]; exact ⟨rfl, rfl⟩
/-- What stands first begins an atom. -/
theorem tk_begs (l : List Nd) (hok : ∀ j, j < l.length → okN l j (atN l j)) : ∀ (i : Nat), i < l.length → ∀ f : Nat, i < f → (0 < (tkP (tkF l (f - 1)) (atN l i)).length ∧ begK (tkAt (tkP (tkF l (f - 1)) (atN l i)) 0).kind = true) ∧ ∀ lev, 0 < (tkF l f (i : Int) lev).length ∧ begK (tkAt (tkF l f (i : Int) lev) 0).kind = true := by
  intro i
  induction i using Nat.strongRecOn with
  | ind i ih =>
    intro hi f hf
    obtain ⟨f, rfl⟩ : ∃ f', f = f' + 1 := ⟨f - 1, by omega⟩
    rw [Nat.add_sub_cancel]
    have hp := ok_parts (hok i hi)
    have first : 0 < (tkP (tkF l f) (atN l i)).length ∧ begK (tkAt (tkP (tkF l f) (atN l i)) 0).kind = true := by
      generalize atN l i = n at hp ⊢
      have go : ∀ (a b : List Tk), 0 < a.length ∧ begK (tkAt a 0).kind = true → 0 < (a ++ b).length ∧ begK (tkAt (a ++ b) 0).kind = true := fun a b h => ⟨by rw [List.length_append]; omega, by rw [tk_left h.1]; exact h.2⟩
      unfold tkP
      rcases hp with ⟨hk, _⟩ | ⟨q, hq, ha, _, hk⟩ | ⟨q, p, hq, hb, ha, _, _, hpq, hk⟩
      · rcases hk with hk | hk | hk
        · simp only [hk]; exact ⟨by simp, rfl⟩
        · simp only [hk]; exact ⟨by simp, rfl⟩
        · simp only [hk]; exact ⟨by simp, rfl⟩
      · have K := (ih q (by omega) (by omega) f (by omega)).2
        rcases hk with hk | hk | hk | hk
        · simp only [hk]; rw [ha]; exact go _ _ (K 2)
        · simp only [hk]; rw [ha]; exact go _ _ (K 2)
        · simp only [hk]; exact ⟨by simp, rfl⟩
        · simp only [hk]; exact ⟨by simp, rfl⟩
      · have K := (ih p (by omega) (by omega) f (by omega)).2
        rcases hk with hk | hk
        · simp only [hk]; rw [ha]; exact go _ _ (K 1)
        · simp only [hk]; rw [ha]; exact go _ _ (K 0)
    refine ⟨first, fun lev => ?_⟩
    rw [tkF_succ, Int.toNat_natCast]
    split
    · exact ⟨by unfold brT; simp, rfl⟩
    · exact first
/-- What stands in brackets. -/
theorem brack {L : List Tk} {s t : PS} {ts : List Tk} {k : Int} (h : Here L s.read (brT ts)) (ho : s.opn.length < 64) (hb : begK (tkAt L (s.read + 1)).kind = true) (ht : t.read = s.read + 1 + ts.length) (hop : t.opn = (s.into L).opn) (hg : GoP L 0 (s.into L) t k) :
    Runs L .group s (.ok k { t.next with opn := t.opn.dropLast }) ∧ ({ t.next with opn := t.opn.dropLast } : PS).opn = s.opn ∧ ({ t.next with opn := t.opn.dropLast } : PS).read = s.read + (brT ts).length := by
  obtain ⟨h3, h4⟩ := Here.head h
  have e4 : (tkAt L t.read).kind = 4 := by
    have q := (Here.head (h4.right)).1.1
    rw [ht]; exact q
  have e3 : (tkAt L s.read).kind = 3 := h3.1
  have R := hg (by rw [e4]; rfl) (by rw [e4]; decide) (by rw [e4]; decide) _ (Runs.orLStop (by rw [e4]; decide))
  refine ⟨Runs.group e3 ho (Runs.inside ?_ R) e4, ?_, ?_⟩
  · intro e
    have : (s.into L).read = s.read + 1 := rfl
    rw [this] at e; rw [e] at hb; exact absurd hb (by decide)
  · show t.opn.dropLast = _
    rw [hop]; simp [PS.into]
  · simp only [PS.next]; rw [ht]; unfold brT; simp; omega
theorem At.opn {l : List Nd} {s : PS} {n : Nat} (h : At l s n) (o : List Int) : At l { s with opn := o } n := ⟨h.cnt, h.nds⟩
/-- A node's tokens are read as the node. -/
theorem here_back (l : List Nd) (hok : ∀ j, j < l.length → okN l j (atN l j)) (h4 : l.length ≤ 4096) (L : List Tk) : ∀ i, i < l.length →
    (∀ s, At l s (firstP l i) → Here L s.read (tkP (tkF l i) (atN l i)) → s.opn.length + dpP (dpF l i) (atN l i) ≤ 64 → ∃ t : PS, t.read = s.read + (tkP (tkF l i) (atN l i)).length ∧ t.opn = s.opn ∧ At l t (i + 1) ∧ GoP L (levK (atN l i).kind) s t (i : Int)) ∧
    (∀ lev : Int, (lev = 0 ∨ lev = 1 ∨ lev = 2 ∨ lev = 3) → ∀ s, At l s (firstP l i) → Here L s.read (tkF l (i + 1) (i : Int) lev) → s.opn.length + dpF l (i + 1) (i : Int) lev ≤ 64 → ∃ t : PS, t.read = s.read + (tkF l (i + 1) (i : Int) lev).length ∧ t.opn = s.opn ∧ At l t (i + 1) ∧ GoP L lev s t (i : Int)) := by
  intro i
  induction i using Nat.strongRecOn with
  | ind i ih =>
    intro hi
    have hn := hok i hi
    have hp := ok_parts hn
    have hb := hn.1
    have own : ∀ s, At l s (firstP l i) → Here L s.read (tkP (tkF l i) (atN l i)) → s.opn.length + dpP (dpF l i) (atN l i) ≤ 64 → ∃ t : PS, t.read = s.read + (tkP (tkF l i) (atN l i)).length ∧ t.opn = s.opn ∧ At l t (i + 1) ∧ GoP L (levK (atN l i).kind) s t (i : Int) := by
      intro s ha hh hd
      obtain ⟨x, hx⟩ : ∃ x, atN l i = x := ⟨_, rfl⟩
      rw [hx] at hp hb hh hd ⊢
      rcases hp with ⟨hk, hf⟩ | ⟨q, hq, hxa, hf, hk⟩ | ⟨q, p, hq, hxb, hxa, hfq, hf, hpq, hk⟩
      · rw [hf] at ha
        rcases hk with hk | hk | hk
        · have hxx : ({ kind := 1 } : Nd) = x := by unfold backN at hb; rw [if_pos hk] at hb; exact hb
          have e : tkP (tkF l i) x = [{ kind := 3 }, { kind := 4 }] := by unfold tkP; rw [if_pos hk]
          have e2 : dpP (dpF l i) x = 1 := by unfold dpP; rw [if_pos hk]
          rw [e] at hh ⊢
          rw [e2] at hd
          obtain ⟨q3, q4⟩ := Here.head hh
          have e3 : (tkAt L s.read).kind = 3 := q3.1
          have e4 : (tkAt L (s.read + 1)).kind = 4 := (Here.head q4).1.1
          have hin : Runs L .inside (s.into L) (.ok (s.count : Int) ((s.into L).lay { kind := 1 } (-1))) := Runs.empty e4
          have hu := lay_read (s.into L) { kind := 1 } (-1)
          have R := Runs.group e3 (by omega) hin (by rw [hu.1]; exact e4)
          refine ⟨{ ((s.into L).lay { kind := 1 } (-1)).next with opn := ((s.into L).lay { kind := 1 } (-1)).opn.dropLast }, ?_, ?_, ?_, ?_⟩
          · simp only [PS.next]; rw [hu.1]; simp [PS.into, PS.next]
          · simp only; rw [hu.2.1]; simp [PS.into]
          · exact ((ha.into.lay hi h4 (hxx.trans hx.symm) (-1)).next).opn _
          · have := Runs.atomG e3 R
            rw [ha.cnt] at this
            rw [hk]; exact this
        · have hxx : ({ kind := 2, cls := x.cls } : Nd) = x := by unfold backN at hb; rw [if_neg (by rw [hk]; decide), if_pos hk] at hb; exact hb
          have e : tkP (tkF l i) x = [{ kind := 1, cls := x.cls }] := by unfold tkP; rw [if_neg (by rw [hk]; decide), if_pos hk]
          rw [e] at hh ⊢
          obtain ⟨q3, _⟩ := Here.head hh
          have R := Runs.bytes (l := L) (s := s) q3.1
          rw [show (tkAt L s.read).cls = x.cls from q3.2.2.2.1, hxx, ha.cnt] at R
          exact ⟨s.next.lay x (-1), by rw [(lay_read _ _ _).1]; rfl, (lay_read _ _ _).2.1, ha.next.lay hi h4 hx.symm (-1), by rw [hk]; exact R⟩
        · have hxx : ({ kind := 3, text := x.text } : Nd) = x := by unfold backN at hb; rw [if_neg (by rw [hk]; decide), if_neg (by rw [hk]; decide), if_pos hk] at hb; exact hb
          have e : tkP (tkF l i) x = [{ kind := 2, text := x.text }] := by unfold tkP; rw [if_neg (by rw [hk]; decide), if_neg (by rw [hk]; decide), if_pos hk]
          rw [e] at hh ⊢
          obtain ⟨q3, _⟩ := Here.head hh
          have R := Runs.text (l := L) (s := s) q3.1
          rw [show (tkAt L s.read).text = x.text from q3.2.2.2.2, hxx, ha.cnt] at R
          exact ⟨s.next.lay x (-1), by rw [(lay_read _ _ _).1]; rfl, (lay_read _ _ _).2.1, ha.next.lay hi h4 hx.symm (-1), by rw [hk]; exact R⟩
      · rw [hf] at ha
        have IH := (ih q (by omega) (by omega)).2
        subst hq
        rcases hk with hk | hk | hk
        · have hxx : ({ kind := 6, a := x.a } : Nd) = x := by unfold backN at hb; simp [hk] at hb; exact hb
          have e : tkP (tkF l (q + 1)) x = tkF l (q + 1) (q : Int) 2 ++ [{ kind := 6 }] := by unfold tkP; simp [hk, hxa]
          have e2 : dpP (dpF l (q + 1)) x = dpF l (q + 1) (q : Int) 2 := by unfold dpP; simp [hk, hxa]
          rw [e] at hh ⊢
          rw [e2] at hd
          obtain ⟨t1, r1, o1, a1, g1⟩ := IH 2 (by omega) s ha hh.left hd
          have e6 : (tkAt L t1.read).kind = 6 := by rw [r1]; exact (Here.head hh.right).1.1
          refine ⟨(t1.lay x (tkAt L t1.read).at_).next, ?_, ?_, (a1.lay hi h4 hx.symm _).next, ?_⟩
          · simp only [PS.next]; rw [(lay_read _ _ _).1, r1]; simp; omega
          · simp only [PS.next]; rw [(lay_read _ _ _).2.1]; exact o1
          · rw [hk]
            exact fun r hr => g1 r (Runs.star e6 (by rw [a1.cnt, ← hxa, hxx]; exact hr))
        · have hxx : ({ kind := 7, a := x.a, lo := x.lo, hi := x.hi } : Nd) = x := by unfold backN at hb; simp [hk] at hb; exact hb
          have e : tkP (tkF l (q + 1)) x = tkF l (q + 1) (q : Int) 2 ++ [{ kind := 7, lo := x.lo, hi := x.hi }] := by unfold tkP; simp [hk, hxa]
          have e2 : dpP (dpF l (q + 1)) x = dpF l (q + 1) (q : Int) 2 := by unfold dpP; simp [hk, hxa]
          rw [e] at hh ⊢
          rw [e2] at hd
          obtain ⟨t1, r1, o1, a1, g1⟩ := IH 2 (by omega) s ha hh.left hd
          have q7 := (Here.head hh.right).1
          rw [← r1] at q7
          refine ⟨(t1.lay x (tkAt L t1.read).at_).next, ?_, ?_, (a1.lay hi h4 hx.symm _).next, ?_⟩
          · simp only [PS.next]; rw [(lay_read _ _ _).1, r1]; simp; omega
          · simp only [PS.next]; rw [(lay_read _ _ _).2.1]; exact o1
          · rw [hk]
            exact fun r hr => g1 r (Runs.rep q7.1 (by rw [a1.cnt, ← hxa, show (tkAt L t1.read).lo = x.lo from q7.2.1, show (tkAt L t1.read).hi = x.hi from q7.2.2.1, hxx]; exact hr))
        · have hxx : ({ kind := x.kind, a := x.a } : Nd) = x := by unfold backN at hb; rcases hk with hk | hk <;> (simp [hk] at hb; rw [hk]; exact hb)
          have e : tkP (tkF l (q + 1)) x = { kind := x.kind } :: brT (tkF l (q + 1) (q : Int) 0) := by unfold tkP brT; rcases hk with hk | hk <;> simp [hk, hxa]
          have e2 : dpP (dpF l (q + 1)) x = dpF l (q + 1) (q : Int) 0 + 1 := by unfold dpP; rcases hk with hk | hk <;> simp [hk, hxa]
          rw [e] at hh ⊢
          rw [e2] at hd
          obtain ⟨qk, hbr⟩ := Here.head hh
          have hin : Here L (s.read + 1 + 1) (tkF l (q + 1) (q : Int) 0) := (Here.head hbr).2.left
          obtain ⟨t1, r1, o1, a1, g1⟩ := IH 0 (by omega) (s.next.into L) ha.next.into hin (by
            show (s.opn ++ [_]).length + _ ≤ 64
            rw [List.length_append]; simp; omega)
          have hbeg := (tk_begs l hok q (by omega) (q + 1) (by omega)).2 0
          have hb1 : begK (tkAt L (s.next.read + 1)).kind = true := by
            have := (hin 0 hbeg.1).1
            rw [Nat.add_zero] at this
            show begK (tkAt L (s.read + 1 + 1)).kind = true
            rw [this]; exact hbeg.2
          obtain ⟨R, ho, hr⟩ := brack (s := s.next) (t := t1) hbr (by show s.opn.length < 64; omega) hb1 r1 o1 g1
          have RF := Runs.frame (l := L) (s := s) qk.1 hk R
          have ha2 : At l ({ t1.next with opn := t1.opn.dropLast } : PS) (q + 1) := (a1.next).opn _
          rw [ha2.cnt, ← hxa, hxx] at RF
          refine ⟨_, ?_, ?_, ha2.lay hi h4 hx.symm (-1), ?_⟩
          · rw [(lay_read _ _ _).1, hr]; simp only [PS.next, List.length_cons]; omega
          · rw [(lay_read _ _ _).2.1, ho]; rfl
          · have hl3 : levK x.kind = 3 := by unfold levK; rcases hk with hk | hk <;> simp [hk]
            rw [hl3]; exact RF
      · rw [hf] at ha
        have IHq := (ih q (by omega) (by omega)).2
        have IHp := (ih p (by omega) (by omega)).2
        subst hq
        have mp := fun lev => tkF_more l hok p (by omega) (q + 1) (p + 1) (by omega) (by omega) lev
        rcases hk with hk | hk
        · have hxx : ({ kind := 4, a := x.a, b := x.b } : Nd) = x := by unfold backN at hb; simp [hk] at hb; exact hb
          have e : tkP (tkF l (q + 1)) x = tkF l (p + 1) (p : Int) 1 ++ tkF l (q + 1) (q : Int) 2 := by unfold tkP; simp [hk, hxa, hxb, (mp 1).1]
          have e2 : dpP (dpF l (q + 1)) x = max (dpF l (p + 1) (p : Int) 1) (dpF l (q + 1) (q : Int) 2) := by unfold dpP; simp [hk, hxa, hxb, (mp 1).2]
          rw [e] at hh ⊢
          rw [e2] at hd
          obtain ⟨t1, r1, o1, a1, g1⟩ := IHp 1 (by omega) s ha hh.left (by omega)
          rw [← hfq] at a1
          obtain ⟨t2, r2, o2, a2, g2⟩ := IHq 2 (by omega) t1 a1 (by rw [r1]; exact hh.right) (by rw [o1]; omega)
          have hbeg := (tk_begs l hok q (by omega) (q + 1) (by omega)).2 2
          have hb1 : begK (tkAt L t1.read).kind = true := by
            have := (hh.right 0 hbeg.1).1
            rw [Nat.add_zero, ← r1] at this
            rw [this]; exact hbeg.2
          have hu := lay_read t2 x (-1)
          refine ⟨t2.lay x (-1), by rw [hu.1, r2, r1, List.length_append]; omega, by rw [hu.2.1, o2, o1], a2.lay hi h4 hx.symm (-1), ?_⟩
          rw [hk]
          exact fun h6 h7 r hr => g1 (fun e => by rw [e] at hb1; exact absurd hb1 (by decide)) (fun e => by rw [e] at hb1; exact absurd hb1 (by decide)) r (Runs.rowLGo hb1 (g2 _ (Runs.postLStop (by rw [← hu.1]; exact h6) (by rw [← hu.1]; exact h7))) (by rw [a2.cnt, ← hxa, ← hxb, hxx]; exact hr))
        · have hxx : ({ kind := 5, a := x.a, b := x.b } : Nd) = x := by unfold backN at hb; simp [hk] at hb; exact hb
          have e : tkP (tkF l (q + 1)) x = tkF l (p + 1) (p : Int) 0 ++ ({ kind := 5 } :: tkF l (q + 1) (q : Int) 1) := by unfold tkP; simp [hk, hxa, hxb, (mp 0).1]
          have e2 : dpP (dpF l (q + 1)) x = max (dpF l (p + 1) (p : Int) 0) (dpF l (q + 1) (q : Int) 1) := by unfold dpP; simp [hk, hxa, hxb, (mp 0).2]
          rw [e] at hh ⊢
          rw [e2] at hd
          obtain ⟨t1, r1, o1, a1, g1⟩ := IHp 0 (by omega) s ha hh.left (by omega)
          obtain ⟨q5, hB⟩ := Here.head hh.right
          rw [← r1] at q5 hB
          have e5 : (tkAt L t1.read).kind = 5 := q5.1
          rw [← hfq] at a1
          obtain ⟨t2, r2, o2, a2, g2⟩ := IHq 1 (by omega) t1.next a1.next hB (by show t1.opn.length + _ ≤ 64; rw [o1]; omega)
          have hu := lay_read t2 x (-1)
          refine ⟨t2.lay x (-1), by rw [hu.1, r2]; simp only [PS.next]; rw [r1, List.length_append, List.length_cons]; omega, by rw [hu.2.1, o2]; exact o1, a2.lay hi h4 hx.symm (-1), ?_⟩
          rw [hk]
          exact fun hbf h6 h7 r hr => g1 (by rw [e5]; rfl) (by rw [e5]; decide) (by rw [e5]; decide) r (Runs.orLGo e5 (g2 (by rw [← hu.1]; exact h6) (by rw [← hu.1]; exact h7) _ (Runs.rowLStop (by rw [← hu.1, hbf]; decide))) (by rw [a2.cnt, ← hxa, ← hxb, hxx]; exact hr))
    refine ⟨own, fun lev hlev s ha hh hd => ?_⟩
    rw [tkF_succ, Int.toNat_natCast] at hh ⊢
    rw [dpF_succ, Int.toNat_natCast] at hd
    split at hh
    · rename_i hlt
      rw [if_pos hlt] at hd ⊢
      have hin : Here L (s.read + 1) (tkP (tkF l i) (atN l i)) := (Here.head hh).2.left
      obtain ⟨t1, r1, o1, a1, g1⟩ := own (s.into L) ha.into hin (by
        show (s.opn ++ [_]).length + _ ≤ 64
        rw [List.length_append]; simp; omega)
      have hbeg := (tk_begs l hok i hi (i + 1) (by omega)).1
      rw [Nat.add_sub_cancel] at hbeg
      have hb1 : begK (tkAt L (s.read + 1)).kind = true := by
        have := (hin 0 hbeg.1).1
        rw [Nat.add_zero] at this
        rw [this]; exact hbeg.2
      obtain ⟨R, ho, hr⟩ := brack (s := s) (t := t1) hh (by omega) hb1 r1 o1 (g1.down (lev_four _) (.inl rfl) (by rcases lev_four (atN l i).kind with h | h | h | h <;> omega))
      refine ⟨_, hr, ho, (a1.next).opn _, ?_⟩
      exact GoP.down (lv := 3) (show GoP L 3 s _ _ from Runs.atomG (Here.head hh).1.1 R) (.inr (.inr (.inr rfl))) hlev (by omega)
    · rename_i hle
      rw [if_neg hle] at hd ⊢
      obtain ⟨t, r1, o1, a1, g1⟩ := own s ha hh hd
      exact ⟨t, r1, o1, a1, g1.down (lev_four _) hlev (by omega)⟩
/-- The tokens of a description's text, and an end, are parsed to it. -/
theorem print_parse {l : List Nd} (hf : Form l) (h4 : l.length ≤ 4096) {L : List Tk} (hh : Here L 0 (tkF l l.length ((l.length : Int) - 1) 0)) (he : (tkAt L (tkF l l.length ((l.length : Int) - 1) 0).length).kind = 10) (hd : dpF l l.length ((l.length : Int) - 1) 0 ≤ 64) : ∃ k t, parseP L = .ok k t ∧ t.nodes = l := by
  obtain ⟨hpos, hok, hfirst⟩ := hf
  obtain ⟨i, hi⟩ : ∃ i, l.length = i + 1 := ⟨l.length - 1, by omega⟩
  have ei : (l.length : Int) - 1 = (i : Int) := by omega
  rw [ei, hi] at hh he hd
  rw [hi, Nat.add_sub_cancel] at hfirst
  obtain ⟨t, r1, o1, a1, g1⟩ := (here_back l hok h4 L i (by omega)).2 0 (.inl rfl) {} (by rw [hfirst]; exact ⟨rfl, rfl⟩) hh (by show 0 + _ ≤ 64; omega)
  have e0 : t.read = (tkF l (i + 1) (i : Int) 0).length := by rw [r1]; exact Nat.zero_add _
  have e10 : (tkAt L t.read).kind = 10 := by rw [e0]; exact he
  have R := g1 (by rw [e10]; rfl) (by rw [e10]; decide) (by rw [e10]; decide) _ (Runs.orLStop (by rw [e10]; decide))
  refine ⟨_, _, runs_parse R e10 (by rw [a1.cnt]; omega), ?_⟩
  show t.nodes = l
  rw [a1.nds, ← hi, List.take_length]
end Go.Proofs.YtpbadglfegcdjaaGreatDoor
/- How deep a text is, counted over its pieces, and over its bytes: plain mathematics. -/
namespace Go.Proofs.YtpbadglfegcdjaaGreatDoor
open Go
set_option linter.unusedVariables false
set_option linter.unusedSimpArgs false

/-- One piece: how many brackets are open, and the most that were. -/
def dstep (p : Int × Int) (s : List UInt8) : Int × Int := if s = [40] then (p.1 + 1, max p.2 (p.1 + 1)) else if s = [41] then (p.1 - 1, p.2) else p
/-- Signs that are no bracket. -/
def NoBr (s : List UInt8) : Prop := s ≠ [40] ∧ s ≠ [41]
theorem dstep_no {p : Int × Int} {s : List UInt8} (h : NoBr s) : dstep p s = p := by
  unfold dstep; rw [if_neg h.1, if_neg h.2]
/-- Some pieces are so deep, and leave nothing open. -/
def DeepD (ss : List (List UInt8)) (d : Nat) : Prop := ∀ o m : Int, o ≤ m → ss.foldl dstep (o, m) = (o, max m (o + d))
theorem DeepD.nil : DeepD [] 0 := fun o m h => by show (o, m) = _; rw [show max m (o + ((0 : Nat) : Int)) = m by omega]
theorem DeepD.append {a b : List (List UInt8)} {x y : Nat} (h : DeepD a x) (k : DeepD b y) : DeepD (a ++ b) (max x y) := fun o m hm => by
  rw [List.foldl_append, h o m hm, k o _ (by omega)]
  congr 1; omega
theorem DeepD.one {s : List UInt8} (h : NoBr s) : DeepD [s] 0 := fun o m hm => by
  show dstep (o, m) s = _; rw [dstep_no h, show max m (o + ((0 : Nat) : Int)) = m by omega]
theorem DeepD.cons {s : List UInt8} {a : List (List UInt8)} {x : Nat} (h : NoBr s) (k : DeepD a x) : DeepD (s :: a) x := fun o m hm => by
  show a.foldl dstep (dstep (o, m) s) = _; rw [dstep_no h, k o m hm]
theorem DeepD.brk {a : List (List UInt8)} {x : Nat} (h : DeepD a x) : DeepD ([40] :: (a ++ [[41]])) (x + 1) := fun o m hm => by
  show (a ++ [[41]]).foldl dstep (o + 1, max m (o + 1)) = _
  rw [List.foldl_append, h _ _ (by omega)]
  show (o + 1 - 1, max (max m (o + 1)) (o + 1 + (x : Int))) = _
  rw [show o + 1 - 1 = o by omega]
  congr 1; omega
section
variable {cT : BitVec 256 → List UInt8} {bT : Int → Int → List UInt8}
theorem deep_part {f : Int → Int → List (List UInt8)} {g : Int → Int → Nat} (hc : ∀ c, NoBr (cT c)) (hb : ∀ a b, NoBr (bT a b)) (h : ∀ i lev, DeepD (f i lev) (g i lev)) (n : Nd) : DeepD (outP f (pcsN cT bT n)) (dpP g n) := by
  unfold pcsN dpP
  have two : ∀ (a : List (List UInt8)) (x : Nat), DeepD a x → DeepD (a ++ []) x := fun a x hh => by rw [List.append_nil]; exact hh
  have zero : ∀ (a b : List (List UInt8)) (x : Nat), DeepD a x → DeepD b 0 → DeepD (a ++ b) x := fun a b x ha hbb => by
    have := ha.append hbb
    rwa [show max x 0 = x by omega] at this
  split
  · exact DeepD.nil.brk
  split
  · exact DeepD.one (hc _)
  split
  · exact DeepD.one ⟨by simp, by simp⟩
  split
  · show DeepD (f n.a 1 ++ (f n.b 2 ++ [])) _
    exact (h _ _).append (two _ _ (h _ _))
  split
  · show DeepD (f n.a 0 ++ ([124] :: (f n.b 1 ++ []))) _
    exact (h _ _).append ((two _ _ (h _ _)).cons ⟨by decide, by decide⟩)
  split
  · exact zero _ _ _ (h _ _) (DeepD.one ⟨by decide, by decide⟩)
  split
  · exact zero _ _ _ (h _ _) (DeepD.one (hb _ _))
  split
  · show DeepD ([98] :: outP f (Go.Proofs.YtpbadglfegcdjaaGreatDoor.brk [.nd n.a 0])) _
    rw [outP_brk]
    exact ((two _ _ (h _ _)).brk).cons ⟨by decide, by decide⟩
  · show DeepD ([119] :: outP f (Go.Proofs.YtpbadglfegcdjaaGreatDoor.brk [.nd n.a 0])) _
    rw [outP_brk]
    exact ((two _ _ (h _ _)).brk).cons ⟨by decide, by decide⟩
/-- A node's text is as deep as its tokens. -/
theorem deep_told (hc : ∀ c, NoBr (cT c)) (hb : ∀ a b, NoBr (bT a b)) (l : List Nd) : ∀ (f : Nat) (i lev : Int), DeepD (sgsF cT bT l f i lev) (dpF l f i lev)
  | 0, i, lev => DeepD.nil
  | f + 1, i, lev => by
    rw [sgsF_succ, dpF_succ]
    unfold fullN
    have key := deep_part hc hb (deep_told hc hb l f) (atN l i.toNat)
    split
    · rw [outP_brk]; exact key.brk
    · exact key
end

/-- One byte: what is open, the most, and whether a quote is open. -/
def bstep (p : Int × Int × Bool) (c : UInt8) : Int × Int × Bool :=
  if c = 34 then (p.1, p.2.1, !p.2.2)
  else if p.2.2 = true then p
  else if c = 40 then (p.1 + 1, max p.2.1 (p.1 + 1), false)
  else if c = 41 then (p.1 - 1, p.2.1, false) else p
/-- Plain signs: no quote, no bracket. -/
def PlainS (s : List UInt8) : Prop := ∀ c ∈ s, c ≠ 34 ∧ c ≠ 40 ∧ c ≠ 41
theorem bfold_plain : ∀ (s : List UInt8) (o m : Int), PlainS s → s.foldl bstep (o, m, false) = (o, m, false)
  | [], o, m, _ => rfl
  | c :: s, o, m, h => by
    have k := h c (by simp)
    show s.foldl bstep (bstep (o, m, false) c) = _
    have e : bstep (o, m, false) c = (o, m, false) := by unfold bstep; rw [if_neg k.1, if_neg (by simp), if_neg k.2.1, if_neg k.2.2]
    rw [e]; exact bfold_plain s o m (fun x hx => h x (by simp [hx]))
theorem bfold_quoted : ∀ (s : List UInt8) (o m : Int), (∀ c ∈ s, c ≠ 34) → s.foldl bstep (o, m, true) = (o, m, true)
  | [], o, m, _ => rfl
  | c :: s, o, m, h => by
    show s.foldl bstep (bstep (o, m, true) c) = _
    have e : bstep (o, m, true) c = (o, m, true) := by unfold bstep; rw [if_neg (h c (by simp)), if_pos rfl]
    rw [e]; exact bfold_quoted s o m (fun x hx => h x (by simp [hx]))
/-- A piece as it is told: a bracket, plain signs, or a text in its quotes. -/
def PieceS (s : List UInt8) : Prop := s = [40] ∨ s = [41] ∨ PlainS s ∨ ∃ t : List UInt8, s = 34 :: (t ++ [34]) ∧ ∀ c ∈ t, c ≠ 34
theorem bfold_piece {s : List UInt8} (h : PieceS s) (o m : Int) : s.foldl bstep (o, m, false) = ((dstep (o, m) s).1, (dstep (o, m) s).2, false) := by
  rcases h with rfl | rfl | h | ⟨t, rfl, h⟩
  · rfl
  · rfl
  · rw [bfold_plain s o m h, dstep_no ⟨?_, ?_⟩]
    · rintro rfl; exact (h 40 (by simp)).2.1 rfl
    · rintro rfl; exact (h 41 (by simp)).2.2 rfl
  · show (t ++ [34]).foldl bstep (o, m, true) = _
    rw [List.foldl_append, bfold_quoted t o m h, dstep_no ⟨by simp, by simp⟩]
    rfl
/-- Counted over the bytes as over the pieces. -/
theorem bfold_pieces : ∀ (ss : List (List UInt8)) (o m : Int), (∀ s ∈ ss, PieceS s) → ss.flatten.foldl bstep (o, m, false) = ((ss.foldl dstep (o, m)).1, (ss.foldl dstep (o, m)).2, false)
  | [], o, m, _ => rfl
  | s :: ss, o, m, h => by
    rw [List.flatten_cons, List.foldl_append, bfold_piece (h s (by simp)), bfold_pieces ss _ _ (fun x hx => h x (by simp [hx]))]
    rfl
end Go.Proofs.YtpbadglfegcdjaaGreatDoor
/- A class' text, and that it is read back: plain mathematics. -/
namespace Go.Proofs.YtpbadglfegcdjaaGreatDoor
open Go
set_option linter.unusedVariables false
set_option linter.unusedSimpArgs false

def digT (x : Nat) : UInt8 := if x < 10 then UInt8.ofNat (48 + x) else UInt8.ofNat (87 + x)
def hexT (x : Nat) : List UInt8 := [digT (x / 16), digT (x % 16)]
theorem digV_digT : ∀ x : Nat, x < 16 → digV (digT x) = some x := by decide
theorem digT_in : ∀ x : Nat, x < 16 → digT x ≠ 34 ∧ digT x ≠ 40 ∧ digT x ≠ 41 ∧ digT x ≠ 44 ∧ digT x ≠ 45 ∧ digT x ≠ 62 ∧ digT x ≠ 94 := by decide
theorem hexV_hexT (x : Nat) (h : x < 256) : hexV (hexT x) = some x := by
  unfold hexT hexV
  simp only [digV_digT (x / 16) (by omega), digV_digT (x % 16) (by omega)]
  congr 1; omega
def rowT (a b : Nat) : List UInt8 := if a = b then hexT a else hexT a ++ 45 :: hexT b
/-- The signs within a class' text. -/
def InCls (c : UInt8) : Prop := c ≠ 34 ∧ c ≠ 40 ∧ c ≠ 41 ∧ c ≠ 62 ∧ c ≠ 94
theorem rowT_in {a b : Nat} (ha : a < 256) (hb : b < 256) : ∀ c ∈ rowT a b, InCls c ∧ c ≠ 44 := by
  have A := digT_in (a / 16) (by omega)
  have B := digT_in (a % 16) (by omega)
  have C := digT_in (b / 16) (by omega)
  have D := digT_in (b % 16) (by omega)
  intro c hc
  unfold rowT hexT at hc
  unfold InCls
  split at hc
  · simp at hc
    rcases hc with rfl | rfl
    · exact ⟨⟨A.1, A.2.1, A.2.2.1, A.2.2.2.2.2.1, A.2.2.2.2.2.2⟩, A.2.2.2.1⟩
    · exact ⟨⟨B.1, B.2.1, B.2.2.1, B.2.2.2.2.2.1, B.2.2.2.2.2.2⟩, B.2.2.2.1⟩
  · simp at hc
    rcases hc with rfl | rfl | rfl | rfl | rfl
    · exact ⟨⟨A.1, A.2.1, A.2.2.1, A.2.2.2.2.2.1, A.2.2.2.2.2.2⟩, A.2.2.2.1⟩
    · exact ⟨⟨B.1, B.2.1, B.2.2.1, B.2.2.2.2.2.1, B.2.2.2.2.2.2⟩, B.2.2.2.1⟩
    · decide
    · exact ⟨⟨C.1, C.2.1, C.2.2.1, C.2.2.2.2.2.1, C.2.2.2.2.2.2⟩, C.2.2.2.1⟩
    · exact ⟨⟨D.1, D.2.1, D.2.2.1, D.2.2.2.2.2.1, D.2.2.2.2.2.2⟩, D.2.2.2.1⟩
theorem itemV_rowT {a b : Nat} (h : a ≤ b) (hb : b < 256) : itemV (rowT a b) = some (rowB a b) := by
  have A := digT_in (a / 16) (by omega)
  have B := digT_in (a % 16) (by omega)
  unfold itemV rowT
  split
  · rename_i e
    subst e
    have hn : cutAt 45 (hexT a) = none := cutAt_none.mpr (by
      unfold hexT; simp; exact ⟨fun h => A.2.2.2.2.1 h.symm, fun h => B.2.2.2.2.1 h.symm⟩)
    rw [hn]
    simp only [Option.getD_none, hexV_hexT a hb, Nat.le_refl, if_true]
  · have hs : cutAt 45 (hexT a ++ 45 :: hexT b) = some (hexT a, hexT b) := cutAt_app (by
      unfold hexT; simp; exact ⟨fun h => A.2.2.2.2.1 h.symm, fun h => B.2.2.2.2.1 h.symm⟩)
    rw [hs]
    simp only [Option.getD_some, hexV_hexT a (by omega), hexV_hexT b hb, h, if_true]
/-- Some texts with a , between two. -/
def joinC : List (List UInt8) → List UInt8
  | [] => []
  | [x] => x
  | x :: y :: l => x ++ 44 :: joinC (y :: l)
theorem piecesA_in : ∀ (x : List UInt8) (r : List UInt8), (∀ c ∈ x, c ≠ 44) → piecesA 44 (x ++ r) = (x ++ (piecesA 44 r).1, (piecesA 44 r).2)
  | [], r, _ => rfl
  | c :: x, r, h => by
    show (if c = 44 then _ else _) = _
    rw [if_neg (h c (by simp)), show x.append r = x ++ r from rfl, piecesA_in x r (fun d hd => h d (by simp [hd]))]; rfl
theorem pieces_join : ∀ (l : List (List UInt8)), l ≠ [] → (∀ x ∈ l, ∀ c ∈ x, c ≠ 44) → pieces 44 (joinC l) = l
  | [], h, _ => absurd rfl h
  | [x], _, h => by
    have := piecesA_in x [] (h x (by simp))
    rw [List.append_nil] at this
    unfold pieces
    show (piecesA 44 x).1 :: (piecesA 44 x).2 = _
    rw [this]; simp [piecesA]
  | x :: y :: l, _, h => by
    have k := pieces_join (y :: l) (by simp) (fun z hz => h z (by simp only [List.mem_cons] at hz ⊢; exact .inr hz))
    unfold pieces at k ⊢
    show (piecesA 44 (x ++ 44 :: joinC (y :: l))).1 :: (piecesA 44 (x ++ 44 :: joinC (y :: l))).2 = _
    rw [piecesA_in x _ (h x (by simp))]
    have e : piecesA 44 (44 :: joinC (y :: l)) = ([], (piecesA 44 (joinC (y :: l))).1 :: (piecesA 44 (joinC (y :: l))).2) := rfl
    rw [e]
    show (x ++ []) :: ((piecesA 44 (joinC (y :: l))).1 :: (piecesA 44 (joinC (y :: l))).2) = _
    rw [List.append_nil, k]
/-- Where a row ends that has begun. -/
def lastF (c : BitVec 256) : Nat → Nat → Nat
  | 0, p => p
  | f + 1, p => if p + 1 < 256 ∧ c.getLsbD (p + 1) = true then lastF c f (p + 1) else p
theorem lastF_ok (c : BitVec 256) : ∀ (f p : Nat), p < 256 → 256 ≤ p + f → c.getLsbD p = true → p ≤ lastF c f p ∧ lastF c f p < 256 ∧ (∀ j, p ≤ j → j ≤ lastF c f p → c.getLsbD j = true) ∧ (lastF c f p + 1 < 256 → c.getLsbD (lastF c f p + 1) = false)
  | 0, p, hp, hf, _ => by omega
  | f + 1, p, hp, hf, hc => by
    unfold lastF
    split
    · rename_i h
      have k := lastF_ok c f (p + 1) h.1 (by omega) h.2
      exact ⟨by omega, k.2.1, fun j h1 h2 => by
        by_cases e : j = p
        · rw [e]; exact hc
        · exact k.2.2.1 j (by omega) h2, k.2.2.2⟩
    · rename_i h
      exact ⟨Nat.le_refl _, hp, fun j h1 h2 => by rw [show j = p by omega]; exact hc, fun h2 => by
        cases hx : c.getLsbD (p + 1) with
        | false => rfl
        | true => exact absurd ⟨h2, hx⟩ h⟩
/-- The rows of a class from a byte on. -/
def rowsF (c : BitVec 256) : Nat → Nat → List (Nat × Nat)
  | 0, _ => []
  | f + 1, p => if 256 ≤ p then [] else if c.getLsbD p = false then rowsF c f (p + 1) else (p, lastF c 256 p) :: rowsF c f (lastF c 256 p + 1)
theorem rowsF_ok (c : BitVec 256) : ∀ (f p : Nat), ∀ r ∈ rowsF c f p, p ≤ r.1 ∧ r.1 ≤ r.2 ∧ r.2 < 256
  | 0, p, r, h => by cases h
  | f + 1, p, r, h => by
    unfold rowsF at h
    split at h
    · cases h
    split at h
    · have := rowsF_ok c f (p + 1) r h; omega
    · rename_i h1 h2
      have k := lastF_ok c 256 p (by omega) (by omega) (by simpa using h2)
      rcases List.mem_cons.mp h with rfl | h
      · exact ⟨Nat.le_refl _, k.1, k.2.1⟩
      · have := rowsF_ok c f _ r h; omega
/-- What is read of the rows' texts. -/
theorem items_rows (c : BitVec 256) : ∀ (f p : Nat) (s : BitVec 256), 256 ≤ p + f → ∃ t, itemsV s ((rowsF c f p).map fun r => rowT r.1 r.2) = some t ∧ ∀ j, j < 256 → t.getLsbD j = (s.getLsbD j || (decide (p ≤ j) && c.getLsbD j))
  | 0, p, s, hf => ⟨s, rfl, fun j hj => by rw [decide_eq_false (by omega)]; simp⟩
  | f + 1, p, s, hf => by
    unfold rowsF
    split
    · exact ⟨s, rfl, fun j hj => by rw [decide_eq_false (by omega)]; simp⟩
    split
    · rename_i h1 h2
      obtain ⟨t, ht, hb⟩ := items_rows c f (p + 1) s (by omega)
      refine ⟨t, ht, fun j hj => ?_⟩
      rw [hb j hj]
      by_cases e : j = p
      · subst e; rw [h2]; simp
      · rw [decide_eq_decide.mpr (show p + 1 ≤ j ↔ p ≤ j by omega)]
    · rename_i h1 h2
      have k := lastF_ok c 256 p (by omega) (by omega) (by simpa using h2)
      generalize lastF c 256 p = q at k
      obtain ⟨t, ht, hb⟩ := items_rows c f (q + 1) (s ||| rowB p q) (by omega)
      refine ⟨t, ?_, fun j hj => ?_⟩
      · show (match itemV (rowT p q) with | some t => itemsV (s ||| t) _ | none => none) = _
        rw [itemV_rowT k.1 k.2.1]; exact ht
      · rw [hb j hj, BitVec.getLsbD_or, rowB_bit _ _ _ hj]
        by_cases e : p ≤ j <;> by_cases e2 : j ≤ q
        · have := k.2.2.1 j e e2
          simp [e, e2, this]
        · simp [e, e2, show q + 1 ≤ j by omega]
        · simp [e, e2, show ¬ q + 1 ≤ j by omega]
        · omega
/-- A class' text. -/
def rowsT (c : BitVec 256) : List (List UInt8) := (rowsF c 256 0).map fun r => rowT r.1 r.2
theorem rowsT_in (c : BitVec 256) : ∀ x ∈ rowsT c, ∀ d ∈ x, InCls d ∧ d ≠ 44 := fun x hx d hd => by
  obtain ⟨r, hr, rfl⟩ := List.mem_map.mp hx
  have := rowsF_ok c 256 0 r hr
  exact rowT_in (by omega) this.2.2 d hd
def clsT (c : BitVec 256) : List UInt8 := if c = rowB 0 255 then [46] else 60 :: (joinC (rowsT c) ++ [62])
theorem joinC_in : ∀ (l : List (List UInt8)), (∀ x ∈ l, ∀ d ∈ x, InCls d) → ∀ d ∈ joinC l, InCls d
  | [], _, d, hd => by cases hd
  | [x], h, d, hd => h x (by simp) d hd
  | x :: y :: l, h, d, hd => by
    have hd : d ∈ x ++ 44 :: joinC (y :: l) := hd
    rcases List.mem_append.mp hd with hd | hd
    · exact h x (by simp) d hd
    · rcases List.mem_cons.mp hd with rfl | hd
      · unfold InCls; decide
      · exact joinC_in (y :: l) (fun z hz => h z (by simp only [List.mem_cons] at hz ⊢; exact .inr hz)) d hd
/-- The list of the rows is read to the class. -/
theorem listV_rows (c : BitVec 256) : listV (joinC (rowsT c)) = some c := by
  obtain ⟨t, ht, hb⟩ := items_rows c 256 0 0#256 (by omega)
  have e : t = c := by
    apply BitVec.eq_of_getLsbD_eq
    intro j hj
    rw [hb j hj]; simp
  rw [e] at ht
  unfold listV
  cases hr : rowsT c with
  | nil =>
    unfold rowsT at hr
    rw [hr] at ht
    rw [if_pos (show joinC [] = [] from rfl)]; exact ht
  | cons x l =>
    have hp : pieces 44 (joinC (x :: l)) = x :: l := pieces_join _ (by simp) (fun z hz d hd => (rowsT_in c z (by rw [hr]; exact hz) d hd).2)
    rw [if_neg (fun h0 => ?_), hp]
    · unfold rowsT at hr; rw [hr] at ht; exact ht
    · have h1 : ∃ a b, x = rowT a b := by
        have : x ∈ rowsT c := by rw [hr]; simp
        obtain ⟨r, _, rfl⟩ := List.mem_map.mp this
        exact ⟨_, _, rfl⟩
      obtain ⟨a, b, rfl⟩ := h1
      have hne : rowT a b ≠ [] := by unfold rowT hexT; split <;> simp
      cases l with
      | nil => exact hne h0
      | cons y l =>
        have h0 : rowT a b ++ 44 :: joinC (y :: l) = [] := h0
        simp at h0
theorem classV_rows (c : BitVec 256) : classV (joinC (rowsT c)) = some c := by
  have hin := joinC_in (rowsT c) (fun x hx d hd => (rowsT_in c x hx d hd).1)
  unfold classV
  rw [if_neg, listV_rows]
  intro h
  cases hj : joinC (rowsT c) with
  | nil => rw [hj] at h; cases h
  | cons x l =>
    rw [hj] at h hin
    have e : x = 94 := by simpa using h
    exact (hin x (by simp)).2.2.2.2 e
theorem clsT_piece (c : BitVec 256) : PlainS (clsT c) := by
  unfold clsT
  split
  · intro d hd; simp at hd; subst hd; decide
  · intro d hd
    rcases List.mem_cons.mp hd with rfl | hd
    · decide
    · rcases List.mem_append.mp hd with hd | hd
      · have := joinC_in (rowsT c) (fun x hx d hd => (rowsT_in c x hx d hd).1) d hd
        exact ⟨this.1, this.2.1, this.2.2.1⟩
      · simp at hd; subst hd; decide
end Go.Proofs.YtpbadglfegcdjaaGreatDoor
/- The library's calls that print makes: strings.Join, strings.Builder, strconv.Itoa, by their contracts. -/
namespace Go.Proofs.YtpbadglfegcdjaaGreatDoor
open Go Go.RowKit
set_option linter.unusedVariables false
set_option linter.unusedSimpArgs false
set_option maxRecDepth 100000

def laysJoin_ren : Go.Shelf.Ren := ⟨fun | 156 => 32 | 165 => 50 | 166 => 23 | 169 => 24 | 240 => 44 | 241 => 77 | 276 => 72 | 277 => 91 | n => n, fun | 0 => 0 | 3 => 3 | 4 => 4 | 5 => 5 | 9 => 9 | 20 => 20 | 31 => 78 | 37 => 59 | 70 => 58 | 72 => 61 | 75 => 64 | 76 => 65 | 80 => 68 | 127 => 99 | 164 => 120 | n => n, fun  | n => n⟩
theorem laysJoin : Lays.n156 Tryz.prog laysJoin_ren := {
  mixed := by kernel_rfl,
  f156 := Tryz.func32.trans (congrArg some (by kernel_rfl)),
  f165 := Tryz.func50.trans (congrArg some (by kernel_rfl)),
  f166 := Tryz.func23.trans (congrArg some (by kernel_rfl)),
  f169 := Tryz.func24.trans (congrArg some (by kernel_rfl)),
  f240 := Tryz.func44.trans (congrArg some (by kernel_rfl)),
  f241 := Tryz.func77.trans (congrArg some (by kernel_rfl)),
  f276 := Tryz.func72.trans (congrArg some (by kernel_rfl)),
  f277 := Tryz.func91.trans (congrArg some (by kernel_rfl)),
  t0 := Tryz.underlying0,
  a0 := Tryz.isAgg0,
  z0 := Tryz.sizeOf0,
  v0 := Tryz.zeroValue0,
  t3 := Tryz.underlying3,
  a3 := Tryz.isAgg3,
  z3 := Tryz.sizeOf3,
  v3 := Tryz.zeroValue3,
  t4 := Tryz.underlying4,
  a4 := Tryz.isAgg4,
  z4 := Tryz.sizeOf4,
  v4 := Tryz.zeroValue4,
  t9 := Tryz.underlying9,
  a9 := Tryz.isAgg9,
  z9 := Tryz.sizeOf9,
  v9 := Tryz.zeroValue9,
  t20 := Tryz.underlying20,
  a20 := Tryz.isAgg20,
  z20 := Tryz.sizeOf20,
  v20 := Tryz.zeroValue20,
  t31 := Tryz.underlying78,
  a31 := Tryz.isAgg78,
  z31 := Tryz.sizeOf78,
  v31 := Tryz.zeroValue78,
  t37 := Tryz.underlying59,
  a37 := Tryz.isAgg59,
  z37 := Tryz.sizeOf59,
  v37 := Tryz.zeroValue59,
  t70 := Tryz.underlying58,
  a70 := Tryz.isAgg58,
  z70 := Tryz.sizeOf58,
  v70 := Tryz.zeroValue58,
  t72 := Tryz.underlying61,
  a72 := Tryz.isAgg61,
  z72 := Tryz.sizeOf61,
  v72 := Tryz.zeroValue61,
  t75 := Tryz.underlying64,
  a75 := Tryz.isAgg64,
  z75 := Tryz.sizeOf64,
  v75 := Tryz.zeroValue64,
  t76 := Tryz.underlying65,
  a76 := Tryz.isAgg65,
  z76 := Tryz.sizeOf65,
  v76 := Tryz.zeroValue65,
  t127 := Tryz.underlying99,
  a127 := Tryz.isAgg99,
  z127 := Tryz.sizeOf99,
  v127 := Tryz.zeroValue99,
  t164 := Tryz.underlying120,
  a164 := Tryz.isAgg120,
  z164 := Tryz.sizeOf120,
  v164 := Tryz.zeroValue120 }
def laysWrite_ren : Go.Shelf.Ren := ⟨fun | 166 => 23 | 240 => 44 | 276 => 72 | n => n, fun | 0 => 0 | 3 => 3 | 4 => 4 | 5 => 5 | 9 => 9 | 20 => 20 | 37 => 59 | 70 => 58 | 72 => 61 | 75 => 64 | 80 => 68 | 164 => 120 | n => n, fun  | n => n⟩
theorem laysWrite : Lays.n166 Tryz.prog laysWrite_ren := {
  mixed := by kernel_rfl,
  f166 := Tryz.func23.trans (congrArg some (by kernel_rfl)),
  f240 := Tryz.func44.trans (congrArg some (by kernel_rfl)),
  f276 := Tryz.func72.trans (congrArg some (by kernel_rfl)),
  t0 := Tryz.underlying0,
  a0 := Tryz.isAgg0,
  z0 := Tryz.sizeOf0,
  v0 := Tryz.zeroValue0,
  t3 := Tryz.underlying3,
  a3 := Tryz.isAgg3,
  z3 := Tryz.sizeOf3,
  v3 := Tryz.zeroValue3,
  t4 := Tryz.underlying4,
  a4 := Tryz.isAgg4,
  z4 := Tryz.sizeOf4,
  v4 := Tryz.zeroValue4,
  t9 := Tryz.underlying9,
  a9 := Tryz.isAgg9,
  z9 := Tryz.sizeOf9,
  v9 := Tryz.zeroValue9,
  t20 := Tryz.underlying20,
  a20 := Tryz.isAgg20,
  z20 := Tryz.sizeOf20,
  v20 := Tryz.zeroValue20,
  t37 := Tryz.underlying59,
  a37 := Tryz.isAgg59,
  z37 := Tryz.sizeOf59,
  v37 := Tryz.zeroValue59,
  t70 := Tryz.underlying58,
  a70 := Tryz.isAgg58,
  z70 := Tryz.sizeOf58,
  v70 := Tryz.zeroValue58,
  t72 := Tryz.underlying61,
  a72 := Tryz.isAgg61,
  z72 := Tryz.sizeOf61,
  v72 := Tryz.zeroValue61,
  t75 := Tryz.underlying64,
  a75 := Tryz.isAgg64,
  z75 := Tryz.sizeOf64,
  v75 := Tryz.zeroValue64,
  t164 := Tryz.underlying120,
  a164 := Tryz.isAgg120,
  z164 := Tryz.sizeOf120,
  v164 := Tryz.zeroValue120 }
def laysString_ren : Go.Shelf.Ren := ⟨fun | 169 => 24 | n => n, fun | 0 => 0 | 3 => 3 | 5 => 5 | 9 => 9 | 37 => 59 | 70 => 58 | 72 => 61 | 127 => 99 | n => n, fun  | n => n⟩
theorem laysString : Lays.n169 Tryz.prog laysString_ren := {
  mixed := by kernel_rfl,
  f169 := Tryz.func24.trans (congrArg some (by kernel_rfl)),
  t0 := Tryz.underlying0,
  a0 := Tryz.isAgg0,
  z0 := Tryz.sizeOf0,
  v0 := Tryz.zeroValue0,
  t3 := Tryz.underlying3,
  a3 := Tryz.isAgg3,
  z3 := Tryz.sizeOf3,
  v3 := Tryz.zeroValue3,
  t9 := Tryz.underlying9,
  a9 := Tryz.isAgg9,
  z9 := Tryz.sizeOf9,
  v9 := Tryz.zeroValue9,
  t37 := Tryz.underlying59,
  a37 := Tryz.isAgg59,
  z37 := Tryz.sizeOf59,
  v37 := Tryz.zeroValue59,
  t70 := Tryz.underlying58,
  a70 := Tryz.isAgg58,
  z70 := Tryz.sizeOf58,
  v70 := Tryz.zeroValue58,
  t72 := Tryz.underlying61,
  a72 := Tryz.isAgg61,
  z72 := Tryz.sizeOf61,
  v72 := Tryz.zeroValue61,
  t127 := Tryz.underlying99,
  a127 := Tryz.isAgg99,
  z127 := Tryz.sizeOf99,
  v127 := Tryz.zeroValue99 }
def laysItoa_ren : Go.Shelf.Ren := ⟨fun | 129 => 122 | 171 => 86 | 243 => 100 | 246 => 108 | 283 => 114 | 284 => 115 | 285 => 116 | 286 => 117 | 317 => 121 | 318 => 123 | 319 => 124 | 320 => 125 | 337 => 127 | 338 => 128 | n => n, fun | 0 => 0 | 2 => 2 | 3 => 3 | 4 => 4 | 5 => 5 | 9 => 9 | 20 => 20 | 37 => 59 | 46 => 124 | 51 => 146 | 53 => 38 | 171 => 154 | 173 => 156 | 212 => 160 | 213 => 161 | 232 => 167 | 233 => 168 | n => n, fun | 17 => 3 | 18 => 4 | 19 => 5 | n => n⟩
theorem laysItoa : LaysM.n171 Tryz.prog laysItoa_ren := {
  mixed := by kernel_rfl,
  f129 := Tryz.func122.trans (congrArg some (by kernel_rfl)),
  f171 := Tryz.func86.trans (congrArg some (by kernel_rfl)),
  f243 := Tryz.func100.trans (congrArg some (by kernel_rfl)),
  f246 := Tryz.func108.trans (congrArg some (by kernel_rfl)),
  f283 := Tryz.func114.trans (congrArg some (by kernel_rfl)),
  f284 := Tryz.func115.trans (congrArg some (by kernel_rfl)),
  f285 := Tryz.func116.trans (congrArg some (by kernel_rfl)),
  f286 := Tryz.func117.trans (congrArg some (by kernel_rfl)),
  f317 := Tryz.func121.trans (congrArg some (by kernel_rfl)),
  f318 := Tryz.func123.trans (congrArg some (by kernel_rfl)),
  f319 := Tryz.func124.trans (congrArg some (by kernel_rfl)),
  f320 := Tryz.func125.trans (congrArg some (by kernel_rfl)),
  f337 := Tryz.func127.trans (congrArg some (by kernel_rfl)),
  f338 := Tryz.func128.trans (congrArg some (by kernel_rfl)),
  t0 := Tryz.underlying0,
  a0 := Tryz.isAgg0,
  z0 := Tryz.sizeOf0,
  v0 := Tryz.zeroValue0,
  t2 := Tryz.underlying2,
  a2 := Tryz.isAgg2,
  z2 := Tryz.sizeOf2,
  v2 := Tryz.zeroValue2,
  t3 := Tryz.underlying3,
  a3 := Tryz.isAgg3,
  z3 := Tryz.sizeOf3,
  v3 := Tryz.zeroValue3,
  t4 := Tryz.underlying4,
  a4 := Tryz.isAgg4,
  z4 := Tryz.sizeOf4,
  v4 := Tryz.zeroValue4,
  t5 := Tryz.underlying5,
  a5 := Tryz.isAgg5,
  z5 := Tryz.sizeOf5,
  v5 := Tryz.zeroValue5,
  t9 := Tryz.underlying9,
  a9 := Tryz.isAgg9,
  z9 := Tryz.sizeOf9,
  v9 := Tryz.zeroValue9,
  t20 := Tryz.underlying20,
  a20 := Tryz.isAgg20,
  z20 := Tryz.sizeOf20,
  v20 := Tryz.zeroValue20,
  t37 := Tryz.underlying59,
  a37 := Tryz.isAgg59,
  z37 := Tryz.sizeOf59,
  v37 := Tryz.zeroValue59,
  t46 := Tryz.underlying124,
  a46 := Tryz.isAgg124,
  z46 := Tryz.sizeOf124,
  v46 := Tryz.zeroValue124,
  t51 := Tryz.underlying146,
  a51 := Tryz.isAgg146,
  z51 := Tryz.sizeOf146,
  v51 := Tryz.zeroValue146,
  t53 := Tryz.underlying38,
  a53 := Tryz.isAgg38,
  z53 := Tryz.sizeOf38,
  v53 := Tryz.zeroValue38,
  t171 := Tryz.underlying154,
  a171 := Tryz.isAgg154,
  z171 := Tryz.sizeOf154,
  v171 := Tryz.zeroValue154,
  t173 := Tryz.underlying156,
  a173 := Tryz.isAgg156,
  z173 := Tryz.sizeOf156,
  v173 := Tryz.zeroValue156,
  t212 := Tryz.underlying160,
  a212 := Tryz.isAgg160,
  z212 := Tryz.sizeOf160,
  v212 := Tryz.zeroValue160,
  t213 := Tryz.underlying161,
  a213 := Tryz.isAgg161,
  z213 := Tryz.sizeOf161,
  t232 := Tryz.underlying167,
  a232 := Tryz.isAgg167,
  z232 := Tryz.sizeOf167,
  v232 := Tryz.zeroValue167,
  t233 := Tryz.underlying168,
  a233 := Tryz.isAgg168,
  z233 := Tryz.sizeOf168,
  v233 := Tryz.zeroValue168,
  g17 := by kernel_rfl,
  g18 := by kernel_rfl,
  g19 := by kernel_rfl,
  i0 := by kernel_rfl,
  i2 := by kernel_rfl,
  i3 := by kernel_rfl,
  i4 := by kernel_rfl,
  i5 := by kernel_rfl,
  i9 := by kernel_rfl,
  i20 := by kernel_rfl,
  i37 := by kernel_rfl,
  i46 := by kernel_rfl,
  i51 := by kernel_rfl,
  i53 := by kernel_rfl,
  i171 := by kernel_rfl,
  i173 := by kernel_rfl,
  i212 := by kernel_rfl,
  i232 := by kernel_rfl,
  i233 := by kernel_rfl,
  m17 := by kernel_rfl,
  m18 := by kernel_rfl,
  m19 := by kernel_rfl }
theorem extra_of {ρ : Go.Shelf.Ren} (h72 : ρ.t 72 = 61) (h5 : ρ.t 5 = 5) : Builder.Extra Tryz.prog ρ := {
  sizeBuilder := by rw [h72]; kernel_rfl,
  liesBuilder := by rw [h72]; kernel_rfl,
  t5 := by rw [h5]; exact Tryz.underlying5,
  a5 := by rw [h5]; exact Tryz.isAgg5,
  z5 := by rw [h5]; exact Tryz.sizeOf5,
  v5 := by rw [h5]; exact Tryz.zeroValue5,
  infoByte := by rw [h5]; kernel_rfl,
  cellsByte := by rw [h5]; kernel_rfl,
  sizeByte := by rw [h5]; kernel_rfl,
  neB5 := by rw [h72, h5]; decide }
theorem join_joinC : ∀ l : List (List UInt8), Lib.join l [44] = joinC l
  | [] => rfl
  | [x] => Lib.join_one x [44]
  | x :: y :: l => by
    have ih := join_joinC (y :: l)
    rw [Lib.join_cons] at ih ⊢
    show _ = x ++ 44 :: joinC (y :: l)
    rw [← ih]
    unfold Lib.joinTail
    simp
theorem sjoin_any (l : List (List UInt8)) (A : Option Addr) (c : Nat) (hc : l.length ≤ c) (hl : l.length ≤ 1000) (hj : (joinC l).length ≤ 140737488355328) (w : World) (hrow : SRow w A l) :
    Calls Tryz.prog 32 #[.slice A l.length c, .string ⟨#[44]⟩] w (Ans w (.string (bs (joinC l)))) := by
  have X : Builder.Extra Tryz.prog laysJoin_ren := extra_of rfl rfl
  cases l with
  | nil =>
    refine (Any.strings_Join_none laysJoin X A c ⟨#[44]⟩ w).mono ?_
    rintro e w' ⟨rfl, rfl⟩
    exact ⟨rfl, Below.refl _ _⟩
  | cons x r =>
    obtain ⟨b, off, rfl, hb, -⟩ := hrow 0 (by simp)
    have e : ((x :: r).map bs).map (·.data.toList) = x :: r := by rw [List.map_map]; exact List.map_id _
    have h := Any.strings_Join laysJoin X b off c ((x :: r).map bs) ⟨#[44]⟩ w (fun j y hy => by
      rw [List.getElem?_map] at hy
      obtain ⟨z, hz, rfl⟩ := Option.map_eq_some_iff.1 hy
      have hj : j < (x :: r).length := (List.getElem?_eq_some_iff.1 hz).1
      obtain ⟨b', off', hA, _, hcell⟩ := hrow j hj
      cases hA
      rw [hcell, List.getD_eq_getElem?_getD, hz]; rfl) hb (by rw [List.length_map]; omega) (by rw [List.length_map]; exact hc) (by rw [e]; show (Lib.join (x :: r) [44]).length ≤ _; rw [join_joinC]; exact hj)
    rw [List.length_map, e] at h
    have e2 : Lib.join (x :: r) ((⟨#[44]⟩ : ByteArray).data.toList) = joinC (x :: r) := join_joinC (x :: r)
    rw [e2] at h
    exact h
end Go.Proofs.YtpbadglfegcdjaaGreatDoor
