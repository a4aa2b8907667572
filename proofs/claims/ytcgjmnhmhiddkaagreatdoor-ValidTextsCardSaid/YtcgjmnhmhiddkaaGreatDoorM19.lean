/- Descriptions out of tokens: tokens that are read elsewhere, with more open ahead of them and more nodes laid, are read as before. -/
import Derived.Test.YtcgjmnhmhiddkaaGreatDoorM18
import Derived.Test.YtcgjmnhmhiddkaaGreatDoorM16
namespace Go.Proofs.YtcgjmnhmhiddkaaGreatDoor
open Go
set_option linter.unusedVariables false
set_option linter.unusedSimpArgs false

/-- The same token, at a place of its own. -/
def LikeT (x y : Tk) : Prop := y.kind = x.kind ∧ y.lo = x.lo ∧ y.hi = x.hi ∧ y.cls = x.cls ∧ y.text = x.text
end Go.Proofs.YtcgjmnhmhiddkaaGreatDoor
/- Descriptions out of tokens: what is in brackets, behind a frame, and an or and a row of two. -/
namespace Go.Proofs.YtcgjmnhmhiddkaaGreatDoor
open Go
set_option linter.unusedVariables false
set_option linter.unusedSimpArgs false

theorem runs_parse {l : List Tk} {k : Int} {u : PS} (h : Runs l .or {} (.ok k u)) (hk : (tkAt l u.read).kind = 10) (hc : u.count ≤ 4096) : parseP l = .ok k u.next := by
  unfold parseP
  rw [h.whole]
  simp only [PR.bind]
  rw [if_pos hk, if_neg (by omega)]
theorem tk_left {a b : List Tk} {i : Nat} (h : i < a.length) : tkAt (a ++ b) i = tkAt a i := by unfold tkAt; rw [List.getD_eq_getElem?_getD, List.getD_eq_getElem?_getD, List.getElem?_append_left h]
theorem tk_right {a b : List Tk} {i : Nat} (h : a.length ≤ i) : tkAt (a ++ b) i = tkAt b (i - a.length) := by unfold tkAt; rw [List.getD_eq_getElem?_getD, List.getD_eq_getElem?_getD, List.getElem?_append_right h]
theorem tk_cons {x : Tk} {a : List Tk} {i : Nat} : tkAt (x :: a) (i + 1) = tkAt a i := rfl
end Go.Proofs.YtcgjmnhmhiddkaaGreatDoor
/- The tokens of a description's text are parsed to it: plain mathematics. -/
namespace Go.Proofs.YtcgjmnhmhiddkaaGreatDoor
open Go
set_option linter.unusedVariables false
set_option linter.unusedSimpArgs false

/-- A node's tokens, given its parts'. -/
def tkP (f : Int → Int → List Tk) (n : Nd) : List Tk :=
  if n.kind = 1 then [{ kind := 3 }, { kind := 4 }]
  else if n.kind = 2 then [{ kind := 1, cls := n.cls }]
  else if n.kind = 3 then [{ kind := 2, text := n.text }]
  else if n.kind = 4 then f n.a 1 ++ f n.b 2
  else if n.kind = 5 then f n.a 0 ++ ({ kind := 5 } :: f n.b 1)
  else if n.kind = 6 then f n.a 2 ++ [{ kind := 6 }]
  else if n.kind = 7 then f n.a 2 ++ [{ kind := 7, lo := n.lo, hi := n.hi }]
  else { kind := n.kind } :: { kind := 3 } :: (f n.a 0 ++ [{ kind := 4 }])
def brT (l : List Tk) : List Tk := { kind := 3 } :: (l ++ [{ kind := 4 }])
def tkF (l : List Nd) : Nat → Int → Int → List Tk
  | 0, _, _ => []
  | f + 1, i, lev => if levK (atN l i.toNat).kind < lev then brT (tkP (tkF l f) (atN l i.toNat)) else tkP (tkF l f) (atN l i.toNat)
/-- How deep they are. -/
def dpP (f : Int → Int → Nat) (n : Nd) : Nat :=
  if n.kind = 1 then 1
  else if n.kind = 2 then 0
  else if n.kind = 3 then 0
  else if n.kind = 4 then max (f n.a 1) (f n.b 2)
  else if n.kind = 5 then max (f n.a 0) (f n.b 1)
  else if n.kind = 6 then f n.a 2
  else if n.kind = 7 then f n.a 2
  else f n.a 0 + 1
def dpF (l : List Nd) : Nat → Int → Int → Nat
  | 0, _, _ => 0
  | f + 1, i, lev => if levK (atN l i.toNat).kind < lev then dpP (dpF l f) (atN l i.toNat) + 1 else dpP (dpF l f) (atN l i.toNat)
/-- These tokens stand there, but for the places. -/
def Here (L : List Tk) (p : Nat) (ts : List Tk) : Prop := ∀ j, j < ts.length → LikeT (tkAt ts j) (tkAt L (p + j))
theorem Here.left {L : List Tk} {p : Nat} {a b : List Tk} (h : Here L p (a ++ b)) : Here L p a := fun j hj => by
  have := h j (by rw [List.length_append]; omega)
  rwa [tk_left hj] at this
theorem Here.right {L : List Tk} {p : Nat} {a b : List Tk} (h : Here L p (a ++ b)) : Here L (p + a.length) b := fun j hj => by
  have := h (a.length + j) (by rw [List.length_append]; omega)
  rw [tk_right (by omega), show a.length + j - a.length = j by omega] at this
  rwa [show p + a.length + j = p + (a.length + j) by omega]
theorem Here.head {L : List Tk} {p : Nat} {x : Tk} {b : List Tk} (h : Here L p (x :: b)) : LikeT x (tkAt L p) ∧ Here L (p + 1) b := ⟨h 0 (by simp), fun j hj => by
  have := h (j + 1) (by simp; omega)
  rw [tk_cons] at this
  rwa [show p + 1 + j = p + (j + 1) by omega]⟩
/-- How reading goes on behind a node, by its level. -/
def GoP (L : List Tk) (lev : Int) (s t : PS) (k : Int) : Prop :=
  if lev = 3 then Runs L .atom s (.ok k t)
  else if lev = 2 then ∀ r, Runs L (.postL k) t r → Runs L .post s r
  else if lev = 1 then (tkAt L t.read).kind ≠ 6 → (tkAt L t.read).kind ≠ 7 → ∀ r, Runs L (.rowL k) t r → Runs L .row s r
  else begK (tkAt L t.read).kind = false → (tkAt L t.read).kind ≠ 6 → (tkAt L t.read).kind ≠ 7 → ∀ r, Runs L (.orL k) t r → Runs L .or s r
theorem GoP.two {L : List Tk} {s t : PS} {k : Int} (h : GoP L 3 s t k) : GoP L 2 s t k := fun r hr => Runs.post h hr
theorem GoP.oneL {L : List Tk} {s t : PS} {k : Int} (h : GoP L 2 s t k) : GoP L 1 s t k := fun h6 h7 r hr => Runs.row (h _ (Runs.postLStop h6 h7)) hr
theorem GoP.zero {L : List Tk} {s t : PS} {k : Int} (h : GoP L 1 s t k) : GoP L 0 s t k := fun hb h6 h7 r hr => Runs.or (h h6 h7 _ (Runs.rowLStop (by rw [hb]; decide))) hr
theorem GoP.down {L : List Tk} {s t : PS} {k lv lev : Int} (h : GoP L lv s t k) (h0 : lv = 0 ∨ lv = 1 ∨ lv = 2 ∨ lv = 3) (h1 : lev = 0 ∨ lev = 1 ∨ lev = 2 ∨ lev = 3) (hle : lev ≤ lv) : GoP L lev s t k := by
  rcases h0 with rfl | rfl | rfl | rfl <;> rcases h1 with rfl | rfl | rfl | rfl <;> first
    | exact h
    | (exfalso; omega)
    | exact h.zero
    | exact h.oneL
    | exact h.oneL.zero
    | exact h.two
    | exact h.two.oneL
    | exact h.two.oneL.zero
theorem lev_four (k : Int) : levK k = 0 ∨ levK k = 1 ∨ levK k = 2 ∨ levK k = 3 := by unfold levK; (repeat' split) <;> simp
/-- What the parser holds ahead of a node, and behind it. -/
structure At (l : List Nd) (s : PS) (n : Nat) : Prop where
  cnt : s.count = n
  nds : s.nodes = l.take n
theorem At.next {l : List Nd} {s : PS} {n : Nat} (h : At l s n) : At l s.next n := ⟨h.cnt, h.nds⟩
theorem At.into {l : List Nd} {s : PS} {n : Nat} {L : List Tk} (h : At l s n) : At l (s.into L) n := ⟨h.cnt, h.nds⟩
theorem At.lay {l : List Nd} {s : PS} {n : Nat} (h : At l s n) (hn : n < l.length) (h4 : l.length ≤ 4096) {x : Nd} (hx : x = atN l n) (p : Int) : At l (s.lay x p) (n + 1) := by
  have hc := h.cnt
  refine ⟨by rw [(lay_read _ _ _).2.2, hc], ?_⟩
  rw [lay_nodes (by omega), h.nds, hx, List.take_succ_eq_append_getElem hn]
  unfold atN; simp [hn]
theorem tkF_succ (l : List Nd) (f : Nat) (i lev : Int) : tkF l (f + 1) i lev = if levK (atN l i.toNat).kind < lev then brT (tkP (tkF l f) (atN l i.toNat)) else tkP (tkF l f) (atN l i.toNat) := rfl
theorem dpF_succ (l : List Nd) (f : Nat) (i lev : Int) : dpF l (f + 1) i lev = if levK (atN l i.toNat).kind < lev then dpP (dpF l f) (atN l i.toNat) + 1 else dpP (dpF l f) (atN l i.toNat) := rfl
/-- What a node's parts are. -/
theorem ok_parts {l : List Nd} {i : Nat} (h : okN l i (atN l i)) :
    ((atN l i).kind = 1 ∨ (atN l i).kind = 2 ∨ (atN l i).kind = 3) ∧ firstP l i = i ∨
    (∃ q : Nat, i = q + 1 ∧ (atN l i).a = (q : Int) ∧ firstP l i = firstP l q ∧ ((atN l i).kind = 6 ∨ (atN l i).kind = 7 ∨ (atN l i).kind = 8 ∨ (atN l i).kind = 9)) ∨
    (∃ q p : Nat, i = q + 1 ∧ (atN l i).b = (q : Int) ∧ (atN l i).a = (p : Int) ∧ firstP l q = p + 1 ∧ firstP l i = firstP l p ∧ p < q + 1 ∧ ((atN l i).kind = 4 ∨ (atN l i).kind = 5)) := by
  have hle := firstP_le l i
  rcases h.2 with h | h | h | h | h | h
  · exact .inl ⟨.inl h, firstP_stop (fun hc => by have := hc.1; unfold partK at this; omega)⟩
  · exact .inl ⟨.inr (.inl h), firstP_stop (fun hc => by have := hc.1; unfold partK at this; omega)⟩
  · exact .inl ⟨.inr (.inr h.1), firstP_stop (fun hc => by have := hc.1; have := h.1; unfold partK at *; omega)⟩
  · obtain ⟨hk, h0, h1⟩ := h
    have hp : partK (atN l i).kind := by unfold partK; omega
    refine .inr (.inl ⟨i - 1, by omega, by omega, ?_, by omega⟩)
    rw [firstP_go hp (by omega) (by omega), show (atN l i).a.toNat = i - 1 by omega]
  · obtain ⟨hk, ⟨h0, h1⟩, _⟩ := h
    have hp : partK (atN l i).kind := by unfold partK; omega
    refine .inr (.inl ⟨i - 1, by omega, by omega, ?_, by omega⟩)
    rw [firstP_go hp (by omega) (by omega), show (atN l i).a.toNat = i - 1 by omega]
  · obtain ⟨hk, ⟨h0, h1⟩, h2, h3⟩ := h
    have hp : partK (atN l i).kind := by unfold partK; omega
    have hq : (atN l i).b.toNat = i - 1 := by omega
    rw [hq] at h3
    have hle2 := firstP_le l (i - 1)
    refine .inr (.inr ⟨i - 1, (atN l i).a.toNat, by omega, by omega, by omega, by omega, ?_, by omega, hk⟩)
    rw [firstP_go hp (by omega) (by omega)]
/-- More steps make the same. -/
theorem tkF_more (l : List Nd) (hok : ∀ j, j < l.length → okN l j (atN l j)) : ∀ (i : Nat), i < l.length → ∀ f g : Nat, i < f → i < g → ∀ lev, tkF l f (i : Int) lev = tkF l g (i : Int) lev ∧ dpF l f (i : Int) lev = dpF l g (i : Int) lev := by
  intro i
  induction i using Nat.strongRecOn with
  | ind i ih =>
    intro hi f g hf hg lev
    obtain ⟨f, rfl⟩ : ∃ f', f = f' + 1 := ⟨f - 1, by omega⟩
    obtain ⟨g, rfl⟩ : ∃ g', g = g' + 1 := ⟨g - 1, by omega⟩
    rw [tkF_succ, tkF_succ, dpF_succ, dpF_succ, Int.toNat_natCast]
    have hp := ok_parts (hok i hi)
    have both : tkP (tkF l f) (atN l i) = tkP (tkF l g) (atN l i) ∧ dpP (dpF l f) (atN l i) = dpP (dpF l g) (atN l i) := by
      generalize atN l i = n at hp ⊢
      unfold tkP dpP
      rcases hp with ⟨hk, _⟩ | ⟨q, hq, ha, _, hk⟩ | ⟨q, p, hq, hb, ha, _, _, hpq, hk⟩
      · rcases hk with hk | hk | hk <;> simp [hk]
      · have K := fun lv => ih q (by omega) (by omega) f g (by omega) (by omega) lv
        rcases hk with hk | hk | hk | hk <;> simp [hk, ha, (K _).1, (K _).2]
      · have K := fun lv => ih q (by omega) (by omega) f g (by omega) (by omega) lv
        have K2 := fun lv => ih p (by omega) (by omega) f g (by omega) (by omega) lv
        rcases hk with hk | hk <;> simp [hk, ha, hb, (K _).1, (K _).2, (K2 _).1, (K2 _).2]
    rw [both.1, both.2]; exact ⟨rfl, rfl⟩
/-- What stands first begins an atom. -/
theorem tk_begs (l : List Nd) (hok : ∀ j, j < l.length → okN l j (atN l j)) : ∀ (i : Nat), i < l.length → ∀ f : Nat, i < f → (0 < (tkP (tkF l (f - 1)) (atN l i)).length ∧ begK (tkAt (tkP (tkF l (f - 1)) (atN l i)) 0).kind = true) ∧ ∀ lev, 0 < (tkF l f (i : Int) lev).length ∧ begK (tkAt (tkF l f (i : Int) lev) 0).kind = true := by
  intro i
  induction i using Nat.strongRecOn with
  | ind i ih =>
    intro hi f hf
    obtain ⟨f, rfl⟩ : ∃ f', f = f' + 1 := ⟨f - 1, by omega⟩
    rw [Nat.add_sub_cancel]
    have hp := ok_parts (hok i hi)
    have first : 0 < (tkP (tkF l f) (atN l i)).length ∧ begK (tkAt (tkP (tkF l f) (atN l i)) 0).kind = true := by
      generalize atN l i = n at hp ⊢
      have go : ∀ (a b : List Tk), 0 < a.length ∧ begK (tkAt a 0).kind = true → 0 < (a ++ b).length ∧ begK (tkAt (a ++ b) 0).kind = true := fun a b h => ⟨by rw [List.length_append]; omega, by rw [tk_left h.1]; exact h.2⟩
      unfold tkP
      rcases hp with ⟨hk, _⟩ | ⟨q, hq, ha, _, hk⟩ | ⟨q, p, hq, hb, ha, _, _, hpq, hk⟩
      · rcases hk with hk | hk | hk
        · simp only [hk]; exact ⟨by simp, rfl⟩
        · simp only [hk]; exact ⟨by simp, rfl⟩
        · simp only [hk]; exact ⟨by simp, rfl⟩
      · have K := (ih q (by omega) (by omega) f (by omega)).2
        rcases hk with hk | hk | hk | hk
        · simp only [hk]; rw [ha]; exact go _ _ (K 2)
        · simp only [hk]; rw [ha]; exact go _ _ (K 2)
        · simp only [hk]; exact ⟨by simp, rfl⟩
        · simp only [hk]; exact ⟨by simp, rfl⟩
      · have K := (ih p (by omega) (by omega) f (by omega)).2
        rcases hk with hk | hk
        · simp only [hk]; rw [ha]; exact go _ _ (K 1)
        · simp only [hk]; rw [ha]; exact go _ _ (K 0)
    refine ⟨first, fun lev => ?_⟩
    rw [tkF_succ, Int.toNat_natCast]
    split
    · exact ⟨by unfold brT; simp, rfl⟩
    · exact first
/-- What stands in brackets. -/
theorem brack {L : List Tk} {s t : PS} {ts : List Tk} {k : Int} (h : Here L s.read (brT ts)) (ho : s.opn.length < 64) (hb : begK (tkAt L (s.read + 1)).kind = true) (ht : t.read = s.read + 1 + ts.length) (hop : t.opn = (s.into L).opn) (hg : GoP L 0 (s.into L) t k) :
    Runs L .group s (.ok k { t.next with opn := t.opn.dropLast }) ∧ ({ t.next with opn := t.opn.dropLast } : PS).opn = s.opn ∧ ({ t.next with opn := t.opn.dropLast } : PS).read = s.read + (brT ts).length := by
  obtain ⟨h3, h4⟩ := Here.head h
  have e4 : (tkAt L t.read).kind = 4 := by
    have q := (Here.head (h4.right)).1.1
    rw [ht]; exact q
  have e3 : (tkAt L s.read).kind = 3 := h3.1
  have R := hg (by rw [e4]; rfl) (by rw [e4]; decide) (by rw [e4]; decide) _ (Runs.orLStop (by rw [e4]; decide))
  refine ⟨Runs.group e3 ho (Runs.inside ?_ R) e4, ?_, ?_⟩
  · intro e
    have : (s.into L).read = s.read + 1 := rfl
    rw [this] at e; rw [e] at hb; exact absurd hb (by decide)
  · show t.opn.dropLast = _
    rw [hop]; simp [PS.into]
  · simp only [PS.next]; rw [ht]; unfold brT; simp; omega
theorem At.opn {l : List Nd} {s : PS} {n : Nat} (h : At l s n) (o : List Int) : At l { s with opn := o } n := ⟨h.cnt, h.nds⟩
/-- A node's tokens are read as the node. -/
theorem here_back (l : List Nd) (hok : ∀ j, j < l.length → okN l j (atN l j)) (h4 : l.length ≤ 4096) (L : List Tk) : ∀ i, i < l.length →
    (∀ s, At l s (firstP l i) → Here L s.read (tkP (tkF l i) (atN l i)) → s.opn.length + dpP (dpF l i) (atN l i) ≤ 64 → ∃ t : PS, t.read = s.read + (tkP (tkF l i) (atN l i)).length ∧ t.opn = s.opn ∧ At l t (i + 1) ∧ GoP L (levK (atN l i).kind) s t (i : Int)) ∧
    (∀ lev : Int, (lev = 0 ∨ lev = 1 ∨ lev = 2 ∨ lev = 3) → ∀ s, At l s (firstP l i) → Here L s.read (tkF l (i + 1) (i : Int) lev) → s.opn.length + dpF l (i + 1) (i : Int) lev ≤ 64 → ∃ t : PS, t.read = s.read + (tkF l (i + 1) (i : Int) lev).length ∧ t.opn = s.opn ∧ At l t (i + 1) ∧ GoP L lev s t (i : Int)) := by
  intro i
  induction i using Nat.strongRecOn with
  | ind i ih =>
    intro hi
    have hn := hok i hi
    have hp := ok_parts hn
    have hb := hn.1
    have own : ∀ s, At l s (firstP l i) → Here L s.read (tkP (tkF l i) (atN l i)) → s.opn.length + dpP (dpF l i) (atN l i) ≤ 64 → ∃ t : PS, t.read = s.read + (tkP (tkF l i) (atN l i)).length ∧ t.opn = s.opn ∧ At l t (i + 1) ∧ GoP L (levK (atN l i).kind) s t (i : Int) := by
      intro s ha hh hd
      obtain ⟨x, hx⟩ : ∃ x, atN l i = x := ⟨_, rfl⟩
      rw [hx] at hp hb hh hd ⊢
      rcases hp with ⟨hk, hf⟩ | ⟨q, hq, hxa, hf, hk⟩ | ⟨q, p, hq, hxb, hxa, hfq, hf, hpq, hk⟩
      · rw [hf] at ha
        rcases hk with hk | hk | hk
        · have hxx : ({ kind := 1 } : Nd) = x := by unfold backN at hb; rw [if_pos hk] at hb; exact hb
          have e : tkP (tkF l i) x = [{ kind := 3 }, { kind := 4 }] := by unfold tkP; rw [if_pos hk]
          have e2 : dpP (dpF l i) x = 1 := by unfold dpP; rw [if_pos hk]
          rw [e] at hh ⊢
          rw [e2] at hd
          obtain ⟨q3, q4⟩ := Here.head hh
          have e3 : (tkAt L s.read).kind = 3 := q3.1
          have e4 : (tkAt L (s.read + 1)).kind = 4 := (Here.head q4).1.1
          have hin : Runs L .inside (s.into L) (.ok (s.count : Int) ((s.into L).lay { kind := 1 } (-1))) := Runs.empty e4
          have hu := lay_read (s.into L) { kind := 1 } (-1)
          have R := Runs.group e3 (by omega) hin (by rw [hu.1]; exact e4)
          refine ⟨{ ((s.into L).lay { kind := 1 } (-1)).next with opn := ((s.into L).lay { kind := 1 } (-1)).opn.dropLast }, ?_, ?_, ?_, ?_⟩
          · simp only [PS.next]; rw [hu.1]; simp [PS.into, PS.next]
          · simp only; rw [hu.2.1]; simp [PS.into]
          · exact ((ha.into.lay hi h4 (hxx.trans hx.symm) (-1)).next).opn _
          · have := Runs.atomG e3 R
            rw [ha.cnt] at this
            rw [hk]; exact this
        · have hxx : ({ kind := 2, cls := x.cls } : Nd) = x := by unfold backN at hb; rw [if_neg (by rw [hk]; decide), if_pos hk] at hb; exact hb
          have e : tkP (tkF l i) x = [{ kind := 1, cls := x.cls }] := by unfold tkP; rw [if_neg (by rw [hk]; decide), if_pos hk]
          rw [e] at hh ⊢
          obtain ⟨q3, _⟩ := Here.head hh
          have R := Runs.bytes (l := L) (s := s) q3.1
          rw [show (tkAt L s.read).cls = x.cls from q3.2.2.2.1, hxx, ha.cnt] at R
          exact ⟨s.next.lay x (-1), by rw [(lay_read _ _ _).1]; rfl, (lay_read _ _ _).2.1, ha.next.lay hi h4 hx.symm (-1), by rw [hk]; exact R⟩
        · have hxx : ({ kind := 3, text := x.text } : Nd) = x := by unfold backN at hb; rw [if_neg (by rw [hk]; decide), if_neg (by rw [hk]; decide), if_pos hk] at hb; exact hb
          have e : tkP (tkF l i) x = [{ kind := 2, text := x.text }] := by unfold tkP; rw [if_neg (by rw [hk]; decide), if_neg (by rw [hk]; decide), if_pos hk]
          rw [e] at hh ⊢
          obtain ⟨q3, _⟩ := Here.head hh
          have R := Runs.text (l := L) (s := s) q3.1
          rw [show (tkAt L s.read).text = x.text from q3.2.2.2.2, hxx, ha.cnt] at R
          exact ⟨s.next.lay x (-1), by rw [(lay_read _ _ _).1]; rfl, (lay_read _ _ _).2.1, ha.next.lay hi h4 hx.symm (-1), by rw [hk]; exact R⟩
      · rw [hf] at ha
        have IH := (ih q (by omega) (by omega)).2
        subst hq
        rcases hk with hk | hk | hk
        · have hxx : ({ kind := 6, a := x.a } : Nd) = x := by unfold backN at hb; simp [hk] at hb; exact hb
          have e : tkP (tkF l (q + 1)) x = tkF l (q + 1) (q : Int) 2 ++ [{ kind := 6 }] := by unfold tkP; simp [hk, hxa]
          have e2 : dpP (dpF l (q + 1)) x = dpF l (q + 1) (q : Int) 2 := by unfold dpP; simp [hk, hxa]
          rw [e] at hh ⊢
          rw [e2] at hd
          obtain ⟨t1, r1, o1, a1, g1⟩ := IH 2 (by omega) s ha hh.left hd
          have e6 : (tkAt L t1.read).kind = 6 := by rw [r1]; exact (Here.head hh.right).1.1
          refine ⟨(t1.lay x (tkAt L t1.read).at_).next, ?_, ?_, (a1.lay hi h4 hx.symm _).next, ?_⟩
          · simp only [PS.next]; rw [(lay_read _ _ _).1, r1]; simp; omega
          · simp only [PS.next]; rw [(lay_read _ _ _).2.1]; exact o1
          · rw [hk]
            exact fun r hr => g1 r (Runs.star e6 (by rw [a1.cnt, ← hxa, hxx]; exact hr))
        · have hxx : ({ kind := 7, a := x.a, lo := x.lo, hi := x.hi } : Nd) = x := by unfold backN at hb; simp [hk] at hb; exact hb
          have e : tkP (tkF l (q + 1)) x = tkF l (q + 1) (q : Int) 2 ++ [{ kind := 7, lo := x.lo, hi := x.hi }] := by unfold tkP; simp [hk, hxa]
          have e2 : dpP (dpF l (q + 1)) x = dpF l (q + 1) (q : Int) 2 := by unfold dpP; simp [hk, hxa]
          rw [e] at hh ⊢
          rw [e2] at hd
          obtain ⟨t1, r1, o1, a1, g1⟩ := IH 2 (by omega) s ha hh.left hd
          have q7 := (Here.head hh.right).1
          rw [← r1] at q7
          refine ⟨(t1.lay x (tkAt L t1.read).at_).next, ?_, ?_, (a1.lay hi h4 hx.symm _).next, ?_⟩
          · simp only [PS.next]; rw [(lay_read _ _ _).1, r1]; simp; omega
          · simp only [PS.next]; rw [(lay_read _ _ _).2.1]; exact o1
          · rw [hk]
            exact fun r hr => g1 r (Runs.rep q7.1 (by rw [a1.cnt, ← hxa, show (tkAt L t1.read).lo = x.lo from q7.2.1, show (tkAt L t1.read).hi = x.hi from q7.2.2.1, hxx]; exact hr))
        · have hxx : ({ kind := x.kind, a := x.a } : Nd) = x := by unfold backN at hb; rcases hk with hk | hk <;> (simp [hk] at hb; rw [hk]; exact hb)
          have e : tkP (tkF l (q + 1)) x = { kind := x.kind } :: brT (tkF l (q + 1) (q : Int) 0) := by unfold tkP brT; rcases hk with hk | hk <;> simp [hk, hxa]
          have e2 : dpP (dpF l (q + 1)) x = dpF l (q + 1) (q : Int) 0 + 1 := by unfold dpP; rcases hk with hk | hk <;> simp [hk, hxa]
          rw [e] at hh ⊢
          rw [e2] at hd
          obtain ⟨qk, hbr⟩ := Here.head hh
          have hin : Here L (s.read + 1 + 1) (tkF l (q + 1) (q : Int) 0) := (Here.head hbr).2.left
          obtain ⟨t1, r1, o1, a1, g1⟩ := IH 0 (by omega) (s.next.into L) ha.next.into hin (by
            show (s.opn ++ [_]).length + _ ≤ 64
            rw [List.length_append]; simp; omega)
          have hbeg := (tk_begs l hok q (by omega) (q + 1) (by omega)).2 0
          have hb1 : begK (tkAt L (s.next.read + 1)).kind = true := by
            have := (hin 0 hbeg.1).1
            rw [Nat.add_zero] at this
            show begK (tkAt L (s.read + 1 + 1)).kind = true
            rw [this]; exact hbeg.2
          obtain ⟨R, ho, hr⟩ := brack (s := s.next) (t := t1) hbr (by show s.opn.length < 64; omega) hb1 r1 o1 g1
          have RF := Runs.frame (l := L) (s := s) qk.1 hk R
          have ha2 : At l ({ t1.next with opn := t1.opn.dropLast } : PS) (q + 1) := (a1.next).opn _
          rw [ha2.cnt, ← hxa, hxx] at RF
          refine ⟨_, ?_, ?_, ha2.lay hi h4 hx.symm (-1), ?_⟩
          · rw [(lay_read _ _ _).1, hr]; simp only [PS.next, List.length_cons]; omega
          · rw [(lay_read _ _ _).2.1, ho]; rfl
          · have hl3 : levK x.kind = 3 := by unfold levK; rcases hk with hk | hk <;> simp [hk]
            rw [hl3]; exact RF
      · rw [hf] at ha
        have IHq := (ih q (by omega) (by omega)).2
        have IHp := (ih p (by omega) (by omega)).2
        subst hq
        have mp := fun lev => tkF_more l hok p (by omega) (q + 1) (p + 1) (by omega) (by omega) lev
        rcases hk with hk | hk
        · have hxx : ({ kind := 4, a := x.a, b := x.b } : Nd) = x := by unfold backN at hb; simp [hk] at hb; exact hb
          have e : tkP (tkF l (q + 1)) x = tkF l (p + 1) (p : Int) 1 ++ tkF l (q + 1) (q : Int) 2 := by unfold tkP; simp [hk, hxa, hxb, (mp 1).1]
          have e2 : dpP (dpF l (q + 1)) x = max (dpF l (p + 1) (p : Int) 1) (dpF l (q + 1) (q : Int) 2) := by unfold dpP; simp [hk, hxa, hxb, (mp 1).2]
          rw [e] at hh ⊢
          rw [e2] at hd
          obtain ⟨t1, r1, o1, a1, g1⟩ := IHp 1 (by omega) s ha hh.left (by omega)
          rw [← hfq] at a1
          obtain ⟨t2, r2, o2, a2, g2⟩ := IHq 2 (by omega) t1 a1 (by rw [r1]; exact hh.right) (by rw [o1]; omega)
          have hbeg := (tk_begs l hok q (by omega) (q + 1) (by omega)).2 2
          have hb1 : begK (tkAt L t1.read).kind = true := by
            have := (hh.right 0 hbeg.1).1
            rw [Nat.add_zero, ← r1] at this
            rw [this]; exact hbeg.2
          have hu := lay_read t2 x (-1)
          refine ⟨t2.lay x (-1), by rw [hu.1, r2, r1, List.length_append]; omega, by rw [hu.2.1, o2, o1], a2.lay hi h4 hx.symm (-1), ?_⟩
          rw [hk]
          exact fun h6 h7 r hr => g1 (fun e => by rw [e] at hb1; exact absurd hb1 (by decide)) (fun e => by rw [e] at hb1; exact absurd hb1 (by decide)) r (Runs.rowLGo hb1 (g2 _ (Runs.postLStop (by rw [← hu.1]; exact h6) (by rw [← hu.1]; exact h7))) (by rw [a2.cnt, ← hxa, ← hxb, hxx]; exact hr))
        · have hxx : ({ kind := 5, a := x.a, b := x.b } : Nd) = x := by unfold backN at hb; simp [hk] at hb; exact hb
          have e : tkP (tkF l (q + 1)) x = tkF l (p + 1) (p : Int) 0 ++ ({ kind := 5 } :: tkF l (q + 1) (q : Int) 1) := by unfold tkP; simp [hk, hxa, hxb, (mp 0).1]
          have e2 : dpP (dpF l (q + 1)) x = max (dpF l (p + 1) (p : Int) 0) (dpF l (q + 1) (q : Int) 1) := by unfold dpP; simp [hk, hxa, hxb, (mp 0).2]
          rw [e] at hh ⊢
          rw [e2] at hd
          obtain ⟨t1, r1, o1, a1, g1⟩ := IHp 0 (by omega) s ha hh.left (by omega)
          obtain ⟨q5, hB⟩ := Here.head hh.right
          rw [← r1] at q5 hB
          have e5 : (tkAt L t1.read).kind = 5 := q5.1
          rw [← hfq] at a1
          obtain ⟨t2, r2, o2, a2, g2⟩ := IHq 1 (by omega) t1.next a1.next hB (by show t1.opn.length + _ ≤ 64; rw [o1]; omega)
          have hu := lay_read t2 x (-1)
          refine ⟨t2.lay x (-1), by rw [hu.1, r2]; simp only [PS.next]; rw [r1, List.length_append, List.length_cons]; omega, by rw [hu.2.1, o2]; exact o1, a2.lay hi h4 hx.symm (-1), ?_⟩
          rw [hk]
          exact fun hbf h6 h7 r hr => g1 (by rw [e5]; rfl) (by rw [e5]; decide) (by rw [e5]; decide) r (Runs.orLGo e5 (g2 (by rw [← hu.1]; exact h6) (by rw [← hu.1]; exact h7) _ (Runs.rowLStop (by rw [← hu.1, hbf]; decide))) (by rw [a2.cnt, ← hxa, ← hxb, hxx]; exact hr))
    refine ⟨own, fun lev hlev s ha hh hd => ?_⟩
    rw [tkF_succ, Int.toNat_natCast] at hh ⊢
    rw [dpF_succ, Int.toNat_natCast] at hd
    split at hh
    · rename_i hlt
      rw [if_pos hlt] at hd ⊢
      have hin : Here L (s.read + 1) (tkP (tkF l i) (atN l i)) := (Here.head hh).2.left
      obtain ⟨t1, r1, o1, a1, g1⟩ := own (s.into L) ha.into hin (by
        show (s.opn ++ [_]).length + _ ≤ 64
        rw [List.length_append]; simp; omega)
      have hbeg := (tk_begs l hok i hi (i + 1) (by omega)).1
      rw [Nat.add_sub_cancel] at hbeg
      have hb1 : begK (tkAt L (s.read + 1)).kind = true := by
        have := (hin 0 hbeg.1).1
        rw [Nat.add_zero] at this
        rw [this]; exact hbeg.2
      obtain ⟨R, ho, hr⟩ := brack (s := s) (t := t1) hh (by omega) hb1 r1 o1 (g1.down (lev_four _) (.inl rfl) (by rcases lev_four (atN l i).kind with h | h | h | h <;> omega))
      refine ⟨_, hr, ho, (a1.next).opn _, ?_⟩
      exact GoP.down (lv := 3) (show GoP L 3 s _ _ from Runs.atomG (Here.head hh).1.1 R) (.inr (.inr (.inr rfl))) hlev (by omega)
    · rename_i hle
      rw [if_neg hle] at hd ⊢
      obtain ⟨t, r1, o1, a1, g1⟩ := own s ha hh hd
      exact ⟨t, r1, o1, a1, g1.down (lev_four _) hlev (by omega)⟩
/-- The tokens of a description's text, and an end, are parsed to it. -/
theorem print_parse {l : List Nd} (hf : Form l) (h4 : l.length ≤ 4096) {L : List Tk} (hh : Here L 0 (tkF l l.length ((l.length : Int) - 1) 0)) (he : (tkAt L (tkF l l.length ((l.length : Int) - 1) 0).length).kind = 10) (hd : dpF l l.length ((l.length : Int) - 1) 0 ≤ 64) : ∃ k t, parseP L = .ok k t ∧ t.nodes = l := by
  obtain ⟨hpos, hok, hfirst⟩ := hf
  obtain ⟨i, hi⟩ : ∃ i, l.length = i + 1 := ⟨l.length - 1, by omega⟩
  have ei : (l.length : Int) - 1 = (i : Int) := by omega
  rw [ei, hi] at hh he hd
  rw [hi, Nat.add_sub_cancel] at hfirst
  obtain ⟨t, r1, o1, a1, g1⟩ := (here_back l hok h4 L i (by omega)).2 0 (.inl rfl) {} (by rw [hfirst]; exact ⟨rfl, rfl⟩) hh (by show 0 + _ ≤ 64; omega)
  have e0 : t.read = (tkF l (i + 1) (i : Int) 0).length := by rw [r1]; exact Nat.zero_add _
  have e10 : (tkAt L t.read).kind = 10 := by rw [e0]; exact he
  have R := g1 (by rw [e10]; rfl) (by rw [e10]; decide) (by rw [e10]; decide) _ (Runs.orLStop (by rw [e10]; decide))
  refine ⟨_, _, runs_parse R e10 (by rw [a1.cnt]; omega), ?_⟩
  show t.nodes = l
  rw [a1.nds, ← hi, List.take_length]
end Go.Proofs.YtcgjmnhmhiddkaaGreatDoor
/- How deep a text is, counted over its pieces, and over its bytes: plain mathematics. -/
namespace Go.Proofs.YtcgjmnhmhiddkaaGreatDoor
open Go
set_option linter.unusedVariables false
set_option linter.unusedSimpArgs false

/-- One piece: how many brackets are open, and the most that were. -/
def dstep (p : Int × Int) (s : List UInt8) : Int × Int := if s = [40] then (p.1 + 1, max p.2 (p.1 + 1)) else if s = [41] then (p.1 - 1, p.2) else p
/-- Signs that are no bracket. -/
def NoBr (s : List UInt8) : Prop := s ≠ [40] ∧ s ≠ [41]
theorem dstep_no {p : Int × Int} {s : List UInt8} (h : NoBr s) : dstep p s = p := by
  unfold dstep; rw [if_neg h.1, if_neg h.2]
/-- Some pieces are so deep, and leave nothing open. -/
def DeepD (ss : List (List UInt8)) (d : Nat) : Prop := ∀ o m : Int, o ≤ m → ss.foldl dstep (o, m) = (o, max m (o + d))
theorem DeepD.nil : DeepD [] 0 := fun o m h => by show (o, m) = _; rw [show max m (o + ((0 : Nat) : Int)) = m by omega]
theorem DeepD.append {a b : List (List UInt8)} {x y : Nat} (h : DeepD a x) (k : DeepD b y) : DeepD (a ++ b) (max x y) := fun o m hm => by
  rw [List.foldl_append, h o m hm, k o _ (by omega)]
  congr 1; omega
theorem DeepD.one {s : List UInt8} (h : NoBr s) : DeepD [s] 0 := fun o m hm => by
  show dstep (o, m) s = _; rw [dstep_no h, show max m (o + ((0 : Nat) : Int)) = m by omega]
theorem DeepD.cons {s : List UInt8} {a : List (List UInt8)} {x : Nat} (h : NoBr s) (k : DeepD a x) : DeepD (s :: a) x := fun o m hm => by
  show a.foldl dstep (dstep (o, m) s) = _; rw [dstep_no h, k o m hm]
theorem DeepD.brk {a : List (List UInt8)} {x : Nat} (h : DeepD a x) : DeepD ([40] :: (a ++ [[41]])) (x + 1) := fun o m hm => by
  show (a ++ [[41]]).foldl dstep (o + 1, max m (o + 1)) = _
  rw [List.foldl_append, h _ _ (by omega)]
  show (o + 1 - 1, max (max m (o + 1)) (o + 1 + (x : Int))) = _
  rw [show o + 1 - 1 = o by omega]
  congr 1; omega
section
variable {cT : BitVec 256 → List UInt8} {bT : Int → Int → List UInt8}
theorem deep_part {f : Int → Int → List (List UInt8)} {g : Int → Int → Nat} (hc : ∀ c, NoBr (cT c)) (hb : ∀ a b, NoBr (bT a b)) (h : ∀ i lev, DeepD (f i lev) (g i lev)) (n : Nd) : DeepD (outP f (pcsN cT bT n)) (dpP g n) := by
  unfold pcsN dpP
  have two : ∀ (a : List (List UInt8)) (x : Nat), DeepD a x → DeepD (a ++ []) x := fun a x hh => by rw [List.append_nil]; exact hh
  have zero : ∀ (a b : List (List UInt8)) (x : Nat), DeepD a x → DeepD b 0 → DeepD (a ++ b) x := fun a b x ha hbb => by
    have := ha.append hbb
    rwa [show max x 0 = x by omega] at this
  split
  · exact DeepD.nil.brk
  split
  · exact DeepD.one (hc _)
  split
  · exact DeepD.one ⟨by simp, by simp⟩
  split
  · show DeepD (f n.a 1 ++ (f n.b 2 ++ [])) _
    exact (h _ _).append (two _ _ (h _ _))
  split
  · show DeepD (f n.a 0 ++ ([124] :: (f n.b 1 ++ []))) _
    exact (h _ _).append ((two _ _ (h _ _)).cons ⟨by decide, by decide⟩)
  split
  · exact zero _ _ _ (h _ _) (DeepD.one ⟨by decide, by decide⟩)
  split
  · exact zero _ _ _ (h _ _) (DeepD.one (hb _ _))
  split
  · show DeepD ([98] :: outP f (Go.Proofs.YtcgjmnhmhiddkaaGreatDoor.brk [.nd n.a 0])) _
    rw [outP_brk]
    exact ((two _ _ (h _ _)).brk).cons ⟨by decide, by decide⟩
  · show DeepD ([119] :: outP f (Go.Proofs.YtcgjmnhmhiddkaaGreatDoor.brk [.nd n.a 0])) _
    rw [outP_brk]
    exact ((two _ _ (h _ _)).brk).cons ⟨by decide, by decide⟩
/-- A node's text is as deep as its tokens. -/
theorem deep_told (hc : ∀ c, NoBr (cT c)) (hb : ∀ a b, NoBr (bT a b)) (l : List Nd) : ∀ (f : Nat) (i lev : Int), DeepD (sgsF cT bT l f i lev) (dpF l f i lev)
  | 0, i, lev => DeepD.nil
  | f + 1, i, lev => by
    rw [sgsF_succ, dpF_succ]
    unfold fullN
    have key := deep_part hc hb (deep_told hc hb l f) (atN l i.toNat)
    split
    · rw [outP_brk]; exact key.brk
    · exact key
end

end Go.Proofs.YtcgjmnhmhiddkaaGreatDoor
