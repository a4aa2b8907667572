/- Nodes of descriptions, built and taken apart: the plain mathematics. -/
import Derived.Test.YtgabifebcfgngaaM05
import Derived.Test.YtgabifebcfgngaaM03
import Derived.Test.YtgabifebcfgngaaM06
import Derived.Laws.AppendOwn
import Derived.Laws.StructEq
namespace Go.Proofs.Ytgabifebcfgngaa
open Go
set_option linter.unusedVariables false

/-- The node, its parts' numbers more. -/
def mvN (by_ : Int) (n : Nd) : Nd :=
  if 6 ≤ n.kind ∧ n.kind ≤ 9 then { n with a := n.a + by_ }
  else if n.kind = 4 ∨ n.kind = 5 then { n with a := n.a + by_, b := n.b + by_ }
  else n
theorem mvN_kind (k : Int) (n : Nd) : (mvN k n).kind = n.kind := by unfold mvN; (repeat' split) <;> rfl
theorem mvN_zero (n : Nd) : mvN 0 n = n := by
  unfold mvN; split
  · simp
  · split <;> simp
theorem map_mv_zero (l : List Nd) : l.map (mvN 0) = l := by
  rw [show mvN 0 = id from funext mvN_zero, List.map_id]
def leafK (k : Int) : Prop := k = 1 ∨ k = 2 ∨ k = 3
theorem mvN_leaf {k : Int} {n : Nd} (h : leafK n.kind) : mvN k n = n := by
  unfold leafK at h; unfold mvN; rw [if_neg (by omega), if_neg (by omega)]
def seg (l : List Nd) (f k : Nat) : List Nd := (l.drop f).take k
theorem seg_length {l : List Nd} {f k : Nat} (h : f + k ≤ l.length) : (seg l f k).length = k := by
  unfold seg; rw [List.length_take, List.length_drop]; omega
theorem seg_at {l : List Nd} {f k j : Nat} (h : j < k) : atN (seg l f k) j = atN l (f + j) := by
  unfold seg atN
  rw [List.getD_eq_getElem?_getD, List.getD_eq_getElem?_getD, List.getElem?_take, if_pos h, List.getElem?_drop]
def subL (l : List Nd) (i : Nat) : List Nd := (seg l (firstP l i) (i + 1 - firstP l i)).map (mvN (-(firstP l i : Int)))
def wrapL (kind lo hi : Int) (l : List Nd) : List Nd := l ++ [{ kind := kind, a := (l.length : Int) - 1, lo := lo, hi := hi }]
def pairL (kind : Int) (l m : List Nd) : List Nd := (l ++ m.map (mvN (l.length : Int))) ++ [{ kind := kind, a := (l.length : Int) - 1, b := (l.length : Int) + (m.length : Int) - 1 }]
theorem subL_length {l : List Nd} {i : Nat} (h : i < l.length) : (subL l i).length = i + 1 - firstP l i := by
  have := firstP_le l i
  unfold subL; rw [List.length_map, seg_length (by omega)]
/-- All nodes up to one are as they must be. -/
def okTo (l : List Nd) (i : Nat) : Prop := ∀ j, j ≤ i → okN l j (atN l j)
theorem okTo.down {l : List Nd} {i j : Nat} (h : okTo l i) (hj : j ≤ i) : okTo l j := fun k hk => h k (by omega)
inductive Cs (l : List Nd) (i : Nat) (n : Nd) : Prop where
  | leaf (hk : leafK n.kind) (hf : firstP l i = i)
  | one (hk : 6 ≤ n.kind ∧ n.kind ≤ 9) (hi : 0 < i) (ha : n.a = (i : Int) - 1) (hb : n.b = 0) (hl : n.kind ≠ 7 → n.lo = 0 ∧ n.hi = 0) (hr : n.kind = 7 → 0 ≤ n.lo ∧ n.lo ≤ n.hi ∧ n.hi ≤ 255) (hc : n.cls = 0#256 ∧ n.text = []) (hf : firstP l i = firstP l (i - 1))
  | two (hk : n.kind = 4 ∨ n.kind = 5) (hi : 0 < i) (hb : n.b = (i : Int) - 1) (ha : n.a = (firstP l (i - 1) : Int) - 1) (hf0 : 0 < firstP l (i - 1)) (hl : n.lo = 0 ∧ n.hi = 0) (hc : n.cls = 0#256 ∧ n.text = []) (hf : firstP l i = firstP l (firstP l (i - 1) - 1))
theorem okN.cs {l : List Nd} {i : Nat} {n : Nd} (hn : atN l i = n) (h : okN l i n) : Cs l i n := by
  obtain ⟨hb, hk⟩ := h
  have stop : ¬ partK n.kind → firstP l i = i := fun hp => firstP_stop (by rw [hn]; exact fun hh => hp hh.1)
  have go : partK n.kind → 0 ≤ n.a → n.a < (i : Int) → firstP l i = firstP l n.a.toNat := fun h1 h2 h3 => by
    have := firstP_go (l := l) (i := i) (by rw [hn]; exact h1) (by rw [hn]; exact h2) (by rw [hn]; exact h3); rw [hn] at this; exact this
  rcases hk with hk | hk | ⟨hk, ht⟩ | ⟨hk, h0, h1⟩ | ⟨hk, ⟨h0, h1⟩, h2, h3, h4⟩ | ⟨hk, ⟨h0, h1⟩, h2, h3⟩
  · exact .leaf (.inl hk) (stop (by unfold partK; omega))
  · exact .leaf (.inr (.inl hk)) (stop (by unfold partK; omega))
  · exact .leaf (.inr (.inr hk)) (stop (by unfold partK; omega))
  · have e : n = { kind := n.kind, a := n.a } := by
      conv => lhs; rw [← hb]
      unfold backN
      rcases hk with hk | hk | hk <;> simp [hk]
    refine .one (by omega) (by omega) h1 (by rw [e]) (fun _ => by rw [e]; exact ⟨rfl, rfl⟩) (fun h7 => by omega) (by rw [e]; exact ⟨rfl, rfl⟩) ?_
    rw [go (by unfold partK; omega) h0 (by omega), show n.a.toNat = i - 1 by omega]
  · have e : n = { kind := 7, a := n.a, lo := n.lo, hi := n.hi } := by
      conv => lhs; rw [← hb]
      unfold backN
      simp [hk]
    refine .one (by omega) (by omega) h1 (by rw [e]) (fun h7 => absurd hk h7) (fun _ => ⟨h2, h3, h4⟩) (by rw [e]; exact ⟨rfl, rfl⟩) ?_
    rw [go (by unfold partK; omega) h0 (by omega), show n.a.toNat = i - 1 by omega]
  · have e : n = { kind := n.kind, a := n.a, b := n.b } := by
      conv => lhs; rw [← hb]
      unfold backN
      rcases hk with hk | hk <;> simp [hk]
    have hle := firstP_le l (i - 1)
    rw [show n.b.toNat = i - 1 by omega] at h3
    refine .two hk (by omega) h1 h3 (by omega) (by rw [e]; exact ⟨rfl, rfl⟩) (by rw [e]; exact ⟨rfl, rfl⟩) ?_
    rw [go (by unfold partK; omega) h2 (by omega), show n.a.toNat = firstP l (i - 1) - 1 by omega]
theorem Cs.ok {l : List Nd} {i : Nat} {n : Nd} (h : Cs l i n) (hl : leafK n.kind → backN n = n ∧ (n.kind = 3 → textOk n.text = true)) : okN l i n := by
  cases h with
  | leaf hk hf =>
    obtain ⟨h1, h2⟩ := hl hk
    refine ⟨h1, ?_⟩
    rcases hk with hk | hk | hk
    · exact .inl hk
    · exact .inr (.inl hk)
    · exact .inr (.inr (.inl ⟨hk, h2 hk⟩))
  | one hk hi ha hb h7 hr hc hf =>
    obtain ⟨kind, a, b, lo, hi', cls, text⟩ := n
    simp only at *
    obtain ⟨rfl, rfl⟩ := hc
    subst hb
    by_cases hk7 : kind = 7
    · subst hk7
      exact ⟨by simp [backN], .inr (.inr (.inr (.inr (.inl ⟨rfl, ⟨by simp only; omega, ha⟩, hr rfl⟩))))⟩
    · obtain ⟨rfl, rfl⟩ := h7 hk7
      refine ⟨?_, .inr (.inr (.inr (.inl ⟨by simp only; omega, by simp only; omega, ha⟩)))⟩
      have : kind = 6 ∨ kind = 8 ∨ kind = 9 := by omega
      unfold backN
      rcases this with h | h | h <;> simp [h]
  | two hk hi hb ha hf0 hl2 hc hf =>
    obtain ⟨kind, a, b, lo, hi', cls, text⟩ := n
    simp only at *
    obtain ⟨rfl, rfl⟩ := hc
    obtain ⟨rfl, rfl⟩ := hl2
    refine ⟨?_, .inr (.inr (.inr (.inr (.inr ⟨hk, ⟨by simp only; omega, hb⟩, by simp only; omega, ?_⟩))))⟩
    · unfold backN
      rcases hk with h | h <;> simp [h]
    · simp only; rw [show b.toNat = i - 1 by omega]; exact ha
theorem okN.leafs {l : List Nd} {i : Nat} {n : Nd} (h : okN l i n) : leafK n.kind → backN n = n ∧ (n.kind = 3 → textOk n.text = true) := fun hk => by
  obtain ⟨hb, h⟩ := h
  refine ⟨hb, fun h3 => ?_⟩
  rcases h with h | h | ⟨_, ht⟩ | ⟨h, _⟩ | ⟨h, _⟩ | ⟨h, _⟩
  · omega
  · omega
  · exact ht
  · omega
  · omega
  · omega
/-- A row within a node's row. -/
theorem first_in {l : List Nd} : ∀ {i : Nat}, okTo l i → ∀ j, firstP l i ≤ j → j ≤ i → firstP l i ≤ firstP l j := by
  intro i
  induction i using Nat.strongRecOn with
  | ind i ih =>
    intro h j h1 h2
    by_cases hji : j = i
    · rw [hji]; exact Nat.le_refl _
    cases (h i (Nat.le_refl _)).cs rfl with
    | leaf hk hf => omega
    | one hk hi ha hb h7 hr hc hf => rw [hf] at h1 ⊢; exact ih (i - 1) (by omega) (h.down (by omega)) j h1 (by omega)
    | two hk hi hb ha hf0 hl hc hf =>
      have hle := firstP_le l (i - 1)
      have hle2 := firstP_le l (firstP l (i - 1) - 1)
      rw [hf] at h1 ⊢
      by_cases hj : j ≤ firstP l (i - 1) - 1
      · exact ih _ (by omega) (h.down (by omega)) j h1 hj
      · have := ih (i - 1) (by omega) (h.down (by omega)) j (by omega) (by omega)
        omega
/-- Nodes laid elsewhere: m has at 'j + d' what l has at j, moved by d. -/
theorem first_moved {l m : List Nd} {d : Int} {f i : Nat} (hat : ∀ j, f ≤ j → j ≤ i → 0 ≤ (j : Int) + d ∧ atN m ((j : Int) + d).toNat = mvN d (atN l j)) (hok : ∀ j, f ≤ j → j ≤ i → okN l j (atN l j) ∧ f ≤ firstP l j) :
    ∀ j, f ≤ j → j ≤ i → (firstP m ((j : Int) + d).toNat : Int) = (firstP l j : Int) + d := by
  intro j
  induction j using Nat.strongRecOn with
  | ind j ih =>
    intro h1 h2
    obtain ⟨e0, e⟩ := hat j h1 h2
    obtain ⟨ho, hfj⟩ := hok j h1 h2
    generalize hn : atN l j = n at e ho
    cases ho.cs hn with
    | leaf hk hf =>
      rw [mvN_leaf hk] at e
      rw [firstP_stop (by rw [e]; unfold leafK at hk; unfold partK; omega), hf]; omega
    | one hk hi ha hb h7 hr hc hf =>
      have hfl := firstP_le l (j - 1)
      have e2 : (mvN d n).a = n.a + d := by unfold mvN; rw [if_pos hk]
      have e3 := mvN_kind d n
      have hj1 := (hat (j - 1) (by omega) (by omega)).1
      rw [firstP_go (by rw [e, e3]; unfold partK; omega) (by rw [e, e2]; omega) (by rw [e, e2]; omega), e, e2, hf]
      rw [← ih (j - 1) (by omega) (by omega) (by omega)]
      congr 2; omega
    | two hk hi hb ha hf0 hl hc hf =>
      have hle := firstP_le l (j - 1)
      have hle2 := firstP_le l (firstP l (j - 1) - 1)
      have e2 : (mvN d n).a = n.a + d := by unfold mvN; rw [if_neg (by omega), if_pos hk]
      have e3 := mvN_kind d n
      have hj1 := (hat (firstP l (j - 1) - 1) (by omega) (by omega)).1
      rw [firstP_go (by rw [e, e3]; unfold partK; omega) (by rw [e, e2]; omega) (by rw [e, e2]; omega), e, e2, hf]
      rw [← ih (firstP l (j - 1) - 1) (by omega) (by omega) (by omega)]
      congr 2; omega
theorem ok_moved {l m : List Nd} {d : Int} {f i : Nat} (hat : ∀ j, f ≤ j → j ≤ i → 0 ≤ (j : Int) + d ∧ atN m ((j : Int) + d).toNat = mvN d (atN l j)) (hok : ∀ j, f ≤ j → j ≤ i → okN l j (atN l j) ∧ f ≤ firstP l j) :
    ∀ j, f ≤ j → j ≤ i → okN m ((j : Int) + d).toNat (atN m ((j : Int) + d).toNat) := by
  intro j h1 h2
  have hfm := first_moved hat hok
  obtain ⟨e0, e⟩ := hat j h1 h2
  obtain ⟨ho, hfj⟩ := hok j h1 h2
  have hself := hfm j h1 h2
  rw [e]
  generalize hn : atN l j = n at e ho ⊢
  have e3 := mvN_kind d n
  cases ho.cs hn with
  | leaf hk hf =>
    rw [mvN_leaf hk]
    exact (Cs.leaf hk (by omega)).ok (fun _ => ho.leafs hk)
  | one hk hi ha hb h7 hr hc hf =>
    have hfl := firstP_le l (j - 1)
    have em : mvN d n = { n with a := n.a + d } := by unfold mvN; rw [if_pos hk]
    have hj1 := (hat (j - 1) (by omega) (by omega)).1
    have hprev := hfm (j - 1) (by omega) (by omega)
    rw [em]
    refine (Cs.one (n := { n with a := n.a + d }) hk (by omega) (by show n.a + d = _; omega) hb h7 hr hc ?_).ok (fun hk2 => by have hk2 : leafK n.kind := hk2; unfold leafK at hk2; omega)
    rw [show ((j : Int) + d).toNat - 1 = (((j - 1 : Nat) : Int) + d).toNat by omega]
    omega
  | two hk hi hb ha hf0 hl hc hf =>
    have hle := firstP_le l (j - 1)
    have hle2 := firstP_le l (firstP l (j - 1) - 1)
    have em : mvN d n = { n with a := n.a + d, b := n.b + d } := by unfold mvN; rw [if_neg (by omega), if_pos hk]
    have hj1 := (hat (firstP l (j - 1) - 1) (by omega) (by omega)).1
    have hp1 := hfm (j - 1) (by omega) (by omega)
    have hp2 := hfm (firstP l (j - 1) - 1) (by omega) (by omega)
    have hx : ((j : Int) + d).toNat - 1 = (((j - 1 : Nat) : Int) + d).toNat := by omega
    rw [em]
    refine (Cs.two (n := { n with a := n.a + d, b := n.b + d }) hk (by omega) (by show n.b + d = _; omega) ?_ ?_ hl hc ?_).ok (fun hk2 => by have hk2 : leafK n.kind := hk2; unfold leafK at hk2; omega)
    · show n.a + d = _; rw [hx, hp1]; omega
    · rw [hx]; omega
    · rw [hx]
      rw [show firstP m (((j - 1 : Nat) : Int) + d).toNat - 1 = (((firstP l (j - 1) - 1 : Nat) : Int) + d).toNat by omega]
      omega
theorem atN_map {l : List Nd} {j : Nat} (h : j < l.length) (d : Int) : atN (l.map (mvN d)) j = mvN d (atN l j) := by
  unfold atN
  rw [List.getD_eq_getElem?_getD, List.getD_eq_getElem?_getD, List.getElem?_map, List.getElem?_eq_getElem h]; rfl
theorem atN_left {l m : List Nd} {j : Nat} (h : j < l.length) : atN (l ++ m) j = atN l j := by
  unfold atN
  rw [List.getD_eq_getElem?_getD, List.getD_eq_getElem?_getD, List.getElem?_append_left h]
theorem atN_right {l m : List Nd} {j : Nat} (h : l.length ≤ j) : atN (l ++ m) j = atN m (j - l.length) := by
  unfold atN
  rw [List.getD_eq_getElem?_getD, List.getD_eq_getElem?_getD, List.getElem?_append_right h]
/-- A part's description has its form. -/
theorem sub_form {l : List Nd} {i : Nat} (hi : i < l.length) (h : okTo l i) : Form (subL l i) := by
  have hle := firstP_le l i
  have hlen := subL_length hi
  have hat : ∀ j, firstP l i ≤ j → j ≤ i → 0 ≤ (j : Int) + -(firstP l i : Int) ∧ atN (subL l i) ((j : Int) + -(firstP l i : Int)).toNat = mvN (-(firstP l i : Int)) (atN l j) := by
    intro j h1 h2
    refine ⟨by omega, ?_⟩
    unfold subL
    rw [atN_map (by rw [seg_length (by omega)]; omega), seg_at (by omega)]
    congr 2; omega
  have hok : ∀ j, firstP l i ≤ j → j ≤ i → okN l j (atN l j) ∧ firstP l i ≤ firstP l j := fun j h1 h2 => ⟨h j h2, first_in h j h1 h2⟩
  refine ⟨by omega, fun j hj => ?_, ?_⟩
  · have := ok_moved hat hok (j + firstP l i) (by omega) (by omega)
    rw [show (((j + firstP l i : Nat) : Int) + -(firstP l i : Int)).toNat = j by omega] at this
    exact this
  · have := first_moved hat hok i hle (Nat.le_refl _)
    rw [show ((i : Int) + -(firstP l i : Int)).toNat = (subL l i).length - 1 by omega] at this
    omega
theorem Form.okTo {l : List Nd} (h : Form l) {i : Nat} (hi : i < l.length) : okTo l i := fun j hj => h.2.1 j (by omega)
/-- A whole of one part. -/
theorem wrap_form {l : List Nd} (h : Form l) {kind lo hi : Int} (hk : kind = 6 ∨ kind = 8 ∨ kind = 9) (h0 : lo = 0 ∧ hi = 0) : Form (wrapL kind lo hi l) := by
  obtain ⟨rfl, rfl⟩ := h0
  obtain ⟨h0, h1, h2⟩ := h
  have hc : ∀ i, i < l.length → firstP (wrapL kind 0 0 l) i = firstP l i := fun i hi => firstP_congr fun j hj => atN_left (by omega)
  have hlast : atN (wrapL kind 0 0 l) l.length = { kind := kind, a := (l.length : Int) - 1 } := by
    unfold wrapL; rw [atN_right (Nat.le_refl _), Nat.sub_self]; rfl
  have hf : firstP (wrapL kind 0 0 l) l.length = 0 := by
    rw [firstP_go (by rw [hlast]; unfold partK; simp only; omega) (by rw [hlast]; simp only; omega) (by rw [hlast]; simp only; omega), hlast]
    simp only
    rw [show ((l.length : Int) - 1).toNat = l.length - 1 by omega, hc _ (by omega), h2]
  refine ⟨by unfold wrapL; simp, fun i hi => ?_, by unfold wrapL at hf ⊢; simpa using hf⟩
  by_cases hil : i < l.length
  · rw [show atN (wrapL kind 0 0 l) i = atN l i from atN_left hil]
    exact (okN_congr (fun j hj => atN_left (by omega)) _).2 (h1 i hil)
  · obtain rfl : i = l.length := by unfold wrapL at hi; simp at hi; omega
    rw [hlast]
    refine ⟨?_, .inr (.inr (.inr (.inl ⟨hk, by simp only; omega, rfl⟩)))⟩
    unfold backN; rcases hk with h | h | h <;> simp [h]
/-- A whole of two parts. -/
theorem pair_at {l m : List Nd} {kind : Int} : (∀ j, j < l.length → atN (pairL kind l m) j = atN l j) ∧ (∀ j, j < m.length → atN (pairL kind l m) (l.length + j) = mvN l.length (atN m j)) ∧ atN (pairL kind l m) (l.length + m.length) = { kind := kind, a := (l.length : Int) - 1, b := (l.length : Int) + (m.length : Int) - 1 } := by
  unfold pairL
  refine ⟨fun j hj => ?_, fun j hj => ?_, ?_⟩
  · rw [atN_left (by simp; omega), atN_left hj]
  · rw [atN_left (by simp; omega), atN_right (by omega), Nat.add_sub_cancel_left, atN_map hj]
  · rw [atN_right (by simp)]; simp [atN]
theorem pair_first {l m : List Nd} (hm : Form m) {kind : Int} : (∀ j, j < m.length → firstP (pairL kind l m) (l.length + j) = l.length + firstP m j) ∧ ∀ j, j < m.length → okN (pairL kind l m) (l.length + j) (atN (pairL kind l m) (l.length + j)) := by
  have hat : ∀ j, 0 ≤ j → j ≤ m.length - 1 → 0 ≤ (j : Int) + (l.length : Int) ∧ atN (pairL kind l m) ((j : Int) + (l.length : Int)).toNat = mvN (l.length : Int) (atN m j) := by
    intro j _ hj
    refine ⟨by omega, ?_⟩
    have := hm.1
    rw [← (pair_at (l := l) (m := m) (kind := kind)).2.1 j (by omega)]
    congr 1; omega
  have hok : ∀ j, 0 ≤ j → j ≤ m.length - 1 → okN m j (atN m j) ∧ 0 ≤ firstP m j := fun j _ hj => by
    have := hm.1
    exact ⟨hm.2.1 j (by omega), Nat.zero_le _⟩
  constructor
  · intro j hj
    have := first_moved hat hok j (Nat.zero_le _) (by omega)
    rw [show ((j : Int) + (l.length : Int)).toNat = l.length + j by omega] at this
    omega
  · intro j hj
    have := ok_moved hat hok j (Nat.zero_le _) (by omega)
    rw [show ((j : Int) + (l.length : Int)).toNat = l.length + j by omega] at this
    exact this
theorem pair_form {l m : List Nd} (hl : Form l) (hm : Form m) {kind : Int} (hk : kind = 4 ∨ kind = 5) : Form (pairL kind l m) := by
  obtain ⟨p1, p2, p3⟩ := pair_at (l := l) (m := m) (kind := kind)
  obtain ⟨f1, f2⟩ := pair_first (l := l) hm (kind := kind)
  have h0 := hl.1; have h1 := hm.1
  have hlen : (pairL kind l m).length = l.length + m.length + 1 := by unfold pairL; simp; omega
  have hfb : firstP (pairL kind l m) (l.length + m.length - 1) = l.length := by
    have := f1 (m.length - 1) (by omega)
    rw [hm.2.2, show l.length + (m.length - 1) = l.length + m.length - 1 by omega] at this
    exact this
  have hfa : firstP (pairL kind l m) (l.length - 1) = 0 := by
    rw [firstP_congr (m := l) (fun j hj => p1 j (by omega)), hl.2.2]
  have hf : firstP (pairL kind l m) (l.length + m.length) = 0 := by
    rw [firstP_go (by rw [p3]; unfold partK; simp only; omega) (by rw [p3]; simp only; omega) (by rw [p3]; simp only; omega), p3]
    simp only
    rw [show ((l.length : Int) - 1).toNat = l.length - 1 by omega, hfa]
  refine ⟨by omega, fun i hi => ?_, by rw [hlen]; exact hf⟩
  by_cases hil : i < l.length
  · rw [p1 i hil]
    exact (okN_congr (fun j hj => p1 j (by omega)) _).2 (hl.2.1 i hil)
  · by_cases him : i < l.length + m.length
    · have := f2 (i - l.length) (by omega)
      rw [show l.length + (i - l.length) = i by omega] at this
      exact this
    · obtain rfl : i = l.length + m.length := by omega
      rw [p3]
      refine ⟨by unfold backN; rcases hk with h | h <;> simp [h], .inr (.inr (.inr (.inr (.inr ⟨hk, ⟨by simp only; omega, by simp only; omega⟩, by simp only; omega, ?_⟩))))⟩
      simp only
      rw [show ((l.length : Int) + (m.length : Int) - 1).toNat = l.length + m.length - 1 by omega, hfb]
end Go.Proofs.Ytgabifebcfgngaa
/- The contracts of the document's answers for layer 1 (package scantlingref01). -/
namespace Go.Proofs.Ytgabifebcfgngaa
open Go Go.RowKit
set_option linter.unusedVariables false

/-! ### Has -/
/-! ### List -/
theorem ownsRow_below {w w' : World} {base : Nat} {e : TypeId} {size : Nat} {v : Value} {n : Nat} {xs : List Value} {B : Nat} (h : w.ownsRow base e size v n xs) (hb : Below B w w') (hlt : ∀ g cap, v = .slice (some ⟨g, 0, none⟩) n cap → g < B) : w'.ownsRow base e size v n xs := by
  obtain ⟨h1, h2⟩ := h
  refine ⟨h1, ?_⟩
  rcases h2 with h2 | ⟨g, cap, cur, rfl, hg, hh, r⟩
  · exact .inl h2
  · exact .inr ⟨g, cap, cur, rfl, hg, (hb.block g (hlt g cap rfl)).trans hh, r⟩
theorem ownsRow_lt {w : World} {base : Nat} {e : TypeId} {size : Nat} {v : Value} {n : Nat} {xs : List Value} (h : w.ownsRow base e size v n xs) : ∀ g cap, v = .slice (some ⟨g, 0, none⟩) n cap → g < w.heap.size := by
  intro g cap hv
  rcases h.2 with ⟨rfl, _⟩ | ⟨g', cap', cur, rfl, _, hh, _⟩
  · cases hv
  · cases hv
    rcases Nat.lt_or_ge g w.heap.size with l | l
    · exact l
    · rw [Array.getElem?_eq_none l] at hh; cases hh
theorem ownsRow_later {w w' : World} {base : Nat} {e : TypeId} {size : Nat} {v : Value} {n : Nat} {xs : List Value} (h : w.ownsRow base e size v n xs) (hb : Below w.heap.size w w') : w'.ownsRow base e size v n xs :=
  ownsRow_below h hb (ownsRow_lt h)
/-! ### Of -/
/-! ### Not, Join, Both -/
section
variable {w w' : World} {g : Nat} {f : Nat → Bool}
end
/-! ### Least -/
/-! ### Row -/
end Go.Proofs.Ytgabifebcfgngaa
/- Rows of tokens in memory. -/
namespace Go.Proofs.Ytgabifebcfgngaa
open Go Go.RowKit
set_option linter.unusedVariables false

end Go.Proofs.Ytgabifebcfgngaa
/- Tokens: the same, or not. -/
namespace Go.Proofs.Ytgabifebcfgngaa
open Go Go.RowKit
set_option linter.unusedVariables false
set_option linter.unusedSimpArgs false

theorem equalIn_cls (d : Nat) (x y : BitVec 256) (w : World) : (Op.equalIn (d + 2) 46 (cls x) (cls y)).run Try.prog w = .ok (x == y) w := by
  obtain ⟨i, hi⟩ : ∃ i, Try.prog.info? 44 = some i := Option.isSome_iff_exists.1 (by kernel_rfl)
  have hc : Try.prog.cellsOf 44 = 1 := by kernel_rfl
  unfold cls
  rw [← beq_words]
  rw [show d + 2 = (d + 1) + 1 from rfl, run_equalIn_array w (d + 1) _ _ Try.underlying46 hi, hc]
  rw [show List.range 4 = [0, 1, 2, 3] from rfl]
  simp [Op.eqItems, part, go_sem, equalIn_u64 d]
  by_cases e0 : wd x 0 = wd y 0 <;> by_cases e1 : wd x 1 = wd y 1 <;> by_cases e2 : wd x 2 = wd y 2 <;> by_cases e3 : wd x 3 = wd y 3 <;> simp [e0, e1, e2, e3] <;> omega
theorem bs_beq (a b : List UInt8) : (bs a == bs b) = decide (a = b) := by
  rw [beq_toListBytes, Lib.toList_data, Lib.toList_data, bs_data, bs_data]
  rw [Bool.eq_iff_iff, beq_iff_eq, decide_eq_true_iff]
theorem equalIn_i64 (d : Nat) (a b : Int) (w : World) : (Op.equalIn (d + 1) 3 (.int .i64 a) (.int .i64 b)).run Try.prog w = .ok (a == b) w := by
  simp [Op.equalIn, go_sem]
theorem equalIn_str (d : Nat) (a b : ByteArray) (w : World) : (Op.equalIn (d + 1) 9 (.string a) (.string b)).run Try.prog w = .ok (a == b) w := by
  simp [Op.equalIn, go_sem]
end Go.Proofs.Ytgabifebcfgngaa
