/- Classes, split into parts: the parts of a list, by which bytes the classes tell apart. -/
import Derived.Test.YtgehepiphdphjaaDoorSortMath
import Derived.Test.YtgehepiphdphjaaDoorClassMath
import Derived.Test.YtgehepiphdphjaaDoorSplitLeast
namespace Go.Proofs.YtgehepiphdphjaaDoor
set_option linter.unusedVariables false

theorem bv_ext {s t : BitVec 256} (h : ∀ i, i < 256 → s.getLsbD i = t.getLsbD i) : s = t := BitVec.eq_of_getLsbD_eq fun n hn => h n hn
/-- The class of the bytes of which p says so. -/
def setB (p : Nat → Bool) : BitVec 256 := addL 0#256 ((List.range 256).filter p)
theorem setB_bit (p : Nat → Bool) (i : Nat) (hi : i < 256) : (setB p).getLsbD i = p i := by
  unfold setB
  rw [addL_bit _ _ _ hi]
  simp [List.mem_filter, List.mem_range, hi]

/-- Two bytes of one part. -/
def likeB (l : List (BitVec 256)) (c d : Nat) : Bool := l.all fun a => a.getLsbD c == a.getLsbD d
theorem like_iff {l : List (BitVec 256)} {c d : Nat} : likeB l c d = true ↔ ∀ a ∈ l, a.getLsbD c = a.getLsbD d := by
  unfold likeB; simp [List.all_eq_true]
theorem like_refl (l : List (BitVec 256)) (c : Nat) : likeB l c c = true := like_iff.2 fun _ _ => rfl
theorem like_symm {l : List (BitVec 256)} {c d : Nat} (h : likeB l c d = true) : likeB l d c = true := like_iff.2 fun a ha => (like_iff.1 h a ha).symm
theorem like_trans {l : List (BitVec 256)} {c d e : Nat} (h : likeB l c d = true) (k : likeB l d e = true) : likeB l c e = true := like_iff.2 fun a ha => (like_iff.1 h a ha).trans (like_iff.1 k a ha)
theorem like_append (l m : List (BitVec 256)) (c d : Nat) : likeB (l ++ m) c d = (likeB l c d && likeB m c d) := by unfold likeB; rw [List.all_append]

/-- The part of a byte. -/
def cellB (l : List (BitVec 256)) (c : Nat) : BitVec 256 := setB fun d => likeB l c d
theorem cell_bit (l : List (BitVec 256)) (c i : Nat) (hi : i < 256) : (cellB l c).getLsbD i = likeB l c i := setB_bit _ _ hi
theorem cell_like {l : List (BitVec 256)} {c d : Nat} (h : likeB l c d = true) : cellB l c = cellB l d := bv_ext fun i hi => by
  rw [cell_bit _ _ _ hi, cell_bit _ _ _ hi, Bool.eq_iff_iff]
  exact ⟨fun k => like_trans (like_symm h) k, fun k => like_trans h k⟩
theorem cell_self (l : List (BitVec 256)) (c : Nat) (hc : c < 256) : (cellB l c).getLsbD c = true := by rw [cell_bit _ _ _ hc]; exact like_refl l c
theorem nonzero_of {s : BitVec 256} {c : Nat} (h : s.getLsbD c = true) : s ≠ 0#256 := by rintro rfl; simp at h
theorem least_of_ne {s : BitVec 256} (h : s ≠ 0#256) : IsLeast s (lstB s) := by
  rcases least_or s with e | ⟨n, hn⟩
  · exact absurd e h
  · rw [lstB_of hn]; exact hn

/-- The bytes that are like none below them. -/
def headB (l : List (BitVec 256)) (c : Nat) : Bool := (List.range c).all fun d => !likeB l d c
def headsL (l : List (BitVec 256)) : List Nat := (List.range 256).filter (headB l)
def partsL (l : List (BitVec 256)) : List (BitVec 256) := (headsL l).map (cellB l)
theorem head_iff {l : List (BitVec 256)} {c : Nat} : headB l c = true ↔ ∀ d, d < c → likeB l d c = false := by
  unfold headB; simp [List.all_eq_true]
theorem lst_cell {l : List (BitVec 256)} {c : Nat} (hc : c < 256) (h : headB l c = true) : lstB (cellB l c) = c := by
  apply lstB_of
  refine ⟨hc, cell_self l c hc, fun j hj => ?_⟩
  rw [cell_bit _ _ _ (by omega)]
  have := head_iff.1 h j hj
  cases hh : likeB l c j with
  | false => rfl
  | true => rw [like_symm hh] at this; cases this
theorem head_lst {l : List (BitVec 256)} {c : Nat} (hc : c < 256) : headB l (lstB (cellB l c)) = true ∧ likeB l c (lstB (cellB l c)) = true ∧ lstB (cellB l c) < 256 := by
  have hl := least_of_ne (nonzero_of (cell_self l c hc))
  have hb := hl.has
  rw [cell_bit _ _ _ hl.lt] at hb
  refine ⟨head_iff.2 fun d hd => ?_, hb, hl.lt⟩
  have := hl.low d hd
  rw [cell_bit _ _ _ (by have := hl.lt; omega)] at this
  cases hh : likeB l d (lstB (cellB l c)) with
  | false => rfl
  | true => rw [like_trans hb (like_symm hh)] at this; cases this

/-- P has each part of l, once. -/
structure IsParts (P l : List (BitVec 256)) : Prop where
  of : ∀ p ∈ P, ∃ c, c < 256 ∧ p = cellB l c
  all : ∀ c, c < 256 → cellB l c ∈ P
  nodup : P.Nodup

theorem filter_one {α : Type} [DecidableEq α] (x : α) : ∀ (P : List α), P.Nodup → x ∈ P → (∀ f : α → Bool, (∀ y ∈ P, f y = true ↔ y = x) → P.filter f = [x])
  | [], _, h, _, _ => by simp at h
  | y :: P, hn, hm, f, hf => by
    rw [List.nodup_cons] at hn
    by_cases e : y = x
    · subst e
      rw [List.filter_cons_of_pos ((hf y (by simp)).2 rfl), List.filter_eq_nil_iff.2]
      intro z hz hfz
      have := (hf z (by simp [hz])).1 hfz
      subst this; exact hn.1 hz
    · rw [List.filter_cons_of_neg (by intro h; exact e ((hf y (by simp)).1 h))]
      exact filter_one x P hn.2 (by simpa [Ne.symm e] using hm) f fun z hz => hf z (by simp [hz])

theorem flatMap_filter {α : Type} (f : Nat → Bool) (g : Nat → α) : ∀ (l : List Nat), (l.flatMap fun c => if f c then [g c] else []) = (l.filter f).map g
  | [] => rfl
  | c :: l => by
    rw [List.flatMap_cons, flatMap_filter f g l]
    cases h : f c <;> simp [h]

theorem flatMap_same {α : Type} {f g : Nat → List α} : ∀ l : List Nat, (∀ x ∈ l, f x = g x) → l.flatMap f = l.flatMap g
  | [], _ => rfl
  | c :: l, h => by rw [List.flatMap_cons, List.flatMap_cons, h c (by simp), flatMap_same l fun x hx => h x (by simp [hx])]

theorem IsParts.bucket {P l : List (BitVec 256)} (h : IsParts P l) : Go.Proofs.YtgehepiphdphjaaDoor.bucket lstB 256 P = partsL l := by
  unfold Go.Proofs.YtgehepiphdphjaaDoor.bucket partsL headsL
  rw [← flatMap_filter]
  refine flatMap_same _ fun c hc => ?_
  rw [List.mem_range] at hc
  cases hh : headB l c with
  | true =>
    rw [if_pos rfl]
    refine filter_one (cellB l c) P h.nodup (h.all c hc) _ fun y hy => ?_
    rw [beq_iff_eq]
    obtain ⟨d, hd, rfl⟩ := h.of y hy
    constructor
    · intro e
      have := (head_lst (l := l) hd).2.1
      rw [e] at this
      exact cell_like this
    · intro e; rw [e]; exact lst_cell hc hh
  | false =>
    rw [if_neg (by simp), List.filter_eq_nil_iff]
    intro y hy
    obtain ⟨d, hd, rfl⟩ := h.of y hy
    rw [beq_iff_eq]
    intro e
    have := (head_lst (l := l) hd).1
    rw [e, hh] at this; cases this

theorem sum_ite (x : Nat) : ∀ K, ((List.range K).map fun c => if x = c then 1 else 0).sum = if x < K then 1 else 0
  | 0 => by simp
  | K + 1 => by
    rw [List.range_succ, List.map_append, List.sum_append, sum_ite x K]
    by_cases h : x < K
    · rw [if_pos h, if_pos (by omega)]; simp; omega
    · by_cases h2 : x = K
      · subst h2; simp
      · rw [if_neg h, if_neg (by omega)]; simp [h2]
theorem sum_add (f g : Nat → Nat) : ∀ l : List Nat, (l.map fun c => f c + g c).sum = (l.map f).sum + (l.map g).sum
  | [] => rfl
  | c :: l => by simp only [List.map_cons, List.sum_cons]; rw [sum_add f g l]; omega
theorem sum_zero : ∀ l : List Nat, (l.map fun _ => 0).sum = 0
  | [] => rfl
  | _ :: l => by simp only [List.map_cons, List.sum_cons]; rw [sum_zero l]
theorem length_bucket {α : Type} (k : α → Nat) (K : Nat) : ∀ l : List α, (∀ x ∈ l, k x < K) → (bucket k K l).length = l.length
  | [], _ => by unfold bucket; rw [List.length_flatMap]; simp only [List.filter_nil, List.length_nil]; exact sum_zero _
  | x :: l, h => by
    have ih := length_bucket k K l fun y hy => h y (by simp [hy])
    unfold bucket at ih ⊢
    rw [List.length_flatMap] at ih ⊢
    have e : (fun c => ((x :: l).filter fun x => k x == c).length) = fun c => (if k x = c then 1 else 0) + (l.filter fun x => k x == c).length := by
      funext c
      by_cases hc : k x = c
      · rw [List.filter_cons_of_pos (by simpa using hc), if_pos hc, List.length_cons]; omega
      · rw [List.filter_cons_of_neg (by simpa using hc), if_neg hc]; omega
    rw [e, sum_add, sum_ite, if_pos (h x (by simp)), ih, List.length_cons]; omega
theorem heads_le (l : List (BitVec 256)) : (headsL l).length ≤ 256 := by
  unfold headsL; exact Nat.le_trans (List.length_filter_le _ _) (by simp)
theorem IsParts.length {P l : List (BitVec 256)} (h : IsParts P l) : P.length = (headsL l).length := by
  have := congrArg List.length h.bucket
  rw [length_bucket _ _ _ fun x _ => lstB_lt x] at this
  rw [this]; unfold partsL; simp

/-! ### a class more -/
/-- Is p split by a? -/
def splits (a p : BitVec 256) : Bool := decide (p &&& a ≠ 0#256) && decide (p &&& a ≠ p)
def splitL (P : List (BitVec 256)) (a : BitVec 256) : List (BitVec 256) := (P.map fun p => if splits a p then p &&& a else p) ++ ((P.filter (splits a)).map fun p => p &&& ~~~a)

theorem cell_snoc (l : List (BitVec 256)) (a : BitVec 256) (c i : Nat) (hi : i < 256) : (cellB (l ++ [a]) c).getLsbD i = ((cellB l c).getLsbD i && (a.getLsbD c == a.getLsbD i)) := by
  rw [cell_bit _ _ _ hi, cell_bit _ _ _ hi, like_append]
  unfold likeB; simp
theorem cell_in {l : List (BitVec 256)} {a : BitVec 256} {c : Nat} (h : a.getLsbD c = true) : cellB (l ++ [a]) c = cellB l c &&& a := bv_ext fun i hi => by
  rw [cell_snoc _ _ _ _ hi, BitVec.getLsbD_and, h]; cases a.getLsbD i <;> simp
theorem cell_out {l : List (BitVec 256)} {a : BitVec 256} {c : Nat} (h : a.getLsbD c = false) : cellB (l ++ [a]) c = cellB l c &&& ~~~a := bv_ext fun i hi => by
  rw [cell_snoc _ _ _ _ hi, BitVec.getLsbD_and, BitVec.getLsbD_not, h]; cases a.getLsbD i <;> simp [hi]
theorem and_eq_self {p a : BitVec 256} : p &&& a = p ↔ ∀ i, i < 256 → p.getLsbD i = true → a.getLsbD i = true := by
  constructor
  · intro h i hi hp
    rw [← h, BitVec.getLsbD_and] at hp
    simp only [Bool.and_eq_true] at hp; exact hp.2
  · intro h
    refine bv_ext fun i hi => ?_
    rw [BitVec.getLsbD_and]
    cases hp : p.getLsbD i with
    | false => rfl
    | true => rw [h i hi hp]; rfl
theorem and_eq_zero {p a : BitVec 256} : p &&& a = 0#256 ↔ ∀ i, i < 256 → p.getLsbD i = true → a.getLsbD i = false := by
  constructor
  · intro h i hi hp
    have : (p &&& a).getLsbD i = false := by rw [h]; simp
    rw [BitVec.getLsbD_and, hp] at this; simpa using this
  · intro h
    refine bv_ext fun i hi => ?_
    rw [BitVec.getLsbD_and]
    cases hp : p.getLsbD i with
    | false => simp
    | true => rw [h i hi hp]; simp
theorem and_not_self {p a : BitVec 256} (h : p &&& a = 0#256) : p &&& ~~~a = p := and_eq_self.2 fun i hi hp => by
  rw [BitVec.getLsbD_not, and_eq_zero.1 h i hi hp]; simp [hi]
theorem ex_bit {s : BitVec 256} (h : s ≠ 0#256) : ∃ i, i < 256 ∧ s.getLsbD i = true := ⟨_, (least_of_ne h).lt, (least_of_ne h).has⟩
theorem and_not_ne {p a : BitVec 256} (h : p &&& a ≠ p) : p &&& ~~~a ≠ 0#256 := by
  intro e
  apply h
  refine and_eq_self.2 fun i hi hp => ?_
  have := and_eq_zero.1 e i hi hp
  rw [BitVec.getLsbD_not] at this
  simpa [hi] using this

theorem IsParts.split {P l : List (BitVec 256)} (h : IsParts P l) (a : BitVec 256) : IsParts (splitL P a) (l ++ [a]) := by
  have two : ∀ p ∈ P, ∀ q ∈ P, ∀ i, i < 256 → p.getLsbD i = true → q.getLsbD i = true → p = q := by
    intro p hp q hq i hi h1 h2
    obtain ⟨c, hc, rfl⟩ := h.of p hp
    obtain ⟨d, hd, rfl⟩ := h.of q hq
    rw [cell_bit _ _ _ hi] at h1 h2
    exact cell_like (like_trans h1 (like_symm h2))
  have nz : ∀ p ∈ P, p ≠ 0#256 := by
    intro p hp
    obtain ⟨c, hc, rfl⟩ := h.of p hp
    exact nonzero_of (cell_self l c hc)
  have sp : ∀ p, splits a p = true ↔ p &&& a ≠ 0#256 ∧ p &&& a ≠ p := fun p => by unfold splits; simp
  have inP : ∀ p ∈ P, ∀ c, c < 256 → p.getLsbD c = true → p = cellB l c := by
    intro p hp c hc hb
    exact two p hp _ (h.all c hc) c hc hb (cell_self l c hc)
  refine ⟨fun q hq => ?_, fun c hc => ?_, ?_⟩
  · unfold splitL at hq
    rw [List.mem_append, List.mem_map, List.mem_map] at hq
    rcases hq with ⟨p, hp, rfl⟩ | ⟨p, hp, rfl⟩
    · by_cases hs : splits a p = true
      · rw [if_pos hs]
        obtain ⟨i, hi, hb⟩ := ex_bit ((sp p).1 hs).1
        rw [BitVec.getLsbD_and, Bool.and_eq_true] at hb
        exact ⟨i, hi, by rw [cell_in hb.2, ← inP p hp i hi hb.1]⟩
      · rw [if_neg hs]
        obtain ⟨i, hi, hb⟩ := ex_bit (nz p hp)
        refine ⟨i, hi, ?_⟩
        cases ha : a.getLsbD i with
        | true =>
          rw [cell_in ha, ← inP p hp i hi hb]
          by_cases e : p &&& a = p
          · exact e.symm
          · exfalso; exact hs ((sp p).2 ⟨nonzero_of (c := i) (by rw [BitVec.getLsbD_and, hb, ha]; rfl), e⟩)
        | false =>
          rw [cell_out ha, ← inP p hp i hi hb]
          by_cases e : p &&& a = 0#256
          · exact (and_not_self e).symm
          · exfalso; exact hs ((sp p).2 ⟨e, fun e2 => by have := and_eq_self.1 e2 i hi hb; rw [ha] at this; cases this⟩)
    · rw [List.mem_filter] at hp
      obtain ⟨i, hi, hb⟩ := ex_bit (and_not_ne ((sp p).1 hp.2).2)
      rw [BitVec.getLsbD_and, BitVec.getLsbD_not, Bool.and_eq_true] at hb
      have ha : a.getLsbD i = false := by simpa [hi] using hb.2
      exact ⟨i, hi, by rw [cell_out ha, ← inP p hp.1 i hi hb.1]⟩
  · have hm := h.all c hc
    have hb := cell_self l c hc
    unfold splitL
    rw [List.mem_append, List.mem_map, List.mem_map]
    cases ha : a.getLsbD c with
    | true =>
      left
      refine ⟨_, hm, ?_⟩
      rw [cell_in ha]
      by_cases hs : splits a (cellB l c) = true
      · rw [if_pos hs]
      · rw [if_neg hs]
        by_cases e : cellB l c &&& a = cellB l c
        · exact e.symm
        · exfalso; exact hs ((sp _).2 ⟨nonzero_of (c := c) (by rw [BitVec.getLsbD_and, hb, ha]; rfl), e⟩)
    | false =>
      rw [cell_out ha]
      by_cases hs : splits a (cellB l c) = true
      · right; exact ⟨_, List.mem_filter.2 ⟨hm, hs⟩, rfl⟩
      · left
        refine ⟨_, hm, ?_⟩
        rw [if_neg hs]
        by_cases e : cellB l c &&& a = 0#256
        · exact (and_not_self e).symm
        · exfalso; exact hs ((sp _).2 ⟨e, fun e2 => by have := and_eq_self.1 e2 c hc hb; rw [ha] at this; cases this⟩)
  · unfold splitL
    rw [List.nodup_append]
    have sub1 : ∀ p i, (if splits a p then p &&& a else p).getLsbD i = true → p.getLsbD i = true := by
      intro p i hb
      by_cases hs : splits a p = true
      · rw [if_pos hs, BitVec.getLsbD_and, Bool.and_eq_true] at hb; exact hb.1
      · rw [if_neg hs] at hb; exact hb
    refine ⟨?_, ?_, ?_⟩
    · rw [List.Nodup, List.pairwise_map]
      refine h.nodup.imp_of_mem fun {p q} hp hq hne e => ?_
      have hn : (if splits a p then p &&& a else p) ≠ 0#256 := by
        by_cases hs : splits a p = true
        · rw [if_pos hs]; exact ((sp p).1 hs).1
        · rw [if_neg hs]; exact nz p hp
      obtain ⟨i, hi, hb⟩ := ex_bit hn
      exact hne (two p hp q hq i hi (sub1 p i hb) (sub1 q i (by rw [← e]; exact hb)))
    · rw [List.Nodup, List.pairwise_map]
      refine (h.nodup.filter (splits a)).imp_of_mem fun {p q} hp hq hne e => ?_
      rw [List.mem_filter] at hp hq
      obtain ⟨i, hi, hb⟩ := ex_bit (and_not_ne ((sp p).1 hp.2).2)
      have hb2 := hb
      rw [e] at hb2
      rw [BitVec.getLsbD_and, Bool.and_eq_true] at hb hb2
      exact hne (two p hp.1 q hq.1 i hi hb.1 hb2.1)
    · intro x hx y hy e
      subst e
      rw [List.mem_map] at hx hy
      obtain ⟨p, hp, rfl⟩ := hx
      obtain ⟨q, hq, e⟩ := hy
      rw [List.mem_filter] at hq
      obtain ⟨i, hi, hb⟩ := ex_bit (and_not_ne ((sp q).1 hq.2).2)
      have hb2 := hb
      rw [e] at hb2
      have hpi := sub1 p i hb2
      rw [BitVec.getLsbD_and, Bool.and_eq_true] at hb
      have hpq := two p hp q hq.1 i hi hpi hb.1
      subst hpq
      rw [if_pos hq.2, BitVec.getLsbD_and, Bool.and_eq_true] at hb2
      have := hb.2
      rw [BitVec.getLsbD_not, hb2.2] at this
      simp at this

theorem parts_none : IsParts [rowB 0 255] [] := by
  have e : ∀ c, cellB [] c = rowB 0 255 := fun c => bv_ext fun i hi => by
    rw [cell_bit _ _ _ hi, rowB_bit _ _ _ hi]; unfold likeB; simp; omega
  exact ⟨fun p hp => ⟨0, by omega, by simp at hp; rw [hp, e]⟩, fun c _ => by rw [e]; simp, by simp⟩

/-- Of 256 parts none can be split any more. -/
theorem parts_full {P l : List (BitVec 256)} (h : IsParts P l) (hl : P.length = 256) (m : List (BitVec 256)) : IsParts P (l ++ m) := by
  have hh := h.length
  rw [hl] at hh
  have all : ∀ c, c < 256 → headB l c = true := by
    intro c hc
    have : (List.range 256).filter (headB l) = List.range 256 := by
      apply List.Sublist.eq_of_length (List.filter_sublist)
      show (headsL l).length = _; rw [← hh]; simp
    have hm : c ∈ (List.range 256).filter (headB l) := by rw [this]; simpa using hc
    exact (List.mem_filter.1 hm).2
  have one : ∀ c d, c < 256 → d < 256 → likeB l c d = true → c = d := by
    intro c d hc hd hcd
    rcases Nat.lt_trichotomy c d with e | e | e
    · have := head_iff.1 (all d hd) c e; rw [hcd] at this; cases this
    · exact e
    · have := head_iff.1 (all c hc) d e; rw [like_symm hcd] at this; cases this
  have same : ∀ c, c < 256 → cellB (l ++ m) c = cellB l c := fun c hc => bv_ext fun i hi => by
    rw [cell_bit _ _ _ hi, cell_bit _ _ _ hi, like_append]
    cases e : likeB l c i with
    | false => rfl
    | true => rw [one c i hc hi e, like_refl]; rfl
  exact ⟨fun p hp => by obtain ⟨c, hc, e⟩ := h.of p hp; exact ⟨c, hc, by rw [same c hc]; exact e⟩, fun c hc => by rw [same c hc]; exact h.all c hc, h.nodup⟩
end Go.Proofs.YtgehepiphdphjaaDoor
