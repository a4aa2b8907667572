/- In how many ways nothing is read: the plain mathematics. -/
import Derived.Test.YtidoofdofdhjpaaM12
import Derived.Test.YtidoofdofdhjpaaM11
namespace Go.Proofs.Ytidoofdofdhjpaa
open Go
set_option linter.unusedVariables false
set_option linter.unusedSimpArgs false
def powW (a : Nat) (k : Int) : Nat := if k = 0 then 1 else a
def tmsW (a : Nat) (lo hi : Int) : Nat := min (powW a lo + (if lo < hi then powW a (lo + 1) else 0)) 2
def waysW (n : Nd) (S : List Nat) : Nat :=
 if n.kind = 1 then 1
 else if n.kind = 4 then min (partS S n.a * partS S n.b) 2
 else if n.kind = 5 then min (partS S n.a + partS S n.b) 2
 else if n.kind = 6 then min (1 + partS S n.a) 2
 else if n.kind = 7 then tmsW (partS S n.a) n.lo n.hi
 else 0
def wys (l : List Nd) : Nat -> List Nat
 | 0 => []
 | k + 1 => wys l k ++ [waysW (atN l k) (wys l k)]
def wyN (l : List Nd) (i : Nat) : Nat := waysW (atN l i) (wys l i)
theorem wys_length (l : List Nd) : ∀ k, (wys l k).length = k
 | 0 => rfl
 | k + 1 => by rw [wys, List.length_append, wys_length l k]; rfl
theorem wys_get (l : List Nd) : ∀ k j, j < k -> (wys l k).getD j 0 = wyN l j
 | 0, j, h => absurd h (Nat.not_lt_zero j)
 | k + 1, j, h => by
  rw [wys, List.getD_eq_getElem?_getD]
  rcases Nat.lt_or_ge j k with h1 | h1
  ·rw [List.getElem?_append_left (by rw [wys_length]; exact h1), <- List.getD_eq_getElem?_getD]; exact wys_get l k j h1
  ·rw [List.getElem?_append_right (by rw [wys_length]; exact h1), wys_length, show j = k by omega, Nat.sub_self]; rfl
theorem partW_at {l : List Nd} {i : Nat} {a : Int} (h0 : 0 <= a) (h1 : a < (i : Int)) : partS (wys l i) a = wyN l a.toNat := by
 unfold partS
 rw [wys_length, if_pos ⟨h0, h1⟩, wys_get l i _ (by omega)]
theorem partS_two {S : List Nat} (h : ∀ x ∈ S, x <= 2) (a : Int) : partS S a <= 2 := by
 unfold partS
 split
 ·rename_i hh
  rw [List.getD_eq_getElem?_getD, List.getElem?_eq_getElem (by omega)]
  exact h _ (List.getElem_mem _)
 ·exact Nat.zero_le _
theorem waysW_le (n : Nd) (S : List Nat) : waysW n S <= 2 := by
 unfold waysW tmsW
 (repeat' split) <;> first | exact Nat.min_le_right _ _ | omega
theorem wyN_le (l : List Nd) (i : Nat) : wyN l i <= 2 := waysW_le _ _
theorem wys_le (l : List Nd) : ∀ k, ∀ x ∈ wys l k, x <= 2
 | 0, x, h => by simp [wys] at h
 | k + 1, x, h => by
  rw [wys, List.mem_append] at h
  rcases h with h | h
  ·exact wys_le l k x h
  ·rw [List.mem_singleton.mp h]; exact waysW_le _ _
def leafW (n : Nd) : Nat := if n.kind = 1 then 1 else 0
theorem wyN_leaf {l : List Nd} {i : Nat} (hk : leafK (atN l i).kind) : wyN l i = leafW (atN l i) := by
 unfold wyN waysW leafW
 unfold leafK at hk
 rcases hk with hk | hk | hk <;> simp [hk]
def oneW (kind lo hi : Int) (a : Nat) : Nat := if kind = 6 then min (1 + a) 2 else if kind = 7 then tmsW a lo hi else 0
theorem wyN_one {l : List Nd} {i : Nat} (h : 0 < i) (hk : 6 <= (atN l i).kind /\ (atN l i).kind <= 9) (ha : (atN l i).a = (i : Int) - 1) : wyN l i = oneW (atN l i).kind (atN l i).lo (atN l i).hi (wyN l (i - 1)) := by
 unfold wyN waysW oneW
 rw [if_neg (by omega), if_neg (by omega), if_neg (by omega), partW_at (by omega) (by omega), show (atN l i).a.toNat = i - 1 by omega]; rfl
def twoW (kind : Int) (a b : Nat) : Nat := if kind = 4 then min (a * b) 2 else min (a + b) 2
theorem wyN_two {l : List Nd} {i p : Nat} (h : 0 < i) (hk : (atN l i).kind = 4 \/ (atN l i).kind = 5) (ha : (atN l i).a = (p : Int)) (hp : p < i) (hb : (atN l i).b = (i : Int) - 1) : wyN l i = twoW (atN l i).kind (wyN l p) (wyN l (i - 1)) := by
 unfold wyN waysW twoW
 rw [if_neg (by omega), partW_at (by omega) (by omega), partW_at (by omega) (by omega), show (atN l i).a.toNat = p by omega, show (atN l i).b.toNat = i - 1 by omega]
 rcases hk with hk | hk
 ·rw [if_pos hk, if_pos hk]; rfl
 ·rw [if_neg (by omega), if_pos hk, if_neg (by omega)]; rfl
theorem wys_congr {l m : List Nd} : ∀ {k : Nat}, (∀ j, j < k -> atN l j = atN m j) -> wys l k = wys m k
 | 0, _ => rfl
 | k + 1, h => by rw [wys, wys, wys_congr (k := k) (fun j hj => h j (by omega)), h k (by omega)]
theorem wyN_congr {l m : List Nd} {i : Nat} (h : ∀ j, j <= i -> atN l j = atN m j) : wyN l i = wyN m i := by
 unfold wyN
 rw [wys_congr (fun j hj => h j (by omega)), h i (Nat.le_refl i)]
def badW (l : List Nd) (i : Nat) : Bool := decide (((atN l i).kind = 6 \/ (atN l i).kind = 7) /\ partS (wys l l.length) (atN l i).a ≠ 0)
def fstW (l : List Nd) : Nat × Bool := match (List.range l.length).find? (badW l) with | some i => (i, true) | none => (0, false)
theorem fstW_some {l : List Nd} {i : Nat} (hi : i < l.length) (h : badW l i = true) (hn : ∀ j, j < i -> badW l j = false) : fstW l = (i, true) := by
 unfold fstW
 have : (List.range l.length).find? (badW l) = some i := by
  rw [List.find?_range_eq_some]
  exact ⟨h, List.mem_range.2 hi, fun j hj => by rw [hn j hj]; rfl⟩
 rw [this]
theorem fstW_none {l : List Nd} (hn : ∀ j, j < l.length -> badW l j = false) : fstW l = (0, false) := by
 unfold fstW
 have : (List.range l.length).find? (badW l) = none := by
  rw [List.find?_range_eq_none]
  exact fun j hj => by rw [hn j hj]; rfl
 rw [this]
theorem fstW_right (l : List Nd) : (fstW l).2 = false ↔ ∀ j, j < l.length -> badW l j = false := by
 constructor
 ·intro h
  unfold fstW at h
  cases hf : (List.range l.length).find? (badW l) with
  | some i => rw [hf] at h; cases h
  | none =>
   rw [List.find?_range_eq_none] at hf
   exact fun j hj => by simpa using hf j hj
 ·intro h; rw [fstW_none h]
def Rgt (l : List Nd) : Prop := Form l /\ ∀ i, i < l.length -> badW l i = false
theorem badW_form {l : List Nd} (h : Form l) {i : Nat} (hi : i < l.length) : badW l i = true ↔ ((atN l i).kind = 6 \/ (atN l i).kind = 7) /\ wyN l (i - 1) ≠ 0 := by
 unfold badW
 rw [decide_eq_true_iff]
 have hc := (h.2.1 i hi).cs rfl
 constructor
 ·rintro ⟨hk, hp⟩
  cases hc with
  | leaf hl hf => unfold leafK at hl; omega
  | two hl => omega
  | one hl h0 ha hb h7 hr hc hf =>
   rw [partW_at (by omega) (by omega), show (atN l i).a.toNat = i - 1 by omega] at hp
   exact ⟨hk, hp⟩
 ·rintro ⟨hk, hp⟩
  cases hc with
  | leaf hl hf => unfold leafK at hl; omega
  | two hl => omega
  | one hl h0 ha hb h7 hr hc hf =>
   rw [partW_at (by omega) (by omega), show (atN l i).a.toNat = i - 1 by omega]
   exact ⟨hk, hp⟩
theorem rgt_iff {l : List Nd} (h : Form l) : Rgt l ↔ ∀ i, i < l.length -> ((atN l i).kind = 6 \/ (atN l i).kind = 7) -> wyN l (i - 1) = 0 := by
 constructor
 ·intro hr i hi hk
  have h1 := hr.2 i hi
  by_cases hw : wyN l (i - 1) = 0
  ·exact hw
  ·have := (badW_form h hi).2 ⟨hk, hw⟩
   rw [h1] at this; cases this
 ·intro hr
  refine ⟨h, fun i hi => ?_⟩
  cases hb : badW l i with
  | false => rfl
  | true => obtain ⟨hk, hw⟩ := (badW_form h hi).1 hb; exact absurd (hr i hi hk) hw
theorem wrap_at {l : List Nd} {kind lo hi : Int} : (∀ j, j < l.length -> atN (wrapL kind lo hi l) j = atN l j) /\ atN (wrapL kind lo hi l) l.length = { kind := kind, a := (l.length : Int) - 1, lo := lo, hi := hi } := by
 refine ⟨fun j hj => by unfold wrapL; exact atN_left hj, ?_⟩
 unfold wrapL; rw [atN_right (Nat.le_refl _), Nat.sub_self]; rfl
theorem wyN_wrap {l : List Nd} {kind lo hi : Int} : (∀ j, j < l.length -> wyN (wrapL kind lo hi l) j = wyN l j) /\ (0 < l.length -> 6 <= kind /\ kind <= 9 -> wyN (wrapL kind lo hi l) l.length = oneW kind lo hi (wyN l (l.length - 1))) := by
 obtain ⟨h1, h2⟩ := wrap_at (l := l) (kind := kind) (lo := lo) (hi := hi)
 refine ⟨fun j hj => wyN_congr (fun k hk => h1 k (by omega)), fun h hk => ?_⟩
 rw [wyN_one h (by rw [h2]; exact hk) (by rw [h2]), h2]
 rw [wyN_congr (m := l) (fun j hj => h1 j (by omega))]
theorem rgt_wrap {l : List Nd} (h : Form l) {kind lo hi : Int} (hF : Form (wrapL kind lo hi l)) (hk : 6 <= kind /\ kind <= 9) : Rgt (wrapL kind lo hi l) ↔ Rgt l /\ ((kind = 6 \/ kind = 7) -> wyN l (l.length - 1) = 0) := by
 obtain ⟨h1, h2⟩ := wrap_at (l := l) (kind := kind) (lo := lo) (hi := hi)
 obtain ⟨w1, w2⟩ := wyN_wrap (l := l) (kind := kind) (lo := lo) (hi := hi)
 have hlen : (wrapL kind lo hi l).length = l.length + 1 := by unfold wrapL; rw [List.length_append]; rfl
 have hpos := h.1
 rw [rgt_iff hF, rgt_iff h, hlen]
 constructor
 ·intro hr
  refine ⟨fun i hi hki => ?_, fun hkk => ?_⟩
  ·have := hr i (by omega) (by rw [h1 i hi]; exact hki)
   by_cases h0 : i = 0
   ·subst h0; rwa [w1 _ (by omega)] at this
   ·rwa [w1 _ (by omega)] at this
  ·have := hr l.length (by omega) (by rw [h2]; exact hkk)
   rwa [w1 _ (by omega)] at this
 ·rintro ⟨hr, hkk⟩ i hi hki
  by_cases he : i = l.length
  ·subst he
   rw [h2] at hki
   rw [w1 _ (by omega)]
   exact hkk hki
  ·rw [h1 i (by omega)] at hki
   rw [w1 _ (by omega)]
   exact hr i (by omega) hki
def rsW (a : Nat) (lo : Int) : Nat -> Nat
 | 0 => 0
 | k + 1 => min 2 (rsW a lo k + powW a (lo + k))
theorem powW_step {a : Nat} (ha : a <= 2) {k : Nat} : min 2 (powW a (k : Int) * a) = powW a ((k + 1 : Nat) : Int) := by
 unfold powW
 rw [if_neg (show ¬ ((k + 1 : Nat) : Int) = 0 by omega)]
 have : a = 0 \/ a = 1 \/ a = 2 := by omega
 by_cases h : (k : Int) = 0
 ·rw [if_pos h]; omega
 ·rw [if_neg h]; rcases this with rfl | rfl | rfl <;> rfl
theorem powW_le {a : Nat} (ha : a <= 2) (k : Int) : powW a k <= 2 := by unfold powW; split <;> omega
theorem rsW_le (a : Nat) (lo : Int) (k : Nat) : rsW a lo k <= 2 := by
 cases k with
 | zero => exact Nat.zero_le _
 | succ k => exact Nat.min_le_left _ _
theorem rsW_more {a : Nat} (ha : a <= 2) {lo : Int} (hl : 0 <= lo) : ∀ k : Nat, rsW a lo (k + 2) = min (powW a lo + powW a (lo + 1)) 2
 | 0 => by
  have h1 := powW_le ha lo
  show min 2 (min 2 (0 + powW a (lo + ((0 : Nat) : Int))) + powW a (lo + ((1 : Nat) : Int))) = _
  have e0 : lo + ((0 : Nat) : Int) = lo := by omega
  have e1 : lo + ((1 : Nat) : Int) = lo + 1 := by omega
  rw [e0, e1]; omega
 | k + 1 => by
  rw [rsW, rsW_more ha hl k]
  unfold powW
  rw [if_neg (show ¬ lo + 1 = 0 by omega), if_neg (show ¬ lo + ((k + 2 : Nat) : Int) = 0 by omega)]
  split <;> omega
theorem rsW_all {a : Nat} (ha : a <= 2) {lo hi : Int} (hl : 0 <= lo) (h : lo <= hi) : rsW a lo (hi - lo + 1).toNat = tmsW a lo hi := by
 unfold tmsW
 by_cases he : lo < hi
 ·rw [if_pos he]
  obtain ⟨k, hk⟩ : ∃ k : Nat, hi = lo + 1 + k := ⟨(hi - lo - 1).toNat, by omega⟩
  rw [show (hi - lo + 1).toNat = k + 2 by omega, rsW_more ha hl]
 ·rw [if_neg he]
  rw [show (hi - lo + 1).toNat = 1 by omega]
  show min 2 (0 + powW a (lo + ((0 : Nat) : Int))) = _
  have e0 : lo + ((0 : Nat) : Int) = lo := by omega
  rw [e0]; omega
theorem flatMap_congr_mem {α β : Type} {L : List α} {f g : α -> List β} (h : ∀ x ∈ L, f x = g x) : L.flatMap f = L.flatMap g := by
 induction L with
 | nil => rfl
 | cons a t ih => rw [List.flatMap_cons, List.flatMap_cons, h a (List.mem_cons_self ..), ih fun x hx => h x (List.mem_cons_of_mem _ hx)]
structure HdF (l : List Nd) (x : Itm) : Prop where
 stop : x.kind = 5 -> x.node = 0 /\ x.hi = 0 /\ 0 <= x.lo /\ x.lo <= 65535
 node : x.kind ≠ 5 -> 0 <= x.node /\ x.node < (l.length : Int)
 kind : 1 <= x.kind /\ x.kind <= 5
 one : x.kind = 1 -> x.lo = 0 /\ x.hi = 0
 two : x.kind = 2 -> (atN l x.node.toNat).kind = 7 /\ 0 <= x.lo /\ x.lo <= x.hi /\ x.hi <= (atN l x.node.toNat).hi
 three : x.kind = 3 -> (atN l x.node.toNat).kind = 3 /\ x.hi = 0 /\ 0 <= x.lo /\ x.lo < ((atN l x.node.toNat).text.length : Int)
 four : x.kind = 4 -> (atN l x.node.toNat).kind = 9 /\ x.hi = 0 /\ 0 <= x.lo /\ x.lo <= 255
def rdyS (l : List Nd) : List Itm -> Bool
 | [] => true
 | x :: _ => decide (x.kind = 3) || decide (x.kind = 4) || (decide (x.kind = 1) && (decide ((atN l x.node.toNat).kind = 2) || decide ((atN l x.node.toNat).kind = 8) || decide ((atN l x.node.toNat).kind = 9)))
def opnS (l : List Nd) (x : Itm) (r : List Itm) : List (List Itm) :=
 let n := atN l x.node.toNat
 if x.kind = 5 then (if x.lo = 0 then [r] else [])
 else if x.kind = 2 then (if x.lo = 0 then [r] else []) ++ (if 0 < x.hi then [⟨1, n.a, 0, 0⟩ :: ⟨2, x.node, max 0 (x.lo - 1), x.hi - 1⟩ :: r] else [])
 else if n.kind = 1 then [r]
 else if n.kind = 3 then [⟨3, x.node, 0, 0⟩ :: r]
 else if n.kind = 4 then [⟨1, n.a, 0, 0⟩ :: ⟨1, n.b, 0, 0⟩ :: r]
 else if n.kind = 5 then [⟨1, n.a, 0, 0⟩ :: r, ⟨1, n.b, 0, 0⟩ :: r]
 else if n.kind = 6 then [r, ⟨1, n.a, 0, 0⟩ :: x :: r]
 else if n.kind = 7 then [⟨2, x.node, n.lo, n.hi⟩ :: r]
 else []
def hsz (l : List Nd) (i : Nat) : Nat := i + 1 - firstP l i
def csI (l : List Nd) (x : Itm) : Nat := if x.kind = 1 then 2 * hsz l x.node.toNat else if x.kind = 2 then 2 * hsz l x.node.toNat - 1 else if x.kind = 5 then 1 else 0
def nuI (l : List Nd) (x : Itm) : Bool := if x.kind = 1 then decide (wyN l x.node.toNat ≠ 0) else if x.kind = 2 \/ x.kind = 5 then decide (x.lo = 0) else false
def dpS (l : List Nd) : List Itm -> Nat
 | [] => 0
 | x :: r => csI l x + if nuI l x = true then dpS l r else 0
theorem hsz_pos (l : List Nd) (i : Nat) : 0 < hsz l i := by unfold hsz; have := firstP_le l i; omega
theorem dp_cons (l : List Nd) (x : Itm) (r : List Itm) : dpS l (x :: r) = csI l x + if nuI l x = true then dpS l r else 0 := rfl
theorem dp_node (l : List Nd) (i : Int) (r : List Itm) : dpS l (⟨1, i, 0, 0⟩ :: r) = 2 * hsz l i.toNat + if wyN l i.toNat ≠ 0 then dpS l r else 0 := by
 rw [dp_cons]
 unfold csI nuI
 simp only [if_true, decide_eq_true_eq]
theorem dp_times (l : List Nd) (i lo hi : Int) (r : List Itm) : dpS l (⟨2, i, lo, hi⟩ :: r) = 2 * hsz l i.toNat - 1 + if lo = 0 then dpS l r else 0 := by
 rw [dp_cons]
 unfold csI nuI
 simp
theorem dp_stop (l : List Nd) (i lo hi : Int) (r : List Itm) : dpS l (⟨5, i, lo, hi⟩ :: r) = 1 + if lo = 0 then dpS l r else 0 := by
 rw [dp_cons]
 unfold csI nuI
 simp
theorem dp_text (l : List Nd) (i : Int) (r : List Itm) : dpS l (⟨3, i, 0, 0⟩ :: r) = 0 := by rw [dp_cons]; unfold csI nuI; simp
theorem hd_cs {l : List Nd} (hF : Form l) {i : Nat} (hi : i < l.length) : Cs l i (atN l i) := (hF.2.1 i hi).cs rfl
theorem hd_never {l : List Nd} (hR : Rgt l) {i : Nat} (hi : i < l.length) (hk : (atN l i).kind = 6 \/ (atN l i).kind = 7) : wyN l (atN l i).a.toNat = 0 /\ 0 <= (atN l i).a /\ (atN l i).a.toNat + 1 = i /\ hsz l i = hsz l (atN l i).a.toNat + 1 := by
 have h0 := (rgt_iff hR.1).1 hR i hi hk
 cases hd_cs hR.1 hi with
 | leaf h1 hf => unfold leafK at h1; omega
 | one h1 hi0 ha hb h7 hr hcl hf =>
  have e : (atN l i).a.toNat = i - 1 := by omega
  rw [e]
  have h2 := firstP_le l (i - 1)
  exact ⟨h0, by omega, by omega, by unfold hsz; omega⟩
 | two h1 hi0 hb ha hf0 hl hcl hf => omega
theorem opn_lt {l : List Nd} (hR : Rgt l) {x : Itm} (hx : HdF l x) {r t : List Itm} (hrd : rdyS l (x :: r) = false) (ht : t ∈ opnS l x r) : dpS l t < dpS l (x :: r) := by
 obtain ⟨k, nd, lo, hi⟩ := x
 have hkd := hx.kind
 simp only at hkd
 unfold opnS at ht
 simp only at ht
 by_cases k5 : k = 5
 ·rw [if_pos k5] at ht
  subst k5
  rw [dp_stop]
  by_cases h0 : lo = 0
  ·rw [if_pos h0] at ht ⊢; rw [List.mem_singleton.1 ht]; omega
  ·rw [if_neg h0] at ht; cases ht
 ·rw [if_neg k5] at ht
  obtain ⟨n0, n1⟩ := hx.node k5
  simp only at n0 n1
  obtain ⟨i, rfl⟩ : ∃ i : Nat, nd = (i : Int) := ⟨nd.toNat, by omega⟩
  rw [Int.toNat_natCast] at ht
  have hil : i < l.length := by omega
  by_cases k2 : k = 2
  ·rw [if_pos k2] at ht
   subst k2
   obtain ⟨t7, -, -, -⟩ := hx.two rfl
   simp only [Int.toNat_natCast] at t7
   obtain ⟨m0, m1, m2, m3⟩ := hd_never hR hil (.inr t7)
   rw [dp_times, Int.toNat_natCast]
   have hp := hsz_pos l (atN l i).a.toNat
   rcases List.mem_append.1 ht with h | h
   ·by_cases h0 : lo = 0
    ·rw [if_pos h0] at h ⊢; rw [List.mem_singleton.1 h]; omega
    ·rw [if_neg h0] at h; cases h
   ·by_cases h0 : 0 < hi
    ·rw [if_pos h0] at h; rw [List.mem_singleton.1 h, dp_node, if_neg (by omega)]; omega
    ·rw [if_neg h0] at h; cases h
  ·rw [if_neg k2] at ht
   by_cases k1 : k = 1
   ·subst k1
    obtain ⟨l0, l1⟩ := hx.one rfl
    simp only at l0 l1
    subst l0; subst l1
    rw [dp_node, Int.toNat_natCast]
    have hp := hsz_pos l i
    cases hc : hd_cs hR.1 hil with
    | leaf h1 hf =>
     unfold leafK at h1
     have hw := wyN_leaf (l := l) (i := i) h1
     unfold leafW at hw
     by_cases a1 : (atN l i).kind = 1
     ·rw [if_pos a1] at ht hw; rw [List.mem_singleton.1 ht, if_pos (by omega)]; omega
     ·rw [if_neg a1] at ht
      by_cases a3 : (atN l i).kind = 3
      ·rw [if_pos a3] at ht; rw [List.mem_singleton.1 ht, dp_text]; omega
      ·rw [if_neg a3, if_neg (by omega), if_neg (by omega), if_neg (by omega), if_neg (by omega)] at ht; cases ht
    | one h1 hi0 ha hb h7 hr hcl hf =>
     have hw := wyN_one hi0 h1 ha
     rw [if_neg (by omega), if_neg (by omega), if_neg (by omega), if_neg (by omega)] at ht
     by_cases a6 : (atN l i).kind = 6
     ·rw [if_pos a6] at ht
      obtain ⟨m0, m1, m2, m3⟩ := hd_never hR hil (.inl a6)
      have hw1 : wyN l i ≠ 0 := by rw [hw]; unfold oneW; rw [if_pos a6]; omega
      rw [if_pos hw1]
      rcases List.mem_cons.1 ht with h | h
      ·rw [h]; omega
      ·rw [List.mem_singleton.1 h, dp_node, if_neg (by omega)]; omega
     ·rw [if_neg a6] at ht
      by_cases a7 : (atN l i).kind = 7
      ·rw [if_pos a7] at ht
       rw [List.mem_singleton.1 ht, dp_times, Int.toNat_natCast]
       by_cases h0 : (atN l i).lo = 0
       ·have hw1 : wyN l i ≠ 0 := by
         rw [hw]; unfold oneW; rw [if_neg a6, if_pos a7]; unfold tmsW powW; rw [if_pos h0]; omega
        rw [if_pos h0, if_pos hw1]; omega
       ·rw [if_neg h0]; omega
      ·rw [if_neg a7] at ht; cases ht
    | two h1 hi0 hb ha hf0 hl hcl hf =>
     obtain ⟨p, hp2⟩ : ∃ p : Nat, (atN l i).a = (p : Int) := ⟨(atN l i).a.toNat, by omega⟩
     have hfl := firstP_le l (i - 1)
     have hpi : p + 1 = firstP l (i - 1) := by omega
     have hw := wyN_two hi0 h1 hp2 (by omega) hb
     have hfp : firstP l i = firstP l p := by rw [hf]; congr 1; omega
     have hfq := firstP_le l p
     have hsz : hsz l i = hsz l p + hsz l (i - 1) + 1 := by unfold hsz; omega
     have hbn : (atN l i).b.toNat = i - 1 := by omega
     rw [if_neg (by omega), if_neg (by omega)] at ht
     rcases h1 with a4 | a5
     ·rw [if_pos a4] at ht
      rw [List.mem_singleton.1 ht, dp_node, dp_node, hp2, Int.toNat_natCast, hbn]
      unfold twoW at hw
      rw [if_pos a4] at hw
      by_cases g0 : wyN l p = 0
      ·rw [if_neg (by omega)]; omega
      ·rw [if_pos g0]
       by_cases g1 : wyN l (i - 1) = 0
       ·rw [if_neg (by omega)]; omega
       ·have : 0 < wyN l p * wyN l (i - 1) := Nat.mul_pos (by omega) (by omega)
        rw [if_pos g1, if_pos (by omega)]; omega
     ·rw [if_neg (by omega), if_pos a5] at ht
      unfold twoW at hw
      rw [if_neg (by omega)] at hw
      rcases List.mem_cons.1 ht with h | h
      ·rw [h, dp_node, hp2, Int.toNat_natCast]
       by_cases g0 : wyN l p = 0
       ·rw [if_neg (by omega)]; omega
       ·rw [if_pos g0, if_pos (by omega)]; omega
      ·rw [List.mem_singleton.1 h, dp_node, hbn]
       by_cases g0 : wyN l (i - 1) = 0
       ·rw [if_neg (by omega)]; omega
       ·rw [if_pos g0, if_pos (by omega)]; omega
   ·exfalso
    unfold rdyS at hrd
    simp only [Bool.or_eq_false_iff, decide_eq_false_iff_not] at hrd
    omega
theorem opn_form {l : List Nd} (hF : Form l) {x : Itm} {r : List Itm} (hx : HdF l x) (hr : ∀ y ∈ r, HdF l y) {t : List Itm} (ht : t ∈ opnS l x r) : ∀ y ∈ t, HdF l y := by
 have one : ∀ a : Int, 0 <= a -> a < (l.length : Int) -> HdF l ⟨1, a, 0, 0⟩ := fun a h1 h2 => ⟨fun h => by simp at h, fun _ => ⟨h1, h2⟩, ⟨by simp, by simp⟩, fun _ => ⟨rfl, rfl⟩, fun h => by simp at h, fun h => by simp at h, fun h => by simp at h⟩
 have cons : ∀ (a : Itm) (s : List Itm), HdF l a -> (∀ y ∈ s, HdF l y) -> ∀ y ∈ a :: s, HdF l y := fun a s h1 h2 y hy => by
  rcases List.mem_cons.1 hy with rfl | h
  ·exact h1
  ·exact h2 y h
 unfold opnS at ht
 simp only at ht
 by_cases k5 : x.kind = 5
 ·rw [if_pos k5] at ht
  split at ht
  ·rw [List.mem_singleton.1 ht]; exact hr
  ·cases ht
 ·rw [if_neg k5] at ht
  obtain ⟨n0, n1⟩ := hx.node k5
  have hil : x.node.toNat < l.length := by omega
  have kids : (4 <= (atN l x.node.toNat).kind -> 0 <= (atN l x.node.toNat).a /\ (atN l x.node.toNat).a < (l.length : Int)) /\ ((atN l x.node.toNat).kind = 4 \/ (atN l x.node.toNat).kind = 5 -> 0 <= (atN l x.node.toNat).b /\ (atN l x.node.toNat).b < (l.length : Int)) /\ ((atN l x.node.toNat).kind = 7 -> 0 <= (atN l x.node.toNat).lo /\ (atN l x.node.toNat).lo <= (atN l x.node.toNat).hi) := by
   have hfl := firstP_le l (x.node.toNat - 1)
   cases hd_cs hF hil with
   | leaf h1 hf => unfold leafK at h1; exact ⟨fun h => by omega, fun h => by omega, fun h => by omega⟩
   | one h1 hi0 ha hb h7 hr hcl hf => exact ⟨fun h => by omega, fun h => by omega, fun h => by have := hr h; omega⟩
   | two h1 hi0 hb ha hf0 hl hcl hf => exact ⟨fun h => by omega, fun h => by omega, fun h => by omega⟩
  by_cases k2 : x.kind = 2
  ·rw [if_pos k2] at ht
   obtain ⟨t7, t1, t2, t3⟩ := hx.two k2
   rcases List.mem_append.1 ht with h | h
   ·split at h
    ·rw [List.mem_singleton.1 h]; exact hr
    ·cases h
   ·split at h
    ·rename_i h0
     rw [List.mem_singleton.1 h]
     have ka := kids.1 (by omega)
     refine cons _ _ (one _ ka.1 ka.2) (cons _ _ ⟨fun h => by simp at h, fun _ => ⟨n0, n1⟩, ⟨by simp, by simp⟩, fun h => by simp at h, fun _ => ⟨t7, ?_, ?_, ?_⟩, fun h => by simp at h, fun h => by simp at h⟩ hr)
     ·simp only; omega
     ·simp only; omega
     ·simp only; omega
    ·cases h
  ·rw [if_neg k2] at ht
   split at ht
   ·rw [List.mem_singleton.1 ht]; exact hr
   ·split at ht
    ·rename_i k3
     rw [List.mem_singleton.1 ht]
     have h9 : 0 < (atN l x.node.toNat).text.length := by
      obtain ⟨-, hk⟩ := hF.2.1 _ hil
      rcases hk with h | h | ⟨-, h9⟩ | ⟨h, -⟩ | ⟨h, -⟩ | ⟨h, -⟩
      ·omega
      ·omega
      ·unfold textOk at h9
       rw [Bool.and_eq_true, Bool.and_eq_true, decide_eq_true_iff] at h9
       exact List.length_pos_iff.2 h9.1.1
      ·omega
      ·omega
      ·omega
     exact cons _ _ ⟨fun h => by simp at h, fun _ => ⟨n0, n1⟩, ⟨by simp, by simp⟩, fun h => by simp at h, fun h => by simp at h, fun _ => ⟨k3, rfl, Int.le_refl _, by simp only; omega⟩, fun h => by simp at h⟩ hr
    ·split at ht
     ·rename_i k4
      rw [List.mem_singleton.1 ht]
      have ka := kids.1 (by omega)
      have kb := kids.2.1 (.inl k4)
      exact cons _ _ (one _ ka.1 ka.2) (cons _ _ (one _ kb.1 kb.2) hr)
     ·split at ht
      ·rename_i k5
       have ka := kids.1 (by omega)
       have kb := kids.2.1 (.inr k5)
       rcases List.mem_cons.1 ht with h | h
       ·rw [h]; exact cons _ _ (one _ ka.1 ka.2) hr
       ·rw [List.mem_singleton.1 h]; exact cons _ _ (one _ kb.1 kb.2) hr
      ·split at ht
       ·rename_i k6
        have ka := kids.1 (by omega)
        rcases List.mem_cons.1 ht with h | h
        ·rw [h]; exact hr
        ·rw [List.mem_singleton.1 h]; exact cons _ _ (one _ ka.1 ka.2) (cons _ _ hx hr)
       ·split at ht
        ·rename_i k7
         rw [List.mem_singleton.1 ht]
         have kr := kids.2.2 k7
         exact cons _ _ ⟨fun h => by simp at h, fun _ => ⟨n0, n1⟩, ⟨by simp, by simp⟩, fun h => by simp at h, fun _ => ⟨k7, kr.1, kr.2, Int.le_refl _⟩, fun h => by simp at h, fun h => by simp at h⟩ hr
        ·cases ht
def rchF (l : List Nd) : Nat -> List Itm -> List (List Itm)
 | _, [] => [[]]
 | 0, x :: r => if rdyS l (x :: r) = true then [x :: r] else []
 | f + 1, x :: r => if rdyS l (x :: r) = true then [x :: r] else (opnS l x r).flatMap (rchF l f)
def rchS (l : List Nd) (s : List Itm) : List (List Itm) := rchF l (dpS l s) s
theorem rch_more {l : List Nd} (hR : Rgt l) : ∀ (f g : Nat) (s : List Itm), (∀ y ∈ s, HdF l y) -> dpS l s <= f -> dpS l s <= g -> rchF l f s = rchF l g s := fun f => by
 induction f with
 | zero =>
  intro g s hs h1 h2
  cases s with
  | nil => cases g <;> rfl
  | cons x r =>
   have hrd : rdyS l (x :: r) = true \/ (opnS l x r) = [] := by
    cases hd : rdyS l (x :: r) with
    | true => exact .inl rfl
    | false =>
     right
     refine List.eq_nil_iff_forall_not_mem.2 fun t ht => ?_
     have := opn_lt hR (hs x (List.mem_cons_self ..)) hd ht
     omega
   cases g with
   | zero => rfl
   | succ g =>
    unfold rchF
    rcases hrd with h | h
    ·rw [if_pos h, if_pos h]
    ·rw [h]; rfl
 | succ f ih =>
  intro g s hs h1 h2
  cases s with
  | nil => cases g <;> rfl
  | cons x r =>
   cases hd : rdyS l (x :: r) with
   | true => cases g <;> (unfold rchF; rw [if_pos hd, if_pos hd])
   | false =>
    have hx := hs x (List.mem_cons_self ..)
    have hr : ∀ y ∈ r, HdF l y := fun y hy => hs y (List.mem_cons_of_mem _ hy)
    have hne : rdyS l (x :: r) ≠ true := by rw [hd]; simp
    cases g with
    | zero =>
     have : opnS l x r = [] := List.eq_nil_iff_forall_not_mem.2 fun t ht => by
      have := opn_lt hR hx hd ht
      omega
     unfold rchF
     rw [if_neg hne, if_neg hne, this]; rfl
    | succ g =>
     unfold rchF
     rw [if_neg hne, if_neg hne]
     refine flatMap_congr_mem fun t ht => ?_
     have hlt := opn_lt hR hx hd ht
     exact ih g t (opn_form hR.1 hx hr ht) (by omega) (by omega)
theorem rch_ready {l : List Nd} {s : List Itm} (h : rdyS l s = true) : rchS l s = [s] := by
 unfold rchS
 cases s with
 | nil => cases dpS l [] <;> rfl
 | cons x r => cases dpS l (x :: r) <;> (unfold rchF; rw [if_pos h])
theorem rch_open {l : List Nd} (hR : Rgt l) {x : Itm} {r : List Itm} (hs : ∀ y ∈ x :: r, HdF l y) (h : rdyS l (x :: r) = false) : rchS l (x :: r) = (opnS l x r).flatMap (rchS l) := by
 have hx := hs x (List.mem_cons_self ..)
 have hr : ∀ y ∈ r, HdF l y := fun y hy => hs y (List.mem_cons_of_mem _ hy)
 have hne : rdyS l (x :: r) ≠ true := by rw [h]; simp
 have e : rchS l (x :: r) = rchF l (dpS l (x :: r) + 1) (x :: r) := rch_more hR _ _ _ hs (Nat.le_refl _) (by omega)
 rw [e]
 unfold rchF
 rw [if_neg hne]
 refine flatMap_congr_mem fun t ht => ?_
 have hlt := opn_lt hR hx h ht
 exact rch_more hR _ _ _ (opn_form hR.1 hx hr ht) (by omega) (Nat.le_refl _)
abbrev Brs := List (List Itm × Nat)
def addB : Brs -> List Itm -> Nat -> Brs
 | [], s, m => [(s, m)]
 | (t, k) :: L, s, m => if s = t then (s, min 2 (k + m)) :: L else if stC s t = -1 then (s, m) :: (t, k) :: L else (t, k) :: addB L s m
def mnyB : Brs -> List Itm -> Nat
 | [], _ => 0
 | (t, k) :: L, s => if s = t then k else mnyB L s
def HdSrt (L : Brs) : Prop := L.Pairwise fun a b => stC a.1 b.1 = -1
def PosB (L : Brs) : Prop := ∀ a ∈ L, 1 <= a.2 /\ a.2 <= 2
theorem mny_low {s : List Itm} : ∀ {L : Brs}, (∀ a ∈ L, stC s a.1 = -1) -> mnyB L s = 0
 | [], _ => rfl
 | (t, k) :: L, h => by
  have h1 := h (t, k) (List.mem_cons_self ..)
  simp only at h1
  unfold mnyB
  rw [if_neg (fun e => by rw [e, stC_self] at h1; omega)]
  exact mny_low fun a ha => h a (List.mem_cons_of_mem _ ha)
theorem stC_up {s t : List Itm} (h : s ≠ t) (k : stC s t ≠ -1) : stC t s = -1 := by
 have h0 : stC s t ≠ 0 := fun e => h ((stC_zero s t).1 e)
 have := stC_neg t s
 rcases stC_three s t with h1 | h1 | h1
 ·exact absurd h1 k
 ·exact absurd h1 h0
 ·omega
theorem mny_add {s : List Itm} {m : Nat} (hm : m <= 2) : ∀ {L : Brs}, HdSrt L -> ∀ t, mnyB (addB L s m) t = if t = s then min 2 (mnyB L s + m) else mnyB L t
 | [], _, t => by
  unfold addB mnyB
  by_cases e : t = s
  ·rw [if_pos e, if_pos e]; show m = min 2 (0 + m); omega
  ·rw [if_neg e, if_neg e]; rfl
 | (q, k) :: L, h, t => by
  obtain ⟨h1, h2⟩ := List.pairwise_cons.1 h
  unfold addB
  by_cases e : s = q
  ·subst e
   rw [if_pos rfl]
   by_cases et : t = s
   ·rw [if_pos et, et]
    show (if s = s then min 2 (k + m) else mnyB L s) = min 2 ((if s = s then k else mnyB L s) + m)
    rw [if_pos rfl, if_pos rfl]
   ·rw [if_neg et]
    show (if t = s then min 2 (k + m) else mnyB L t) = if t = s then k else mnyB L t
    rw [if_neg et, if_neg et]
  ·rw [if_neg e]
   by_cases hlt : stC s q = -1
   ·rw [if_pos hlt]
    have h0 : mnyB ((q, k) :: L) s = 0 := mny_low fun a ha => by
     rcases List.mem_cons.1 ha with rfl | h9
     ·exact hlt
     ·exact stC_trans hlt (h1 a h9)
    by_cases et : t = s
    ·rw [if_pos et, et, h0]
     show (if s = s then m else mnyB ((q, k) :: L) s) = _
     rw [if_pos rfl]; omega
    ·rw [if_neg et]
     show (if t = s then m else mnyB ((q, k) :: L) t) = _
     rw [if_neg et]
   ·rw [if_neg hlt]
    have ih := mny_add (s := s) hm h2 t
    show (if t = q then k else mnyB (addB L s m) t) = if t = s then min 2 ((if s = q then k else mnyB L s) + m) else if t = q then k else mnyB L t
    rw [ih, if_neg e]
    by_cases et : t = s
    ·rw [if_pos et, if_pos et, if_neg (by rw [et]; exact e)]
    ·rw [if_neg et, if_neg et]
theorem add_mem {s : List Itm} {m : Nat} : ∀ {L : Brs} {a : List Itm × Nat}, a ∈ addB L s m -> a.1 = s \/ ∃ b ∈ L, b.1 = a.1
 | [], a, h => by
  unfold addB at h
  rw [List.mem_singleton.1 h]; exact .inl rfl
 | (q, k) :: L, a, h => by
  unfold addB at h
  split at h
  ·rcases List.mem_cons.1 h with rfl | h9
   ·exact .inl rfl
   ·exact .inr ⟨a, List.mem_cons_of_mem _ h9, rfl⟩
  ·split at h
   ·rcases List.mem_cons.1 h with rfl | h9
    ·exact .inl rfl
    ·exact .inr ⟨a, h9, rfl⟩
   ·rcases List.mem_cons.1 h with rfl | h9
    ·exact .inr ⟨_, List.mem_cons_self .., rfl⟩
    ·rcases add_mem h9 with h8 | ⟨b, h8, h7⟩
     ·exact .inl h8
     ·exact .inr ⟨b, List.mem_cons_of_mem _ h8, h7⟩
theorem srt_add {s : List Itm} {m : Nat} : ∀ {L : Brs}, HdSrt L -> HdSrt (addB L s m)
 | [], _ => List.pairwise_singleton _ _
 | (q, k) :: L, h => by
  obtain ⟨h1, h2⟩ := List.pairwise_cons.1 h
  unfold addB
  by_cases e : s = q
  ·rw [if_pos e]
   exact List.pairwise_cons.2 ⟨fun b hb => by simp only; rw [e]; exact h1 b hb, h2⟩
  ·rw [if_neg e]
   by_cases hlt : stC s q = -1
   ·rw [if_pos hlt]
    refine List.pairwise_cons.2 ⟨fun b hb => ?_, h⟩
    rcases List.mem_cons.1 hb with rfl | h9
    ·exact hlt
    ·exact stC_trans hlt (h1 b h9)
   ·rw [if_neg hlt]
    refine List.pairwise_cons.2 ⟨fun b hb => ?_, srt_add h2⟩
    rcases add_mem hb with h9 | ⟨c, h8, h9⟩
    ·simp only; rw [h9]; exact stC_up e hlt
    ·rw [<- h9]; exact h1 c h8
theorem pos_add {s : List Itm} {m : Nat} (hm : 1 <= m) (hm2 : m <= 2) : ∀ {L : Brs}, PosB L -> PosB (addB L s m)
 | [], _ => fun a h => by
  unfold addB at h
  rw [List.mem_singleton.1 h]; exact ⟨hm, hm2⟩
 | (q, k) :: L, h => by
  have hk := h (q, k) (List.mem_cons_self ..)
  have hL : PosB L := fun a ha => h a (List.mem_cons_of_mem _ ha)
  intro a ha
  unfold addB at ha
  split at ha
  ·rcases List.mem_cons.1 ha with rfl | h9
   ·simp only at hk ⊢; omega
   ·exact hL a h9
  ·split at ha
   ·rcases List.mem_cons.1 ha with rfl | h9
    ·exact ⟨hm, hm2⟩
    ·exact h a h9
   ·rcases List.mem_cons.1 ha with rfl | h9
    ·exact hk
    ·exact pos_add hm hm2 hL a h9
theorem brs_ext : ∀ {L M : Brs}, HdSrt L -> HdSrt M -> PosB L -> PosB M -> (∀ t, mnyB L t = mnyB M t) -> L = M
 | [], [], _, _, _, _, _ => rfl
 | [], (q, k) :: M, _, _, _, hp, h => by
  have h1 := h q
  have h2 := hp (q, k) (List.mem_cons_self ..)
  unfold mnyB at h1
  rw [if_pos rfl] at h1
  simp only at h2; omega
 | (q, k) :: L, [], _, _, hp, _, h => by
  have h1 := h q
  have h2 := hp (q, k) (List.mem_cons_self ..)
  unfold mnyB at h1
  rw [if_pos rfl] at h1
  simp only at h2; omega
 | (p, j) :: L, (q, k) :: M, hs, ht, hp, hq, h => by
  obtain ⟨s1, s2⟩ := List.pairwise_cons.1 hs
  obtain ⟨t1, t2⟩ := List.pairwise_cons.1 ht
  have hj := hp (p, j) (List.mem_cons_self ..)
  have hk := hq (q, k) (List.mem_cons_self ..)
  simp only at hj hk
  have e : p = q := by
   by_cases e : p = q
   ·exact e
   ·exfalso
    by_cases hlt : stC p q = -1
    ·have h0 : mnyB ((q, k) :: M) p = 0 := mny_low fun a ha => by
      rcases List.mem_cons.1 ha with rfl | h9
      ·exact hlt
      ·exact stC_trans hlt (t1 a h9)
     have h1 := h p
     rw [h0] at h1
     unfold mnyB at h1
     rw [if_pos rfl] at h1; omega
    ·have hgt := stC_up e hlt
     have h0 : mnyB ((p, j) :: L) q = 0 := mny_low fun a ha => by
      rcases List.mem_cons.1 ha with rfl | h9
      ·exact hgt
      ·exact stC_trans hgt (s1 a h9)
     have h1 := h q
     rw [h0] at h1
     unfold mnyB at h1
     rw [if_pos rfl] at h1; omega
  subst e
  have hjk : j = k := by
   have h1 := h p
   unfold mnyB at h1
   rwa [if_pos rfl, if_pos rfl] at h1
  subst hjk
  have hrest : ∀ t, mnyB L t = mnyB M t := fun t => by
   by_cases et : t = p
   ·rw [et, mny_low s1, mny_low t1]
   ·have h1 := h t
    unfold mnyB at h1
    rwa [if_neg et, if_neg et] at h1
  rw [brs_ext s2 t2 (fun a ha => hp a (List.mem_cons_of_mem _ ha)) (fun a ha => hq a (List.mem_cons_of_mem _ ha)) hrest]
def brsF (L : Brs) (R : List (List Itm)) : Brs := R.foldl (fun L s => addB L s 1) L
theorem brs_all (R : List (List Itm)) : ∀ {L : Brs}, HdSrt L -> PosB L -> HdSrt (brsF L R) /\ PosB (brsF L R) /\ ∀ t, mnyB (brsF L R) t = if R.count t = 0 then mnyB L t else min 2 (mnyB L t + R.count t) := by
 induction R with
 | nil => intro L h1 h2; exact ⟨h1, h2, fun t => rfl⟩
 | cons s R ih =>
  intro L h1 h2
  obtain ⟨k1, k2, k3⟩ := ih (srt_add (s := s) (m := 1) h1) (pos_add (s := s) (Nat.le_refl 1) (by omega) h2)
  refine ⟨k1, k2, fun t => ?_⟩
  have e : brsF L (s :: R) = brsF (addB L s 1) R := rfl
  rw [e, k3 t, mny_add (by omega) h1 t, List.count_cons]
  by_cases et : t = s
  ·subst et
   rw [if_pos rfl]
   simp only [beq_self_eq_true, if_true]
   by_cases h0 : R.count t = 0
   ·rw [if_pos h0, if_neg (by omega), h0]
   ·rw [if_neg h0, if_neg (by omega)]; omega
  ·rw [if_neg et]
   have : (s == t) = false := by rw [beq_eq_false_iff_ne]; exact fun h => et h.symm
   rw [this]
   simp
def hdsL (l : List Nd) (s : List Itm) : Brs := brsF [] (rchS l s)
theorem hds_srt (l : List Nd) (s : List Itm) : HdSrt (hdsL l s) := (brs_all (rchS l s) (L := []) List.Pairwise.nil (fun a h => by cases h)).1
theorem hds_pos (l : List Nd) (s : List Itm) : PosB (hdsL l s) := (brs_all (rchS l s) (L := []) List.Pairwise.nil (fun a h => by cases h)).2.1
theorem hds_mny (l : List Nd) (s t : List Itm) : mnyB (hdsL l s) t = min 2 ((rchS l s).count t) := by
 have := (brs_all (rchS l s) (L := []) List.Pairwise.nil (fun a h => by cases h)).2.2 t
 unfold hdsL
 rw [this]
 have h0 : mnyB [] t = 0 := rfl
 rw [h0]
 split <;> omega
def wyI (l : List Nd) (x : Itm) : Nat := if x.kind = 1 then wyN l x.node.toNat else if x.kind = 2 \/ x.kind = 5 then (if x.lo = 0 then 1 else 0) else 0
def wyS (l : List Nd) : List Itm -> Nat
 | [] => 1
 | x :: r => min 2 (wyI l x * wyS l r)
theorem wyS_le (l : List Nd) : ∀ s, wyS l s <= 2
 | [] => by unfold wyS; omega
 | x :: r => Nat.min_le_left _ _
theorem wyS_cons (l : List Nd) (x : Itm) (r : List Itm) : wyS l (x :: r) = min 2 (wyI l x * wyS l r) := rfl
theorem wyI_node (l : List Nd) (a : Int) : wyI l ⟨1, a, 0, 0⟩ = wyN l a.toNat := by unfold wyI; simp
theorem wyI_times (l : List Nd) (a lo hi : Int) : wyI l ⟨2, a, lo, hi⟩ = if lo = 0 then 1 else 0 := by unfold wyI; simp
theorem wyI_stop (l : List Nd) (a lo hi : Int) : wyI l ⟨5, a, lo, hi⟩ = if lo = 0 then 1 else 0 := by unfold wyI; simp
theorem wyI_text (l : List Nd) (a lo hi : Int) : wyI l ⟨3, a, lo, hi⟩ = 0 := by unfold wyI; simp
theorem small3 {a : Nat} (h : a <= 2) : a = 0 \/ a = 1 \/ a = 2 := by omega
theorem sat_seq {a b r : Nat} (ha : a <= 2) (hb : b <= 2) (hr : r <= 2) : min 2 (a * min 2 (b * r)) = min 2 (min (a * b) 2 * r) := by
 rcases small3 ha with rfl | rfl | rfl <;> rcases small3 hb with rfl | rfl | rfl <;> rcases small3 hr with rfl | rfl | rfl <;> rfl
theorem sat_or {a b r : Nat} (ha : a <= 2) (hb : b <= 2) (hr : r <= 2) : min 2 (min 2 (a * r) + min 2 (b * r)) = min 2 (min (a + b) 2 * r) := by
 rcases small3 ha with rfl | rfl | rfl <;> rcases small3 hb with rfl | rfl | rfl <;> rcases small3 hr with rfl | rfl | rfl <;> rfl
def sumO (l : List Nd) (T : List (List Itm)) : Nat := (T.map (wyS l)).sum
theorem opn_ways {l : List Nd} (hR : Rgt l) {x : Itm} (hx : HdF l x) {r : List Itm} (hrd : rdyS l (x :: r) = false) : min 2 (sumO l (opnS l x r)) = wyS l (x :: r) := by
 obtain ⟨k, nd, lo, hi⟩ := x
 have hkd := hx.kind
 simp only at hkd
 have hwr := wyS_le l r
 have hq0 : sumO l [] = 0 := rfl
 have hq1 : ∀ s, sumO l [s] = wyS l s := fun s => by unfold sumO; simp
 have hq2 : ∀ s t, sumO l [s, t] = wyS l s + wyS l t := fun s t => by unfold sumO; simp
 unfold opnS
 simp only
 by_cases k5 : k = 5
 ·subst k5
  rw [if_pos rfl, wyS_cons, wyI_stop]
  by_cases h0 : lo = 0
  ·rw [if_pos h0, if_pos h0, hq1]; omega
  ·rw [if_neg h0, if_neg h0, hq0]; omega
 ·rw [if_neg k5]
  obtain ⟨n0, n1⟩ := hx.node k5
  simp only at n0 n1
  obtain ⟨i, rfl⟩ : ∃ i : Nat, nd = (i : Int) := ⟨nd.toNat, by omega⟩
  rw [Int.toNat_natCast]
  have hil : i < l.length := by omega
  by_cases k2 : k = 2
  ·subst k2
   rw [if_pos rfl]
   obtain ⟨t7, -, -, -⟩ := hx.two rfl
   simp only [Int.toNat_natCast] at t7
   obtain ⟨m0, m1, m2, m3⟩ := hd_never hR hil (.inr t7)
   have hz : ∀ q : List Itm, wyS l (⟨1, (atN l i).a, 0, 0⟩ :: q) = 0 := fun q => by rw [wyS_cons, wyI_node, m0]; omega
   rw [wyS_cons, wyI_times]
   by_cases h0 : lo = 0
   ·rw [if_pos h0, if_pos h0]
    by_cases h1 : 0 < hi
    ·rw [if_pos h1]
     show min 2 (sumO l [r, _]) = _
     rw [hq2, hz]; omega
    ·rw [if_neg h1]
     show min 2 (sumO l [r]) = _
     rw [hq1]; omega
   ·rw [if_neg h0, if_neg h0]
    by_cases h1 : 0 < hi
    ·rw [if_pos h1]
     show min 2 (sumO l [_]) = _
     rw [hq1, hz]; omega
    ·rw [if_neg h1]
     show min 2 (sumO l []) = _
     rw [hq0]; omega
  ·rw [if_neg k2]
   by_cases k1 : k = 1
   ·subst k1
    obtain ⟨l0, l1⟩ := hx.one rfl
    simp only at l0 l1
    subst l0; subst l1
    have hnr : ¬ ((atN l i).kind = 2 \/ (atN l i).kind = 8 \/ (atN l i).kind = 9) := fun h => by
     unfold rdyS at hrd
     simp only [Int.toNat_natCast] at hrd
     rcases h with h | h | h <;> simp [h] at hrd
    rw [wyS_cons, wyI_node, Int.toNat_natCast]
    cases hd_cs hR.1 hil with
    | leaf h1 hf =>
     unfold leafK at h1
     have hw := wyN_leaf (l := l) (i := i) h1
     unfold leafW at hw
     by_cases a1 : (atN l i).kind = 1
     ·rw [if_pos a1] at hw ⊢; rw [hw, hq1]; omega
     ·rw [if_neg a1] at hw ⊢
      rw [if_pos (by omega), hw, hq1, wyS_cons, wyI_text]; omega
    | one h1 hi0 ha hb h7 hr hcl hf =>
     have hw := wyN_one hi0 h1 ha
     rw [if_neg (by omega), if_neg (by omega), if_neg (by omega), if_neg (by omega)]
     by_cases a6 : (atN l i).kind = 6
     ·rw [if_pos a6]
      obtain ⟨m0, m1, m2, m3⟩ := hd_never hR hil (.inl a6)
      have m0' : wyN l (i - 1) = 0 := by rw [show i - 1 = (atN l i).a.toNat by omega]; exact m0
      have hw1 : wyN l i = 1 := by rw [hw, m0']; unfold oneW; rw [if_pos a6]; rfl
      rw [hq2, wyS_cons, wyI_node, m0, hw1]; omega
     ·rw [if_neg a6]
      have a7 : (atN l i).kind = 7 := by omega
      rw [if_pos a7]
      obtain ⟨m0, m1, m2, m3⟩ := hd_never hR hil (.inr a7)
      have m0' : wyN l (i - 1) = 0 := by rw [show i - 1 = (atN l i).a.toNat by omega]; exact m0
      have hw1 : wyN l i = if (atN l i).lo = 0 then 1 else 0 := by
       have hlo := hr a7
       rw [hw, m0']; unfold oneW; rw [if_neg a6, if_pos a7]; unfold tmsW powW
       rw [if_neg (show ¬ (atN l i).lo + 1 = 0 by omega)]
       by_cases h0 : (atN l i).lo = 0
       ·rw [if_pos h0]; split <;> rfl
       ·rw [if_neg h0]; split <;> rfl
      rw [hq1, wyS_cons, wyI_times, hw1]
      omega
    | two h1 hi0 hb ha hf0 hl hcl hf =>
     obtain ⟨p, hp2⟩ : ∃ p : Nat, (atN l i).a = (p : Int) := ⟨(atN l i).a.toNat, by omega⟩
     have hfl := firstP_le l (i - 1)
     have hw := wyN_two hi0 h1 hp2 (by omega) hb
     have hbn : (atN l i).b.toNat = i - 1 := by omega
     have w1 := wyN_le l p
     have w2 := wyN_le l (i - 1)
     rw [if_neg (by omega), if_neg (by omega), hp2, hw]
     unfold twoW
     rcases h1 with a4 | a5
     ·rw [if_pos a4, if_pos a4, hq1, wyS_cons, wyS_cons, wyI_node, wyI_node, hbn, Int.toNat_natCast, <- sat_seq w1 w2 hwr]
      omega
     ·rw [if_neg (by omega), if_pos a5, if_neg (by omega), hq2, wyS_cons, wyS_cons, wyI_node, wyI_node, hbn, Int.toNat_natCast, sat_or w1 w2 hwr]
   ·exfalso
    unfold rdyS at hrd
    simp only [Bool.or_eq_false_iff, decide_eq_false_iff_not] at hrd
    omega
theorem rdy_ways {l : List Nd} (hR : Rgt l) {x : Itm} {r : List Itm} (hx : HdF l x) (h : rdyS l (x :: r) = true) : wyI l x = 0 := by
 unfold rdyS at h
 unfold wyI
 simp only [Bool.or_eq_true, Bool.and_eq_true, decide_eq_true_eq] at h
 rcases h with (h | h) | ⟨h1, h2⟩
 ·rw [if_neg (by omega), if_neg (by omega)]
 ·rw [if_neg (by omega), if_neg (by omega)]
 ·rw [if_pos h1]
  obtain ⟨n0, n1⟩ := hx.node (by omega)
  have hil : x.node.toNat < l.length := by omega
  generalize x.node.toNat = i at *
  cases hd_cs hR.1 hil with
  | leaf h3 hf => rw [wyN_leaf h3]; unfold leafW; rw [if_neg (by omega)]
  | one h3 hi0 ha hb h7 hr hcl hf =>
   rw [wyN_one hi0 h3 ha]; unfold oneW; rw [if_neg (by omega), if_neg (by omega)]
  | two h3 hi0 hb ha hf0 hl hcl hf => omega
theorem hsat_sum : ∀ (T : List (List Itm)) (f g : List Itm -> Nat), (∀ t ∈ T, min 2 (f t) = g t) -> min 2 ((T.map f).sum) = min 2 ((T.map g).sum)
 | [], f, g, _ => rfl
 | t :: T, f, g, h => by
  have h1 := h t (List.mem_cons_self ..)
  have h2 := hsat_sum T f g fun s hs => h s (List.mem_cons_of_mem _ hs)
  rw [List.map_cons, List.map_cons, List.sum_cons, List.sum_cons]
  omega
theorem rch_nothing {l : List Nd} (hR : Rgt l) : ∀ (n : Nat) (s : List Itm), dpS l s <= n -> (∀ y ∈ s, HdF l y) -> min 2 ((rchS l s).count []) = wyS l s := fun n => by
 induction n with
 | zero =>
  intro s hn hs
  cases s with
  | nil => rw [rch_ready rfl]; rfl
  | cons x r =>
   cases hd : rdyS l (x :: r) with
   | true =>
    rw [rch_ready hd, wyS_cons, rdy_ways hR (hs x (List.mem_cons_self ..)) hd]; simp
   | false =>
    rw [rch_open hR hs hd, <- opn_ways hR (hs x (List.mem_cons_self ..)) hd]
    have : opnS l x r = [] := List.eq_nil_iff_forall_not_mem.2 fun t ht => by
     have := opn_lt hR (hs x (List.mem_cons_self ..)) hd ht
     omega
    rw [this]; rfl
 | succ n ih =>
  intro s hn hs
  cases s with
  | nil => rw [rch_ready rfl]; rfl
  | cons x r =>
   have hx := hs x (List.mem_cons_self ..)
   have hr : ∀ y ∈ r, HdF l y := fun y hy => hs y (List.mem_cons_of_mem _ hy)
   cases hd : rdyS l (x :: r) with
   | true => rw [rch_ready hd, wyS_cons, rdy_ways hR hx hd]; simp
   | false =>
    rw [rch_open hR hs hd, <- opn_ways hR hx hd, List.count_flatMap]
    unfold sumO
    refine hsat_sum _ _ _ fun t ht => ?_
    have hlt := opn_lt hR hx hd ht
    exact ih t (by omega) (opn_form hR.1 hx hr ht)
theorem mny_mem : ∀ {L : Brs}, HdSrt L -> PosB L -> ∀ t k, (t, k) ∈ L ↔ mnyB L t = k /\ 1 <= k
 | [], _, _, t, k => by
  have h0 : mnyB [] t = 0 := rfl
  constructor
  ·intro h; cases h
  ·intro h; omega
 | (q, j) :: L, hs, hp, t, k => by
  obtain ⟨s1, s2⟩ := List.pairwise_cons.1 hs
  have hj := hp (q, j) (List.mem_cons_self ..)
  have ih := mny_mem s2 (fun a ha => hp a (List.mem_cons_of_mem _ ha)) t k
  have e : mnyB ((q, j) :: L) t = if t = q then j else mnyB L t := rfl
  rw [e, List.mem_cons]
  simp only at hj
  by_cases et : t = q
  ·subst et
   rw [if_pos rfl]
   constructor
   ·rintro (h | h)
    ·injection h with _ h2; exact ⟨h2.symm, by omega⟩
    ·have := s1 _ h
     simp only [stC_self] at this; omega
   ·rintro ⟨h1, h2⟩; exact .inl (by rw [h1])
  ·rw [if_neg et]
   constructor
   ·rintro (h | h)
    ·injection h with h1 _; exact absurd h1 et
    ·exact ih.1 h
   ·intro h; exact .inr (ih.2 h)
def brsL (R : List (List Itm)) : Brs := brsF [] R
theorem brsL_all (R : List (List Itm)) : HdSrt (brsL R) /\ PosB (brsL R) /\ ∀ t, mnyB (brsL R) t = min 2 (R.count t) := by
 obtain ⟨h1, h2, h3⟩ := brs_all R (L := []) List.Pairwise.nil (fun a h => by cases h)
 refine ⟨h1, h2, fun t => ?_⟩
 unfold brsL
 rw [h3 t]
 have h0 : mnyB [] t = 0 := rfl
 rw [h0]
 split <;> omega
theorem brsL_mem (R : List (List Itm)) (t : List Itm) (k : Nat) : (t, k) ∈ brsL R ↔ min 2 (R.count t) = k /\ 1 <= k := by
 obtain ⟨h1, h2, h3⟩ := brsL_all R
 rw [mny_mem h1 h2, h3]
theorem brsL_keys (R : List (List Itm)) (t : List Itm) : t ∈ (brsL R).map Prod.fst ↔ t ∈ R := by
 rw [List.mem_map]
 constructor
 ·rintro ⟨⟨q, k⟩, h, rfl⟩
  have := (brsL_mem R q k).1 h
  refine List.count_pos_iff.1 ?_
  show 0 < R.count q
  omega
 ·intro h
  have := List.count_pos_iff.2 h
  exact ⟨(t, min 2 (R.count t)), (brsL_mem R t _).2 ⟨rfl, by omega⟩, rfl⟩
theorem srt_nodup {L : Brs} (h : HdSrt L) : (L.map Prod.fst).Nodup := by
 unfold List.Nodup
 rw [List.pairwise_map]
 exact h.imp fun {a b} hab e => by rw [e, stC_self] at hab; omega
end Go.Proofs.Ytidoofdofdhjpaa
