/- The ways of what is built of descriptions: plain mathematics. -/
import Derived.Test.YtpbbokdmoaadfaaM19
import Derived.Test.YtpbbokdmoaadfaaM18
import Derived.Lib.AppendZerosOnto
import Derived.Lib.AppendStr
namespace Go.Proofs.Ytpbbokdmoaadfaa
set_option maxHeartbeats 64000000
set_option maxRecDepth 1000000
set_option linter.all false
open Go
section
variable {l m : List Nd} {u : Wd} (hl : Form l) (hm : Form m)
end
theorem cnt_some {l : List Nd} (hF : Form l) {i : Nat} (hi : i < l.length) {u : Wd} : 0 < cntN l i u ↔ ∃ v, wrV l i v = some u := by
 unfold cntN
 rw [List.length_pos_iff_exists_mem]
 constructor
 ·rintro ⟨v, hv⟩; exact ⟨v, (mem_vls hF _ i u v hi (by omega)).1 hv⟩
 ·rintro ⟨v, hv⟩; exact ⟨v, (mem_vls hF _ i u v hi (by omega)).2 hv⟩
theorem one_alone {l : List Nd} (hF : Form l) {i : Nat} (hi : i < l.length) {u : Wd} {a b : Vl} (h : cntN l i u <= 1) (ha : wrV l i a = some u) (hb : wrV l i b = some u) : a = b := by
 have h1 := (mem_vls hF (i + 1) i u a hi (by omega)).2 ha
 have h2 := (mem_vls hF (i + 1) i u b hi (by omega)).2 hb
 unfold cntN at h
 generalize vlsN l (i + 1) i u = L at *
 match L, h with
 | [], _ => cases h1
 | [x], _ => rw [List.mem_singleton.1 h1, List.mem_singleton.1 h2]
 | _ :: _ :: _, h => simp at h
section
variable {l m : List Nd} {u : Wd} (hl : Form l) (hm : Form m)
include hl
end
section
variable {l : List Nd} {i : Nat} {W : Wd} {a b : Nat} (hF : Form l) (hi : i < l.length) (hb : b <= W.length)
include hF hi hb
end
def sg (n : Nat) (f : Nat -> Nat) : Nat := ((List.range n).map f).sum
theorem sg_zero {f : Nat -> Nat} : sg 0 f = 0 := rfl
theorem sg_succ {n : Nat} {f : Nat -> Nat} : sg (n + 1) f = sg n f + f n := by unfold sg; rw [List.range_succ, List.map_append, List.sum_append]; simp
theorem sg_congr {f g : Nat -> Nat} : ∀ {n : Nat}, (∀ k, k < n -> f k = g k) -> sg n f = sg n g
 | 0, _ => rfl
 | n + 1, h => by rw [sg_succ, sg_succ, sg_congr fun k hk => h k (by omega), h n (by omega)]
theorem sg_nil {f : Nat -> Nat} {n : Nat} (h : ∀ k, k < n -> f k = 0) : sg n f = 0 := smz h
theorem sg_add {f g : Nat -> Nat} : ∀ {n : Nat}, sg n (fun k => f k + g k) = sg n f + sg n g
 | 0 => rfl
 | n + 1 => by rw [sg_succ, sg_succ, sg_succ, sg_add]; omega
theorem sg_mul {c : Nat} {f : Nat -> Nat} : ∀ {n : Nat}, sg n (fun k => c * f k) = c * sg n f
 | 0 => by rw [sg_zero, sg_zero, Nat.mul_zero]
 | n + 1 => by rw [sg_succ, sg_succ, sg_mul, Nat.mul_add]
theorem sg_mulr {c : Nat} {f : Nat -> Nat} : ∀ {n : Nat}, sg n (fun k => f k * c) = sg n f * c
 | 0 => by rw [sg_zero, sg_zero, Nat.zero_mul]
 | n + 1 => by rw [sg_succ, sg_succ, sg_mulr, Nat.add_mul]
theorem sg_swap {m : Nat} {f : Nat -> Nat -> Nat} : ∀ {n : Nat}, sg n (fun j => sg m fun k => f j k) = sg m fun k => sg n fun j => f j k
 | 0 => by symm; exact sg_nil fun _ _ => rfl
 | n + 1 => by
  rw [sg_succ, sg_swap, <- sg_add]
  exact sg_congr fun k _ => by rw [sg_succ]
theorem sg_one {n a : Nat} {f : Nat -> Nat} (ha : a < n) (h : ∀ k, k < n -> k ≠ a -> f k = 0) : sg n f = f a := by
 induction n with
 | zero => omega
 | succ n ih =>
  rw [sg_succ]
  by_cases e : a = n
  ·subst e
   rw [sg_nil fun k hk => h k (by omega) (by omega)]; omega
  ·rw [ih (by omega) fun k hk => h k (by omega), h n (by omega) (by omega)]; rfl
theorem sg_up {n m : Nat} {f : Nat -> Nat} (hnm : n <= m) (h : ∀ k, n <= k -> k < m -> f k = 0) : sg m f = sg n f := by
 obtain ⟨r, rfl⟩ := Nat.le.dest hnm
 induction r with
 | zero => rfl
 | succ r ih => rw [<- Nat.add_assoc, sg_succ, ih (by omega) (fun k h1 h2 => h k h1 (by omega)), h _ (by omega) (by omega)]; rfl
theorem sg_sat {f g : Nat -> Nat} {n : Nat} (h : ∀ k, k < n -> min 2 (f k) = min 2 (g k)) : min 2 (sg n f) = min 2 (sg n g) := sat_sum fun k hk => h k (List.mem_range.1 hk)
theorem sat_r {x y : Nat} : min 2 (x * min 2 y) = min 2 (x * y) := by rw [<- sat_mul, <- sat_mul x y]; congr 2; omega
theorem sat_l {x y : Nat} : min 2 (min 2 x * y) = min 2 (x * y) := by rw [<- sat_mul, <- sat_mul x y]; congr 2; omega
theorem sat_add {x y x' y' : Nat} (h : min 2 x = min 2 x') (k : min 2 y = min 2 y') : min 2 (x + y) = min 2 (x' + y') := by omega
def thV (l : List Nd) (i : Nat) (W : Wd) (F : Nat -> Nat) (b : Nat) : Nat := min 2 (sg (W.length + 1) fun j => F j * rowV l i W j b)
theorem thV_le {l : List Nd} {i : Nat} {W : Wd} {F : Nat -> Nat} {b : Nat} : thV l i W F b <= 2 := by unfold thV; omega
theorem thV_congr {l : List Nd} {i : Nat} {W : Wd} {F G : Nat -> Nat} {b : Nat} (h : ∀ j, j < W.length + 1 -> F j = G j) : thV l i W F b = thV l i W G b := by
 unfold thV; rw [sg_congr fun j hj => by rw [h j hj]]
theorem thV_one {l : List Nd} {i : Nat} {W : Wd} {a v b : Nat} (ha : a < W.length + 1) : thV l i W (fun j => if j = a then v else 0) b = min 2 (v * rowV l i W a b) := by
 unfold thV
 rw [sg_one ha fun k _ hk => by show (if k = a then v else 0) * _ = 0; rw [if_neg hk, Nat.zero_mul]]
 show min 2 ((if a = a then v else 0) * _) = _
 rw [if_pos rfl]
theorem thV_start {l : List Nd} {i : Nat} {W : Wd} {a b : Nat} (ha : a < W.length + 1) : thV l i W (fun j => if j = a then 1 else 0) b = rowV l i W a b := by
 rw [thV_one ha, Nat.one_mul]; have := rowV_le (l := l) (i := i) (W := W) (a := a) (b := b); omega
theorem rowV_back {l : List Nd} {i : Nat} {W : Wd} {a b : Nat} (h : b < a) : rowV l i W a b = 0 := by unfold rowV; rw [if_neg (by omega)]
theorem thV_below {l : List Nd} {i : Nat} {W : Wd} {F : Nat -> Nat} {f b : Nat} (hF : ∀ j, j < f -> F j = 0) (hb : b < f) : thV l i W F b = 0 := by
 unfold thV
 rw [sg_nil fun j _ => by
  rcases Nat.lt_or_ge j f with h | h
  ·rw [hF j h, Nat.zero_mul]
  ·rw [rowV_back (by omega), Nat.mul_zero]]
 rfl
theorem thV_none {l : List Nd} {i : Nat} {W : Wd} {F : Nat -> Nat} {b : Nat} (hF : ∀ j, j < W.length + 1 -> F j = 0) : thV l i W F b = 0 := by
 unfold thV; rw [sg_nil fun j hj => by rw [hF j hj, Nat.zero_mul]]; rfl
section
variable {l : List Nd} {i : Nat} {W : Wd} {F : Nat -> Nat} {b : Nat} (hF : Form l) (hi : i < l.length) (hb : b < W.length + 1)
include hF hi hb
theorem th_k4 (hk : (atN l i).kind = 4) : thV l (atN l i).b.toNat W (thV l (atN l i).a.toNat W F) b = thV l i W F b := by
 unfold thV
 have e : ∀ k, k < W.length + 1 -> min 2 ((min 2 (sg (W.length + 1) fun j => F j * rowV l (atN l i).a.toNat W j k)) * rowV l (atN l i).b.toNat W k b) = min 2 (sg (W.length + 1) fun j => F j * rowV l (atN l i).a.toNat W j k * rowV l (atN l i).b.toNat W k b) := fun k _ => by
  rw [sat_l, <- sg_mulr]
 rw [sg_sat e, sg_swap]
 refine sg_sat fun j _ => ?_
 rw [sg_congr fun k _ => by rw [Nat.mul_assoc], sg_mul, <- sat_r]
 congr 2
 exact row_k4 hF hi (by omega) hk
theorem th_k5 (hk : (atN l i).kind = 5) : min 2 (thV l (atN l i).a.toNat W F b + thV l (atN l i).b.toNat W F b) = thV l i W F b := by
 unfold thV
 rw [show ∀ x y, min 2 (min 2 x + min 2 y) = min 2 (x + y) by intro x y; omega, <- sg_add]
 refine sg_sat fun j _ => ?_
 rw [<- Nat.mul_add, <- sat_r]
 have := row_k5 (a := j) hF hi (show b <= W.length by omega) hk
 rw [Nat.one_mul] at this
 rw [this]
theorem th_leaf {m : Nat} {ok : Nat -> Prop} [DecidablePred ok] (h2 : ∀ j, F j <= 2) (hr : ∀ j, j < W.length + 1 -> rowV l i W j b = if b = j + m /\ ok j then 1 else 0) : thV l i W F b = if m <= b /\ ok (b - m) then F (b - m) else 0 := by
 unfold thV
 by_cases h : m <= b /\ ok (b - m)
 ·rw [if_pos h, sg_one (a := b - m) (by omega) fun k hk hne => by rw [hr k hk, if_neg (by omega), Nat.mul_zero], hr _ (by omega), if_pos ⟨by omega, h.2⟩, Nat.mul_one]
  have := h2 (b - m); omega
 ·rw [if_neg h, sg_nil fun k hk => by
   rw [hr k hk, if_neg, Nat.mul_zero]
   rintro ⟨e, ho⟩
   exact h ⟨by omega, by rw [show b - m = k by omega]; exact ho⟩]
  rfl
end
def lfL (m : Nat) (ok : Nat -> Prop) [DecidablePred ok] (L : List (Nat × Nat)) : List (Nat × Nat) := L.filterMap fun p => if ok p.1 then some (p.1 + m, p.2) else none
theorem lfL_snoc {m : Nat} {ok : Nat -> Prop} [DecidablePred ok] {L : List (Nat × Nat)} {p : Nat × Nat} : lfL m ok (L ++ [p]) = lfL m ok L ++ if ok p.1 then [(p.1 + m, p.2)] else [] := by
 unfold lfL
 rw [List.filterMap_append]
 congr 1
 by_cases h : ok p.1 <;> simp [h]
theorem lfL_plF {m n : Nat} {ok : Nat -> Prop} [DecidablePred ok] {F G : Nat -> Nat} (hok : ∀ j, ok j -> j < n -> j + m < n) (hG : ∀ b, b < n -> G b = if m <= b /\ ok (b - m) then F (b - m) else 0) : lfL m ok (plF n F) = plF n G := by
 refine plF_of ?_ fun p => ?_
 ·unfold lfL
  refine List.Pairwise.filterMap _ (R := fun p q => p.1 < q.1) ?_ plF_rise
  intro p q hpq p' hp' q' hq'
  by_cases h1 : ok p.1
  ·by_cases h2 : ok q.1
   ·rw [if_pos h1] at hp'; rw [if_pos h2] at hq'
    cases hp'; cases hq'
    show p.1 + m < q.1 + m
    omega
   ·rw [if_neg h2] at hq'; cases hq'
  ·rw [if_neg h1] at hp'; cases hp'
 ·unfold lfL
  rw [List.mem_filterMap]
  constructor
  ·rintro ⟨q, hq, h⟩
   obtain ⟨h1, h2, h3⟩ := mem_plF.1 hq
   by_cases h4 : ok q.1
   ·rw [if_pos h4] at h
    cases h
    have := hok _ h4 h1
    refine ⟨this, ?_, h3⟩
    rw [hG _ this, if_pos ⟨Nat.le_add_left _ _, by rw [Nat.add_sub_cancel]; exact h4⟩, Nat.add_sub_cancel]
    exact h2
   ·rw [if_neg h4] at h; cases h
  ·rintro ⟨h1, h2, h3⟩
   rw [hG _ h1] at h2
   split at h2
   ·rename_i h
    refine ⟨(p.1 - m, p.2), mem_plF.2 ⟨by show p.1 - m < n; omega, h2, h3⟩, ?_⟩
    rw [if_pos h.2, show p.1 - m + m = p.1 by omega]
   ·omega
def frL (fr : Nat -> Option Nat) (x : Nat -> Nat -> Nat) (L : List (Nat × Nat)) : List (Nat × Nat) := L.filterMap fun p => match fr p.1 with
 | none => none
 | some e => if x p.1 e = 0 then none else some (e, min 2 (p.2 * x p.1 e))
theorem frL_snoc {fr : Nat -> Option Nat} {x : Nat -> Nat -> Nat} {L : List (Nat × Nat)} {p : Nat × Nat} : frL fr x (L ++ [p]) = frL fr x L ++ match fr p.1 with
 | none => []
 | some e => if x p.1 e = 0 then [] else [(e, min 2 (p.2 * x p.1 e))] := by
 unfold frL
 rw [List.filterMap_append]
 congr 1
 cases h : fr p.1 with
 | none => simp [h]
 | some e => by_cases h0 : x p.1 e = 0 <;> simp [h, h0]
theorem frL_sum {fr : Nat -> Option Nat} {x : Nat -> Nat -> Nat} {b : Nat} : ∀ {L : List (Nat × Nat)}, min 2 (sumAt (frL fr x L) b) = min 2 (thrL L (fun j b => if fr j = some b then x j b else 0) b)
 | [] => rfl
 | p :: L => by
  have ih := frL_sum (fr := fr) (x := x) (b := b) (L := L)
  have e1 : frL fr x (p :: L) = (match fr p.1 with
   | none => []
   | some e => if x p.1 e = 0 then [] else [(e, min 2 (p.2 * x p.1 e))]) ++ frL fr x L := by
   unfold frL
   cases h : fr p.1 with
   | none => simp [h]
   | some e => by_cases h0 : x p.1 e = 0 <;> simp [h, h0]
  rw [e1, sumAt_append]
  have e2 : thrL (p :: L) (fun j b => if fr j = some b then x j b else 0) b = p.2 * (if fr p.1 = some b then x p.1 b else 0) + thrL L (fun j b => if fr j = some b then x j b else 0) b := by unfold thrL; rw [List.map_cons, List.sum_cons]
  rw [e2]
  refine sat_add ?_ ih
  cases h : fr p.1 with
  | none => simp [sumAt]
  | some e =>
   by_cases h0 : x p.1 e = 0
   ·simp only [h0, if_true, sumAt]
    by_cases hb : e = b
    ·subst hb; simp [h0]
    ·simp [hb]
   ·simp only [h0, if_false, sumAt]
    by_cases hb : e = b
    ·subst hb; simp
    ·simp [hb]
theorem frL_two {fr : Nat -> Option Nat} {x : Nat -> Nat -> Nat} {L : List (Nat × Nat)} (hL : ∀ p ∈ L, p.2 ≠ 0) {p : Nat × Nat} (h : p ∈ frL fr x L) : p.2 ≠ 0 /\ p.2 <= 2 /\ ∃ j, fr j = some p.1 := by
 unfold frL at h
 obtain ⟨q, hq, h⟩ := List.mem_filterMap.1 h
 cases hf : fr q.1 with
 | none => rw [hf] at h; cases h
 | some e =>
  rw [hf] at h
  simp only at h
  split at h
  ·cases h
  ·rename_i h0
   cases h
   have h1 := hL q hq
   have : 1 * 1 <= q.2 * x q.1 e := Nat.mul_le_mul (by omega) (by omega)
   exact ⟨by show min 2 _ ≠ 0; omega, by show min 2 _ <= 2; omega, _, hf⟩
def frE (W : Wd) (head j : Nat) : Option Nat :=
 if j + head <= W.length then
  let e := j + head + (if head = 1 then (W.getD j 0).toNat else 256 * (W.getD j 0).toNat + (W.getD (j + 1) 0).toNat)
  if e <= W.length then some e else none
 else none
section
variable {l : List Nd} {i : Nat} {W : Wd} {F : Nat -> Nat} {b : Nat} (hF : Form l) (hi : i < l.length) (hb : b < W.length + 1)
include hF hi hb
theorem row_k89 {head : Nat} (hk : (atN l i).kind = 8 /\ head = 1 \/ (atN l i).kind = 9 /\ head = 2) {j : Nat} : rowV l i W j b = if frE W head j = some b then rowV l (atN l i).a.toNat W (j + head) b else 0 := by
 rcases hk with ⟨hk, rfl⟩ | ⟨hk, rfl⟩
 ·rw [row_k8 hF hi (by omega) hk]
  have e : frE W 1 j = some b ↔ j < W.length /\ b = j + 1 + (W.getD j 0).toNat := by
   unfold frE
   by_cases h1 : j + 1 <= W.length
   ·by_cases h2 : j + 1 + (W.getD j 0).toNat <= W.length
    ·simp only [h1, h2, if_true, Option.some.injEq]; omega
    ·simp only [h1, h2, if_true, if_false]; constructor
     ·intro h; cases h
     ·intro h; omega
   ·simp only [h1, if_false]; constructor
    ·intro h; cases h
    ·intro h; omega
  by_cases h : j < W.length /\ b = j + 1 + (W.getD j 0).toNat
  ·rw [if_pos h, if_pos (e.2 h)]
  ·rw [if_neg h, if_neg (fun h' => h (e.1 h'))]
 ·rw [row_k9 hF hi (by omega) hk]
  have e : frE W 2 j = some b ↔ j + 1 < W.length /\ b = j + 2 + 256 * (W.getD j 0).toNat + (W.getD (j + 1) 0).toNat := by
   unfold frE
   by_cases h1 : j + 2 <= W.length
   ·by_cases h2 : j + 2 + (256 * (W.getD j 0).toNat + (W.getD (j + 1) 0).toNat) <= W.length
    ·simp only [h1, h2, if_true, Option.some.injEq, show ¬ (2 : Nat) = 1 by decide, if_false]; omega
    ·simp only [h1, h2, if_true, if_false, show ¬ (2 : Nat) = 1 by decide]; constructor
     ·intro h; cases h
     ·intro h; omega
   ·simp only [h1, if_false]; constructor
    ·intro h; cases h
    ·intro h; omega
  by_cases h : j + 1 < W.length /\ b = j + 2 + 256 * (W.getD j 0).toNat + (W.getD (j + 1) 0).toNat
  ·rw [if_pos h, if_pos (e.2 h)]
  ·rw [if_neg h, if_neg (fun h' => h (e.1 h'))]
theorem th_k89 {head : Nat} (hk : (atN l i).kind = 8 /\ head = 1 \/ (atN l i).kind = 9 /\ head = 2) : min 2 (sumAt (frL (frE W head) (fun j e => rowV l (atN l i).a.toNat W (j + head) e) (plF (W.length + 1) F)) b) = thV l i W F b := by
 rw [frL_sum, thrL_plF]
 unfold thV
 show min 2 (sg _ _) = _
 rw [sg_congr fun j _ => by rw [<- row_k89 hF hi hb hk]]
end
end Go.Proofs.Ytpbbokdmoaadfaa
namespace Go.Proofs.Ytpbbokdmoaadfaa
set_option maxHeartbeats 64000000
set_option maxRecDepth 1000000
set_option linter.all false
open Go Go.RowKit
theorem cmost_any (n : Nat) (hn : n <= 1000000) (w : World) : Calls Try.prog 85 #[.int .i64 (n : Int)] w (Pure w (.int .i64 ((min 2 n : Nat) : Int))) := by
 by_cases h : n <= 2
 ·have e : ((min 2 n : Nat) : Int) = (n : Int) := by omega
  rw [e]
  clear e
  have hz : (n : Int) <= 2 := by omega
  have hm : min (n : Int) 2 = (n : Int) := by omega
  clear h
  go_enter Try.func85, Try.ntmps85
  go_wp2
  go_ret
  exact ⟨rfl, rfl⟩
 ·have e : ((min 2 n : Nat) : Int) = 2 := by omega
  rw [e]
  clear e
  have hz : ¬ (n : Int) <= 2 := by omega
  have hm : min (n : Int) 2 = 2 := by omega
  clear h
  go_enter Try.func85, Try.ntmps85
  go_wp2
  go_ret
  exact ⟨rfl, rfl⟩
def ptsN (k : Int) : Nat := if k = 4 \/ k = 5 then 2 else if k = 6 \/ k = 7 \/ k = 8 \/ k = 9 then 1 else 0
theorem cparts_any (k : Int) (w : World) : Calls Try.prog 43 #[.int .i64 k] w (Pure w (.int .i64 ((ptsN k : Nat) : Int))) := by
 by_cases h4 : k = 4
 ·subst h4
  go_enter Try.func43, Try.ntmps43
  go_wp2
  go_ret
  exact ⟨rfl, rfl⟩
 by_cases h5 : k = 5
 ·subst h5
  go_enter Try.func43, Try.ntmps43
  go_wp2
  go_ret
  exact ⟨rfl, rfl⟩
 by_cases h6 : k = 6
 ·subst h6
  go_enter Try.func43, Try.ntmps43
  go_wp2
  go_ret
  exact ⟨rfl, rfl⟩
 by_cases h7 : k = 7
 ·subst h7
  go_enter Try.func43, Try.ntmps43
  go_wp2
  go_ret
  exact ⟨rfl, rfl⟩
 by_cases h8 : k = 8
 ·subst h8
  go_enter Try.func43, Try.ntmps43
  go_wp2
  go_ret
  exact ⟨rfl, rfl⟩
 by_cases h9 : k = 9
 ·subst h9
  go_enter Try.func43, Try.ntmps43
  go_wp2
  go_ret
  exact ⟨rfl, rfl⟩
 have e : ptsN k = 0 := by unfold ptsN; rw [if_neg (by omega), if_neg (by omega)]
 rw [e]
 have b4 : (k == 4) = false := beq_eq_false_iff_ne.2 h4
 have b5 : (k == 5) = false := beq_eq_false_iff_ne.2 h5
 have b6 : (k == 6) = false := beq_eq_false_iff_ne.2 h6
 have b7 : (k == 7) = false := beq_eq_false_iff_ne.2 h7
 have b8 : (k == 8) = false := beq_eq_false_iff_ne.2 h8
 have b9 : (k == 9) = false := beq_eq_false_iff_ne.2 h9
 clear e h4 h5 h6 h7 h8 h9
 go_enter Try.func43, Try.ntmps43
 go_wp2
 go_ret
 exact ⟨rfl, rfl⟩
def hdN (k : Int) : Nat := if k = 9 then 2 else 1
theorem chead_any (k : Int) (w : World) : Calls Try.prog 52 #[.int .i64 k] w (Pure w (.int .i64 ((hdN k : Nat) : Int))) := by
 by_cases h9 : k = 9
 ·subst h9
  go_enter Try.func52, Try.ntmps52
  go_wp2
  go_ret
  exact ⟨rfl, rfl⟩
 ·have e : hdN k = 1 := by unfold hdN; rw [if_neg h9]
  rw [e]
  have b9 : (k == 9) = false := beq_eq_false_iff_ne.2 h9
  clear e h9
  go_enter Try.func52, Try.ntmps52
  go_wp2
  go_ret
  exact ⟨rfl, rfl⟩
theorem cfind1_any (p q a : Nat) (hp : p <= 1073741824) (ha : a <= 1073741824) (w : World) : Calls Try.prog 67 #[.agg #[.int .i64 (p : Int), .int .i64 (q : Int)], .int .i64 (a : Int)] w (Ans w (.int .i64 ((p : Int) - (a : Int)))) := by
 have hb := (Below.refl w.heap.size w).alloc (Nat.le_refl _) (.cells #[.int .i64 (p : Int), .int .i64 (q : Int)] 92)
 have HB := Lib.hid hb
 have hx := Blk.new w #[.int .i64 (p : Int), .int .i64 (q : Int)] 92
 have e0 := hx.cell 0
 simp at e0
 clear hb hx
 go_enter Try.func67, Try.ntmps67
 go_wp2
 go_ret
 exact ⟨rfl, HB.out⟩
structure Fnd (l : List (Nat × Nat)) (a k : Nat) : Prop where
 le : k <= l.length
 lo : ∀ j, j < k -> (l.getD j (0, 0)).1 < a
 hi : ∀ j, k <= j -> j < l.length -> a <= (l.getD j (0, 0)).1
def fndB (l : List (Nat × Nat)) (a k : Nat) : Bool := decide (k < l.length /\ (l.getD k (0, 0)).1 = a)
def BsL (w0 : World) (A : Option Addr) (l : List (Nat × Nat)) (a : Nat) (x y : Value) (w : World) : Prop := ∃ i j : Nat, x = .int .i64 (i : Int) /\ y = .int .i64 (j : Int) /\ i <= j /\ j <= l.length /\ (∀ k, k < i -> (l.getD k (0, 0)).1 < a) /\ (∀ k, j <= k -> k < l.length -> a <= (l.getD k (0, 0)).1) /\ Below w0.heap.size w0 w /\ RcRow w A l
theorem rise_get {l : List (Nat × Nat)} (hl : l.Pairwise fun p q => p.1 < q.1) {i j : Nat} (hij : i < j) (hj : j < l.length) : (l.getD i (0, 0)).1 < (l.getD j (0, 0)).1 := by
 have := List.pairwise_iff_getElem.1 hl i j (by omega) hj hij
 simpa [List.getD_eq_getElem?_getD, List.getElem?_eq_getElem (show i < l.length by omega), List.getElem?_eq_getElem hj] using this
theorem bsearch_any (l : List (Nat × Nat)) (A : Option Addr) (c a : Nat) (hl : l.Pairwise fun p q => p.1 < q.1) (hlen : l.length <= 1048576) (hb : ∀ p ∈ l, p.1 <= 1073741824) (ha : a <= 1073741824) (w : World) (hrow : RcRow w A l) :
 Calls Try.prog 66 #[.slice A l.length c, .int .i64 (a : Int), .func (.func 67) #[] #[]] w (fun e w' => ∃ k, Fnd l a k /\ e = .returned (.tuple #[.int .i64 (k : Int), .bool (fndB l a k)]) /\ Below w.heap.size w w') := by
 have HRISE := Lib.hid (fun i j (h : i < j) (hj : j < l.length) => rise_get hl h hj)
 have HBD : Hid (∀ k, k < l.length -> (l.getD k (0, 0)).1 <= 1073741824) := fun k hk => hb _ (by rw [List.getD_eq_getElem?_getD, List.getElem?_eq_getElem hk]; exact List.getElem_mem _)
 have HS0 : Hid (BsL w A l a (.int .i64 0) (.int .i64 (l.length : Int)) w) := ⟨0, l.length, rfl, rfl, Nat.zero_le _, Nat.le_refl _, fun k hk => absurd hk (Nat.not_lt_zero k), fun k h1 h2 => by omega, Below.refl _ _, hrow⟩
 have hlz : (l.length : Int) <= 1048576 := by omega
 clear hl hb hrow
 go_enter Try.func66, Try.ntmps66
 go_wp2
 go_loopw [9, 10] (BsL w A l a) (fun x y _ => (intOf y - intOf x).toNat)
 case atStart => exact HS0.out
 case round =>
  obtain ⟨i, j, rfl, rfl, hij, hjl, hlo, hhi, hbel, hr⟩ := hrel
  have HLO := Lib.hid hlo
  have HHI := Lib.hid hhi
  have HBEL := Lib.hid hbel
  have HR := Lib.hid hr
  clear hlo hhi hbel hr HS0
  by_cases hlt : i < j
  ·have hltz : (i : Int) < (j : Int) := by omega
   obtain ⟨M, hM, hxM, hMy⟩ : ∃ M : Nat, ((i : Int) + (j : Int)) / 2 = (M : Int) /\ i <= M /\ M < j := ⟨(i + j) / 2, by omega, by omega, by omega⟩
   have hMn : M < l.length := by omega
   have hMz : (M : Int) < (l.length : Int) := by omega
   obtain ⟨b, off, hA, hblt, hc⟩ := HR.out.two (fun e => by rw [e] at hMn; exact absurd hMn (Nat.not_lt_zero _))
   obtain ⟨c0, c1⟩ := hc M hMn
   have HP : Hid ((l.getD M (0, 0)).1 <= 1073741824) := HBD.out M hMn
   obtain ⟨p, hp⟩ : ∃ p, (l.getD M (0, 0)).1 = p := ⟨_, rfl⟩
   have HPE := Lib.hid hp
   rw [hp] at c0 HP
   generalize (l.getD M (0, 0)).2 = q at *
   clear hp hc
   subst hA
   have HC := Lib.hid (cfind1_any p q a HP.out ha wr)
   by_cases hpa : p < a
   ·have hz : ((p : Int) - (a : Int)) < 0 := by omega
    go_wp2_with fail
    refine HC.out.mono ?_; rintro e w4 ⟨rfl, hb4⟩
    have HB4 := Lib.hid hb4
    clear hb4 c0 c1 HC
    go_wp2
    go_roundw
    case rel => exact ⟨M + 1, j, by go_num, rfl, by omega, hjl, fun k hk => (by rcases Nat.lt_or_ge k M with h | h; exact Nat.lt_trans (HRISE.out k M h hMn) (by rw [HPE.out]; exact hpa); rw [show k = M by omega, HPE.out]; exact hpa), HHI.out, HBEL.out.trans (HB4.out.mono HBEL.out.size), HR.out.later HB4.out⟩
    case measure => simp [intOf]; omega
   ·have hz : ¬ ((p : Int) - (a : Int)) < 0 := by omega
    go_wp2_with fail
    refine HC.out.mono ?_; rintro e w4 ⟨rfl, hb4⟩
    have HB4 := Lib.hid hb4
    clear hb4 c0 c1 HC
    go_wp2
    go_roundw
    case rel => exact ⟨i, M, rfl, rfl, by omega, by omega, HLO.out, fun k h1 h2 => (by rcases Nat.lt_or_ge M k with h | h; exact Nat.le_of_lt (Nat.lt_of_le_of_lt (by rw [HPE.out]; omega) (HRISE.out M k h h2)); rw [show k = M by omega, HPE.out]; omega), HBEL.out.trans (HB4.out.mono HBEL.out.size), HR.out.later HB4.out⟩
    case measure => simp [intOf]; omega
  ·obtain rfl : i = j := by omega
   have hnz : ¬ (i : Int) < (i : Int) := by omega
   have HF : Hid (Fnd l a i) := ⟨hjl, HLO.out, HHI.out⟩
   by_cases hin : i < l.length
   ·have hiz : (i : Int) < (l.length : Int) := by omega
    obtain ⟨b, off, hA, hblt, hc⟩ := HR.out.two (fun e => by rw [e] at hin; exact absurd hin (Nat.not_lt_zero _))
    obtain ⟨c0, c1⟩ := hc i hin
    have HP : Hid ((l.getD i (0, 0)).1 <= 1073741824) := HBD.out i hin
    have HFB : Hid (fndB l a i = decide ((l.getD i (0, 0)).1 = a)) := by unfold Hid fndB; simp [hin]
    generalize (l.getD i (0, 0)).1 = p at *
    generalize (l.getD i (0, 0)).2 = q at *
    clear hc
    subst hA
    by_cases hpa : p = a
    ·subst hpa
     have HC := Lib.hid (cfind1_any p q p HP.out ha wr)
     have hz : (((p : Int) - (p : Int)) == 0) = true := by rw [beq_iff_eq]; omega
     go_wp2_with fail
     refine HC.out.mono ?_; rintro e w4 ⟨rfl, hb4⟩
     have HB4 := Lib.hid hb4
     clear hb4 c0 c1 HC
     go_wp2
     go_ret2
     exact ⟨i, HF.out, by rw [show fndB l p i = true from HFB.out.trans (by simp)]; rfl, HBEL.out.trans (HB4.out.mono HBEL.out.size)⟩
    ·have HC := Lib.hid (cfind1_any p q a HP.out ha wr)
     have hz : (((p : Int) - (a : Int)) == 0) = false := by rw [beq_eq_false_iff_ne]; omega
     go_wp2_with fail
     refine HC.out.mono ?_; rintro e w4 ⟨rfl, hb4⟩
     have HB4 := Lib.hid hb4
     clear hb4 c0 c1 HC
     go_wp2
     go_ret2
     exact ⟨i, HF.out, by rw [HFB.out, decide_eq_false hpa]; rfl, HBEL.out.trans (HB4.out.mono HBEL.out.size)⟩
   ·have hiz : ¬ (i : Int) < (l.length : Int) := by omega
    have HFB : Hid (fndB l a i = false) := by unfold Hid fndB; simp [hin]
    go_wp2
    go_ret2
    exact ⟨i, HF.out, by rw [HFB.out]; rfl, HBEL.out⟩
end Go.Proofs.Ytpbbokdmoaadfaa
namespace Go.Proofs.Ytpbbokdmoaadfaa
set_option maxHeartbeats 64000000
set_option maxRecDepth 1000000
set_option linter.all false
open Go Go.RowKit
theorem own_typedU {w : World} {base size n : Nat} {e t : TypeId} {v : Value} {xs : List Value} (h : w.ownsRow base e size v n xs) {g : Nat} {vs : Array Value} (hg : Blk w g vs t) (hne : e ≠ t) : ∀ k, v.ownBlock = some k -> k ≠ g := by
 intro k hk e2
 subst e2
 obtain ⟨h0, ⟨hv, hn⟩ | ⟨g2, cap, cur, hv, hb, hg2, hr⟩⟩ := h
 ·rw [hv] at hk; cases hk
 ·rw [hv] at hk
  have : g2 = k := by simpa [Value.ownBlock] using hk
  subst this
  unfold Blk at hg
  rw [hg2] at hg
  have := Option.some.inj hg
  injection this with _ h2
  exact hne h2
structure Kp (B : Nat) (w w' : World) : Prop where
 bel : Below B w w'
 typ : ∀ g vs t, t ≠ 5 -> Blk w g vs t -> Blk w' g vs t
theorem Kp.grown {B : Nat} {w w' : World} {v : Value} {l : List Nat} (h : Own8 w B v l) (hg : w.grownBy w' v.ownBlock) (hB : B <= w.heap.size) : Kp B w w' :=
 ⟨(Below.refl B w).grown hg hB (fun k hk => (World.ownsRow.lt h k hk).1), fun g vs t ht k => (hg.block g k.lt (fun e => own_typedU h k (Ne.symm ht) g e.symm rfl)).trans k⟩
theorem nats_set (W : List UInt8) (j : Nat) (x : UInt8) : nats (W.set j x) = (nats W).set j x.toNat := by unfold nats; rw [List.map_set]
theorem bytesV_set (l : List Nat) (j x : Nat) : bytesV (l.set j x) = (bytesV l).set j (.int .u8 (x : Int)) := by unfold bytesV; rw [List.map_set]
theorem own8_blk {w : World} {B : Nat} {v : Value} {W : List UInt8} (h : Own8 w B v (nats W)) (hne : W ≠ []) : ∃ g cap cur, v = .slice (some ⟨g, 0, none⟩) W.length cap /\ B <= g /\ Blk w g cur 5 /\ W.length <= cap /\ cap <= maxLen /\ cur.size = cap /\ cur.toList.take W.length = bytesV (nats W) := by
 obtain ⟨h0, ⟨hv, hn⟩ | ⟨g, cap, cur, hv, hb, hg, h1, h2, h3, h4⟩⟩ := h
 ·rw [nats_length] at hn
  exact absurd (List.length_eq_zero_iff.1 hn) hne
 ·rw [nats_length, Nat.mul_one] at *
  exact ⟨g, cap, cur, hv, hb, hg, h1, h2, h3, h4⟩
theorem bytesV_at (W : List UInt8) (j : Nat) (hj : j < W.length) : (bytesV (nats W))[j]? = some (.int .u8 (((W.getD j 0).toNat : Nat) : Int)) := by unfold bytesV nats; simp [hj]
theorem own8_set {w : World} {B g cap : Nat} {W : List UInt8} (h : Own8 w B (.slice (some ⟨g, 0, none⟩) W.length cap) (nats W)) (j : Nat) (hj : j < W.length) (x : UInt8) :
 Own8 (w.setCell ⟨g, j, none⟩ (.int .u8 ((x.toNat : Nat) : Int))) B (.slice (some ⟨g, 0, none⟩) W.length cap) (nats (W.set j x)) /\ (B <= w.heap.size -> Kp B w (w.setCell ⟨g, j, none⟩ (.int .u8 ((x.toNat : Nat) : Int)))) /\
  w.cell? ⟨g, j, none⟩ = some (.int .u8 (((W.getD j 0).toNat : Nat) : Int)) /\ w.frozen? ⟨g, j, none⟩ = false := by
 have hne : W ≠ [] := fun e => by rw [e] at hj; exact absurd hj (Nat.not_lt_zero j)
 obtain ⟨g2, cap2, cur, hv, hb, hk, h1, h2, h3, h4⟩ := own8_blk h hne
 simp only [Value.slice.injEq, Option.some.injEq, Addr.mk.injEq, and_true, true_and] at hv
 obtain ⟨rfl, rfl⟩ := hv
 have hs := hk.setCell j (.int .u8 ((x.toNat : Nat) : Int))
 refine ⟨?_, fun hB => ⟨(Below.refl B w).setCell (p := ⟨g, j, none⟩) hb _, fun g3 vs t ht k => ?_⟩, ?_, hk.frozen j⟩
 ·refine ⟨by rw [bytesV_length, Nat.mul_one], .inr ⟨g, cap, _, by rw [nats_length, List.length_set], hb, hs, by rw [nats_length, List.length_set]; exact h1, h2, by rw [Array.size_setIfInBounds, h3, Nat.mul_one], ?_⟩⟩
  rw [nats_length, List.length_set, Nat.mul_one, Array.toList_setIfInBounds, List.take_set, h4, nats_set, bytesV_set]
 ·refine k.setCell_ne (a := ⟨g, j, none⟩) (fun e => ?_) _
  have e : g = g3 := e
  subst e
  unfold Blk at hk k
  rw [hk] at k
  have := Option.some.inj k
  injection this with _ h5
  exact ht h5.symm
 ·rw [hk.cell]
  have := bytesV_at W j hj
  rw [<- h4, List.getElem?_take, if_pos hj] at this
  rw [<- this]; simp
theorem run_append_room_zeros {P : Program} (w : World) (t tn ty e : TypeId) (i : TypeInfo) (z : Value) (kq kn : IntKind) (ht : P.underlying t = some (.slice e)) (htn : P.underlying tn = some (.int kn)) (hi : P.info? e = some i) (hz : i.zero = some z) (hs1 : i.size = 1) (hby : i.bytes = 1) (hzc : z.cells = #[z]) (hzo : z.oneCell' = true)
 (g sLen sCap k : Nat) (cur : Array Value) (hg : w.heap[g]? = some (.cells cur e (0, 0))) (h0 : 0 < k) (h1000 : k <= 1000)
 (hroom : sLen + k <= sCap) (hfit : sLen + k <= cur.size) :
 (Builtin.append_ #[t, tn] ty #[.slice (some ⟨g, 0, none⟩) sLen sCap, .int kq k]).run P w =
  .ok (.slice (some ⟨g, 0, none⟩) (sLen + k) sCap) (w.setRow g (cur.toList.take sLen ++ List.replicate k z ++ cur.toList.drop (sLen + k)).toArray) := by
 have hk : k ≠ 0 := by omega
 have hw : IntKind.i64.wrap (k : Int) = k := by rw [IntKind.wrap_i64]; omega
 have hneg : ¬ ((k : Int) < 0) := by omega
 have h48i : ¬ (281474976710656 < (k : Int)) := by omega
 have hzr : Builtin.zeroCells #[z] k = (List.replicate k z).toArray := by
  unfold Builtin.zeroCells
  apply Array.ext
  ·simp
  ·intro j h1 h2
   simp [Nat.mod_one]
 have hst := run_storeCells_at P g sLen e (List.replicate k z) 0 cur w hg (by rw [List.length_replicate]; omega) (fun v hv => by rw [(List.mem_replicate.1 hv).2]; exact hzo)
 simp only [Nat.add_zero, List.length_replicate] at hst
 simp [Builtin.append_, run_underlying ht, run_underlying htn, sizeOf, typeInfo, zeroValue, hi, hz, hs1, hby, asInt, asIntOf, hw, hneg, hk, h48i, hroom, hzc, hzr, Addr.add_lit, hst]
theorem replicate_bytes (k : Nat) : bytesV (nats (List.replicate k (0 : UInt8))) = List.replicate k (.int .u8 0) := by
 unfold bytesV nats
 simp
theorem own8_prefix {w w' : World} {B g cap : Nat} {cur cur2 : Array Value} {L : List UInt8} (hk : Blk w g cur 5) (hk2 : Blk w' g cur2 5) (hs : cur.size = cap) (hs2 : cur2.size = cap) (hL : cur2.toList.take L.length = bytesV (nats L))
 (hg : w.grownBy w' (some g)) (u : Value) (U : List UInt8) (hU : U <+: L) (h : Own8 w B u (nats U)) : Own8 w' B u (nats U) := by
 by_cases hgu : u.ownBlock = some g
 ·obtain ⟨u0, ⟨u1, _⟩ | ⟨g3, cap3, cur3, u1, u2, u3, u4, u5, u6, u7⟩⟩ := h
  ·rw [u1] at hgu; cases hgu
  ·rw [u1] at hgu
   have e3 : g3 = g := by simpa [Value.ownBlock] using hgu
   subst e3
   have e4 := u3.symm.trans hk
   simp only [Option.some.injEq, Obj.cells.injEq, and_true] at e4
   refine ⟨u0, .inr ⟨g3, cap3, cur2, u1, u2, hk2, u4, u5, by rw [hs2, <- u6, e4, hs], ?_⟩⟩
   rw [nats_length, Nat.mul_one] at u7 ⊢
   obtain ⟨V, rfl⟩ := hU
   have : cur2.toList.take U.length = (cur2.toList.take (U ++ V).length).take U.length := by rw [List.take_take]; congr 1; simp
   rw [this, hL, nats_append, bytesV_append]
   have hl : (bytesV (nats U)).length = U.length := by rw [bytesV_length, nats_length]
   rw [<- hl, List.take_left]
 ·exact World.ownsRow.kept h hg (by right; exact hgu)
theorem run_append_zeros (w : World) (B : Nat) (v : Value) (W : List UInt8) (hown : Own8 w B v (nats W)) (k : Nat) (h0 : 0 < k) (hk : k <= 1000) (hlen : W.length + k <= 1073741824) (hB : B <= w.heap.size) (ty : TypeId) :
 ∃ v' w', (Builtin.append_ #[25, 3] ty #[v, .int .i64 (k : Int)]).run Try.prog w = .ok v' w' /\ Own8 w' B v' (nats (W ++ List.replicate k 0)) /\ w.grownBy w' v.ownBlock /\
   (∀ u U, U <+: W ++ List.replicate k 0 -> Own8 w B u (nats U) -> Own8 w' B u (nats U)) := by
 obtain ⟨ib, hib, hz0, hz1, hz2⟩ := info_parts infoU8
 have hcells : (Value.int .u8 0).cells = #[.int .u8 0] := rfl
 have hzr : ∀ k, Builtin.zeroCells #[Value.int .u8 0] k = (List.replicate k (Value.int .u8 0)).toArray := fun k => by
  unfold Builtin.zeroCells
  apply Array.ext
  ·simp
  ·intro j h1 h2
   simp [Nat.mod_one]
 have hxl : (bytesV (nats (W ++ List.replicate k 0))) = bytesV (nats W) ++ List.replicate k (.int .u8 0) := by rw [nats_append, bytesV_append, replicate_bytes]
 have hwl : (bytesV (nats W)).length = W.length := by rw [bytesV_length, nats_length]
 have new : ∀ (cap : Nat), W.length + k <= cap -> cap <= maxLen -> (w.drew.alloc (.cells ((bytesV (nats W)).toArray ++ Builtin.zeroCells (Value.int .u8 0).cells k ++ Builtin.zeroCells (Value.int .u8 0).cells (cap - (W.length + k))) 5)).ownsRow B 5 1 (.slice (some ⟨w.heap.size, 0, none⟩) (W.length + k) cap) (W.length + k) (bytesV (nats (W ++ List.replicate k 0))) := fun cap h1 h2 => by
  rw [hcells, hzr, hzr]
  refine ⟨by rw [bytesV_length, nats_length, List.length_append, List.length_replicate, Nat.mul_one], .inr ⟨w.heap.size, cap, _, rfl, hB, heap_alloc_new w.drew _, h1, h2, ?_, ?_⟩⟩
  ·simp [hwl]; omega
  ·rw [hxl]
   simp only [Array.toList_append, List.toList_toArray, Nat.mul_one]
   rw [List.take_left' (by rw [List.length_append, hwl, List.length_replicate])]
 have late : ∀ (cap : Nat) (row : Option Nat), w.grownBy (w.drew.alloc (.cells ((bytesV (nats W)).toArray ++ Builtin.zeroCells (Value.int .u8 0).cells k ++ Builtin.zeroCells (Value.int .u8 0).cells (cap - (W.length + k))) 5)) row := fun cap row =>
  ⟨rfl, rfl, rfl, by simp, fun j hj _ => Below.heap_alloc w.drew _ j hj⟩
 have fin : ∀ (w' : World) (v' : Value), w'.ownsRow B 5 1 v' (W.length + k) (bytesV (nats (W ++ List.replicate k 0))) -> Own8 w' B v' (nats (W ++ List.replicate k 0)) := fun w' v' h => by
  unfold Own8
  rw [nats_length, List.length_append, List.length_replicate]; exact h
 have hown2 := hown
 obtain ⟨hl0, ⟨rfl, hn⟩ | ⟨g, cap, cur, rfl, hbg, hgg, hnc, hcm, hcs, htake⟩⟩ := hown
 ·rw [nats_length] at hn
  have hW : W = [] := List.length_eq_zero_iff.1 hn
  subst hW
  have hr := Lib.run_append_nil_zeros (P := Try.prog) w 25 3 ty 5 ib (.int .u8 0) .i64 .i64 Try.underlying25 Try.underlying3 hib hz0 k h0 (by omega) (by omega) (by rw [hz2]; omega)
  have hge := grownCap_ge w k 0 5
  have hcm : grownCap w k 0 5 <= maxLen := grownCap_le_maxLen w k 0 _ (by unfold maxLen; omega)
  have n1 := new (grownCap w k 0 5) (by simp; exact hge) hcm
  have n2 := late (grownCap w k 0 5)
  simp only [List.length_nil, Nat.zero_add] at n1 n2
  have hz : (bytesV (nats [])).toArray = #[] := rfl
  rw [hz, Array.empty_append] at n1 n2
  exact ⟨_, _, hr, fin _ _ (by rw [List.length_nil, Nat.zero_add]; exact n1), n2 _, fun u U _ hu => World.ownsRow.kept hu (n2 none) (by cases hh : u.ownBlock <;> simp)⟩
 ·rw [nats_length] at *
  by_cases hroom : W.length + k <= cap
  ·have hcs' : cur.size = cap := by simpa using hcs
   have hr := run_append_room_zeros (P := Try.prog) w 25 3 ty 5 ib (.int .u8 0) .i64 .i64 Try.underlying25 Try.underlying3 hib hz0 hz1 hz2 rfl rfl g W.length cap k cur hgg h0 hk hroom (by omega)
   have ht' : cur.toList.take W.length = bytesV (nats W) := by simpa using htake
   have hk2 := setRow_heap w g cur (cur.toList.take W.length ++ List.replicate k (Value.int .u8 0) ++ cur.toList.drop (W.length + k)).toArray 5 (0, 0) hgg
   have hsz2 : (cur.toList.take W.length ++ List.replicate k (Value.int .u8 0) ++ cur.toList.drop (W.length + k)).toArray.size = cap := by
    simp only [List.size_toArray, List.length_append, List.length_take, List.length_drop, Array.length_toList, List.length_replicate]; omega
   have htk : (cur.toList.take W.length ++ List.replicate k (Value.int .u8 0) ++ cur.toList.drop (W.length + k)).take (W ++ List.replicate k 0).length = bytesV (nats (W ++ List.replicate k 0)) := by
    rw [hxl, ht', List.take_left' (by rw [List.length_append, List.length_append, hwl, List.length_replicate, List.length_replicate])]
   have hgb : w.grownBy (w.setRow g (cur.toList.take W.length ++ List.replicate k (Value.int .u8 0) ++ cur.toList.drop (W.length + k)).toArray) (some g) := ⟨rfl, rfl, rfl, by simp, fun j _ hj => setRow_other w g j _ (fun e => hj (by simp [e]))⟩
   refine ⟨_, _, hr, fin _ _ ⟨by rw [bytesV_length, nats_length, List.length_append, List.length_replicate, Nat.mul_one], .inr ⟨g, cap, _, rfl, hbg, hk2, hroom, hcm, by rw [hsz2, Nat.mul_one], ?_⟩⟩, hgb, fun u U hU hu => own8_prefix hgg hk2 hcs' hsz2 (by rw [List.toList_toArray]; exact htk) hgb u U hU hu⟩
   rw [List.toList_toArray, Nat.mul_one]
   rw [List.length_append, List.length_replicate] at htk
   exact htk
  ·have holds : ∀ j u, (bytesV (nats W))[j]? = some u -> w.drew.cell? ((⟨g, 0, none⟩ : Addr).add j) = some u := fun j u hu => World.ownsRow.cells (w := w.drew) (base := B) (e := 5) (size := 1) (v := .slice (some ⟨g, 0, none⟩) W.length cap) (n := W.length) (xs := bytesV (nats W)) ⟨hl0, .inr ⟨g, cap, cur, rfl, hbg, hgg, hnc, hcm, hcs, htake⟩⟩ (g := g) rfl j u hu
   have hf := run_firstCells_some (P := Try.prog) w.drew ib.size W.length ⟨g, 0, none⟩ W.length cap (bytesV (nats W)) (by rw [hwl, hz1, Nat.mul_one]) holds
   have hr := Lib.run_append_grow_zeros (P := Try.prog) w 25 3 ty 5 ib (.int .u8 0) .i64 .i64 Try.underlying25 Try.underlying3 hib hz0 (some ⟨g, 0, none⟩) W.length cap (bytesV (nats W)) hf k h0 (by omega) (by omega) (by omega) (by rw [hz2]; omega) (by rw [hz2]; exact growslice_fits (by omega) (by omega))
   have hge := grownCap_ge w (W.length + k) cap 5
   have hcm2 : grownCap w (W.length + k) cap 5 <= maxLen := grownCap_le_maxLen w (W.length + k) cap _ (by unfold maxLen; omega)
   exact ⟨_, _, hr, fin _ _ (new _ hge hcm2), late _ _, fun u U _ hu => World.ownsRow.kept hu (late _ none) (by cases hh : u.ownBlock <;> simp)⟩
end Go.Proofs.Ytpbbokdmoaadfaa
