/- Rows of ways: plain mathematics. -/
import Derived.Test.YtidoofdofdhjpaaM26
import Derived.Test.YtidoofdofdhjpaaM22
import Derived.Test.YtidoofdofdhjpaaM10
import Derived.Test.YtidoofdofdhjpaaM07
import Derived.Below
namespace Go.Proofs.Ytidoofdofdhjpaa
open Go
set_option linter.unusedVariables false
set_option linter.unusedSimpArgs false
set_option linter.unusedSectionVars false
theorem byU_nat {k : Nat} (h : k < 256) : (byU k).toNat = k := by unfold byU; rw [UInt8.toNat_ofNat']; omega
theorem sat_mul (x y : Nat) : min 2 (min 2 x * min 2 y) = min 2 (x * y) := by
 rcases Nat.lt_or_ge x 2 with h | h
 ·rcases (show x = 0 \/ x = 1 by omega) with h | h <;> subst h
  ·simp
  ·have : min 2 1 = 1 := rfl
   rw [this, Nat.one_mul, Nat.one_mul]; omega
 ·rcases Nat.eq_zero_or_pos y with h0 | h0
  ·subst h0; simp
  ·have h1 : 2 * 1 <= min 2 x * min 2 y := Nat.mul_le_mul (by omega) (by omega)
   have h2 : 2 * 1 <= x * y := Nat.mul_le_mul h h0
   omega
theorem sat_sum {α : Type} {f g : α -> Nat} : ∀ {l : List α}, (∀ x ∈ l, min 2 (f x) = min 2 (g x)) -> min 2 (l.map f).sum = min 2 (l.map g).sum
 | [], _ => rfl
 | a :: l, h => by
  have h1 := h a (by simp)
  have h2 := sat_sum fun x hx => h x (List.mem_cons_of_mem _ hx)
  rw [List.map_cons, List.map_cons, List.sum_cons, List.sum_cons]; omega
theorem smz {F : Nat -> Nat} : ∀ {m : Nat}, (∀ k, k < m -> F k = 0) -> ((List.range m).map F).sum = 0
 | 0, _ => rfl
 | m + 1, h => by
  rw [List.range_succ, List.map_append, List.sum_append, smz fun k hk => h k (by omega)]
  simp [h m (by omega)]
theorem sma {F : Nat -> Nat} {a : Nat} : ∀ {m : Nat}, ((List.range (a + m)).map F).sum = ((List.range a).map F).sum + ((List.range m).map fun j => F (a + j)).sum
 | 0 => rfl
 | m + 1 => by
  rw [<- Nat.add_assoc, List.range_succ, List.map_append, List.sum_append, sma, List.range_succ, List.map_append, List.sum_append]
  simp [Nat.add_assoc]
theorem sum_mid {F : Nat -> Nat} {a m n : Nat} (ha : a + m <= n) (h : ∀ k, k < n -> k < a \/ a + m <= k -> F k = 0) : ((List.range n).map F).sum = ((List.range m).map fun j => F (a + j)).sum := by
 obtain ⟨r, rfl⟩ : ∃ r, n = a + m + r := ⟨n - (a + m), by omega⟩
 rw [sma, sma, smz (m := a) fun k hk => h k (by omega) (.inl hk), smz (m := r) fun k hk => h _ (by omega) (.inr (by omega))]
 omega
def sgW (W : Wd) (a b : Nat) : Wd := (W.take b).drop a
theorem sgW_len {W : Wd} {a b : Nat} (hb : b <= W.length) : (sgW W a b).length = b - a := by
 unfold sgW; rw [List.length_drop, List.length_take]; omega
theorem sgW_take {W : Wd} {a b j : Nat} (h : a + j <= b) : (sgW W a b).take j = sgW W a (a + j) := by
 unfold sgW
 rw [List.take_drop, List.take_take, show min (a + j) b = a + j by omega]
theorem sgW_drop {W : Wd} {a b j : Nat} : (sgW W a b).drop j = sgW W (a + j) b := by
 unfold sgW; rw [List.drop_drop]
theorem sgW_of_take {W : Wd} {a b c : Nat} (h : b <= c) : sgW (W.take c) a b = sgW W a b := by
 unfold sgW; rw [List.take_take, show min b c = b by omega]
theorem sgW_nil {W : Wd} {a b : Nat} (hb : b <= W.length) (ha : a <= b) : sgW W a b = [] ↔ b = a := by
 rw [<- List.length_eq_zero_iff, sgW_len hb]; omega
theorem sgW_at {W : Wd} {a b j : Nat} (h : a + j < b) : (sgW W a b).getD j 0 = W.getD (a + j) 0 := by
 unfold sgW
 rw [List.getD_eq_getElem?_getD, List.getD_eq_getElem?_getD, List.getElem?_drop, List.getElem?_take_of_lt h]
def rowV (l : List Nd) (i : Nat) (W : Wd) (a b : Nat) : Nat := if a <= b then min 2 (cntN l i (sgW W a b)) else 0
def nowV (l : List Nd) (i : Nat) (W : Wd) (a t b : Nat) : Nat := if a <= b then min 2 (cntT l i t (sgW W a b)) else 0
theorem rowV_le {l : List Nd} {i : Nat} {W : Wd} {a b : Nat} : rowV l i W a b <= 2 := by unfold rowV; split <;> omega
theorem nowV_le {l : List Nd} {i : Nat} {W : Wd} {a b t : Nat} : nowV l i W a t b <= 2 := by unfold nowV; split <;> omega
section
variable {l : List Nd} {i : Nat} {W : Wd} {a b : Nat} (hF : Form l) (hi : i < l.length) (hb : b <= W.length)
theorem row_take {c : Nat} (hc : b <= c) : rowV l i (W.take c) a b = rowV l i W a b := by unfold rowV; rw [sgW_of_take hc]
include hb
theorem row_k1 (hk : (atN l i).kind = 1) : rowV l i W a b = if b = a then 1 else 0 := by
 unfold rowV
 by_cases h : a <= b
 ·rw [if_pos h, cnt_k1 hk]
  by_cases e : b = a
  ·rw [if_pos ((sgW_nil hb h).2 e), if_pos e]; rfl
  ·rw [if_neg (fun h' => e ((sgW_nil hb h).1 h')), if_neg e]; rfl
 ·rw [if_neg h, if_neg (by omega)]
theorem row_k2 (hk : (atN l i).kind = 2) : rowV l i W a b = if b = a + 1 /\ (atN l i).cls.getLsbD (W.getD a 0).toNat = true then 1 else 0 := by
 unfold rowV
 by_cases h : a <= b
 ·rw [if_pos h, cnt_k2 hk, sgW_len hb]
  by_cases e : b = a + 1
  ·have := sgW_at (W := W) (a := a) (b := b) (j := 0) (by omega)
   rw [Nat.add_zero] at this
   rw [this]
   by_cases hc : (atN l i).cls.getLsbD (W.getD a 0).toNat = true
   ·rw [if_pos ⟨by omega, hc⟩, if_pos ⟨e, hc⟩]; rfl
   ·rw [if_neg (fun h => hc h.2), if_neg (fun h => hc h.2)]; rfl
  ·rw [if_neg (by omega), if_neg (fun h => e h.1)]; rfl
 ·rw [if_neg h, if_neg (by omega)]
theorem row_k3 (hk : (atN l i).kind = 3) : rowV l i W a b = if b = a + (atN l i).text.length /\ sgW W a b = (atN l i).text then 1 else 0 := by
 unfold rowV
 by_cases h : a <= b
 ·rw [if_pos h, cnt_k3 hk]
  by_cases e : sgW W a b = (atN l i).text
  ·have := congrArg List.length e
   rw [sgW_len hb] at this
   rw [if_pos e, if_pos ⟨by omega, e⟩]; rfl
  ·rw [if_neg e, if_neg (fun h => e h.2)]; rfl
 ·rw [if_neg h, if_neg (by omega)]
include hF hi
theorem row_k4 (hk : (atN l i).kind = 4) : min 2 ((List.range (W.length + 1)).map fun j => rowV l (atN l i).a.toNat W a j * rowV l (atN l i).b.toNat W j b).sum = rowV l i W a b := by
 conv => rhs; unfold rowV
 by_cases h : a <= b
 ·rw [if_pos h, cnt_k4 hF hi hk, sgW_len hb]
  rw [sum_mid (a := a) (m := b - a + 1) (by omega)]
  ·refine sat_sum fun j hj => ?_
   have hj := List.mem_range.1 hj
   unfold rowV
   rw [if_pos (by omega), if_pos (by omega), sgW_take (by omega), sgW_drop, sat_mul]
  ·intro k hk' ho
   unfold rowV
   rcases ho with ho | ho
   ·rw [if_neg (by omega), Nat.zero_mul]
   ·rw [if_neg (c := k <= b) (by omega), Nat.mul_zero]
 ·rw [if_neg h, smz]; · rfl
  intro k hk'
  unfold rowV
  by_cases h1 : a <= k
  ·rw [if_neg (c := k <= b) (by omega), Nat.mul_zero]
  ·rw [if_neg h1, Nat.zero_mul]
theorem row_k5 (hk : (atN l i).kind = 5) : min 2 (rowV l (atN l i).a.toNat W a b + 1 * rowV l (atN l i).b.toNat W a b) = rowV l i W a b := by
 unfold rowV
 by_cases h : a <= b
 ·rw [if_pos h, if_pos h, if_pos h, cnt_k5 hF hi hk]; omega
 ·rw [if_neg h, if_neg h, if_neg h]; rfl
theorem now_zero : nowV l i W a 0 b = if b = a then 1 else 0 := by
 unfold nowV
 by_cases h : a <= b
 ·rw [if_pos h, cntT_zero hF hi]
  by_cases e : b = a
  ·rw [if_pos ((sgW_nil hb h).2 e), if_pos e]; rfl
  ·rw [if_neg (fun h' => e ((sgW_nil hb h).1 h')), if_neg e]; rfl
 ·rw [if_neg h, if_neg (by omega)]
theorem now_more {t : Nat} : min 2 ((List.range (W.length + 1)).map fun j => nowV l i W a t j * (if b = j then 0 else rowV l i W j b)).sum = nowV l i W a (t + 1) b := by
 conv => rhs; unfold nowV
 by_cases h : a <= b
 ·rw [if_pos h, cntT_more hF hi, sgW_len hb]
  rw [sum_mid (a := a) (m := b - a) (by omega)]
  ·refine sat_sum fun j hj => ?_
   have hj := List.mem_range.1 hj
   unfold rowV nowV
   rw [if_pos (by omega), if_neg (by omega), if_pos (by omega), sgW_take (by omega), sgW_drop, sat_mul]
  ·intro k hk' ho
   unfold rowV nowV
   rcases ho with ho | ho
   ·rw [if_neg (by omega), Nat.zero_mul]
   ·by_cases e : b = k
    ·rw [if_pos e, Nat.mul_zero]
    ·rw [if_neg e, if_neg (c := k <= b) (by omega), Nat.mul_zero]
 ·rw [if_neg h, smz]; · rfl
  intro k hk'
  unfold rowV nowV
  by_cases h1 : a <= k
  ·rw [if_neg (c := b = k) (by omega), if_neg (c := k <= b) (by omega), Nat.mul_zero]
  ·rw [if_neg h1, Nat.zero_mul]
theorem row_k6 (hk : (atN l i).kind = 6) : min 2 ((List.range (W.length + 2)).map fun t => nowV l (atN l i).a.toNat W a t b).sum = rowV l i W a b := by
 unfold rowV
 by_cases h : a <= b
 ·rw [if_pos h, cnt_k6 hF hi hk (M := W.length + 2) (by rw [sgW_len hb]; omega)]
  refine sat_sum fun t _ => ?_
  unfold nowV; rw [if_pos h]; omega
 ·rw [if_neg h, smz]; · rfl
  intro k _; unfold nowV; rw [if_neg h]
theorem row_k7 (hk : (atN l i).kind = 7) : min 2 ((List.range (W.length + 2)).map fun (t : Nat) => if (atN l i).lo <= (t : Int) /\ (t : Int) <= (atN l i).hi then nowV l (atN l i).a.toNat W a t b else 0).sum = rowV l i W a b := by
 unfold rowV
 by_cases h : a <= b
 ·rw [if_pos h, cnt_k7 hF hi hk (M := W.length + 2) (by rw [sgW_len hb]; omega)]
  refine sat_sum fun t _ => ?_
  split
  ·unfold nowV; rw [if_pos h]; omega
  ·rfl
 ·rw [if_neg h, smz]; · rfl
  intro k _; unfold nowV; rw [if_neg h]; split <;> rfl
theorem row_k8 (hk : (atN l i).kind = 8) : rowV l i W a b = if a < W.length /\ b = a + 1 + (W.getD a 0).toNat then rowV l (atN l i).a.toNat W (a + 1) b else 0 := by
 unfold rowV
 have hx := UInt8.toNat_lt (W.getD a 0)
 by_cases h : a <= b
 ·rw [if_pos h, cnt_k8 hF hi hk, sgW_len hb]
  by_cases h1 : a < b
  ·have e := sgW_at (W := W) (a := a) (b := b) (j := 0) (by omega)
   rw [Nat.add_zero] at e
   rw [e, sgW_drop, if_pos (c := a + 1 <= b) (by omega)]
   by_cases hc : b = a + 1 + (W.getD a 0).toNat
   ·rw [if_pos ⟨by omega, by omega, UInt8.toNat.inj (by rw [byU_nat (by omega)]; omega)⟩, if_pos ⟨by omega, hc⟩]
   ·rw [if_neg (c := a < W.length /\ b = a + 1 + (W.getD a 0).toNat) (fun h => hc h.2), if_neg]; · rfl
    rintro ⟨h2, h3, h4⟩
    have := congrArg UInt8.toNat h4
    rw [byU_nat (by omega)] at this; omega
  ·rw [if_neg (c := 1 <= b - a /\ _) (by omega), if_neg (by omega)]; rfl
 ·rw [if_neg h, if_neg (by omega)]
theorem row_k9 (hk : (atN l i).kind = 9) : rowV l i W a b = if a + 1 < W.length /\ b = a + 2 + 256 * (W.getD a 0).toNat + (W.getD (a + 1) 0).toNat then rowV l (atN l i).a.toNat W (a + 2) b else 0 := by
 unfold rowV
 have hx := UInt8.toNat_lt (W.getD a 0)
 have hy := UInt8.toNat_lt (W.getD (a + 1) 0)
 by_cases h : a <= b
 ·rw [if_pos h, cnt_k9 hF hi hk, sgW_len hb]
  by_cases h1 : a + 1 < b
  ·have e := sgW_at (W := W) (a := a) (b := b) (j := 0) (by omega)
   have e' := sgW_at (W := W) (a := a) (b := b) (j := 1) (by omega)
   rw [Nat.add_zero] at e
   rw [e, e', sgW_drop, if_pos (c := a + 2 <= b) (by omega)]
   by_cases hc : b = a + 2 + 256 * (W.getD a 0).toNat + (W.getD (a + 1) 0).toNat
   ·rw [if_pos ⟨by omega, by omega, UInt8.toNat.inj (by rw [byU_nat (by omega)]; omega), UInt8.toNat.inj (by rw [byU_nat (by omega)]; omega)⟩, if_pos ⟨by omega, hc⟩]
   ·rw [if_neg (c := a + 1 < W.length /\ b = a + 2 + 256 * (W.getD a 0).toNat + (W.getD (a + 1) 0).toNat) (fun h => hc h.2), if_neg]; · rfl
    rintro ⟨h2, h3, h4, h5⟩
    have h4 := congrArg UInt8.toNat h4
    have h5 := congrArg UInt8.toNat h5
    rw [byU_nat (by omega)] at h4 h5; omega
  ·rw [if_neg (c := 2 <= b - a /\ _) (by omega), if_neg (by omega)]; rfl
 ·rw [if_neg h, if_neg (by omega)]
end
def cntD (l : List Nd) (u : Wd) : Nat := cntN l (l.length - 1) u
theorem wrapL_ln (kind lo hi : Int) (l : List Nd) : (wrapL kind lo hi l).length = l.length + 1 := by unfold wrapL; rw [List.length_append]; rfl
theorem cnt_wr {l m : List Nd} {i j : Nat} (hl : Form l) (hm : Form m) (hi : i < l.length) (hj : j < m.length) (h : ∀ v, wrV l i v = wrV m j v) {u : Wd} : cntN l i u = cntN m j u :=
 ((List.perm_ext_iff_of_nodup (nodup_vls hl (i + 1) i u hi (by omega)) (nodup_vls hm (j + 1) j u hj (by omega))).2 fun x => by
   rw [mem_vls hl (i + 1) i u x hi (by omega), mem_vls hm (j + 1) j u x hj (by omega), h]).length_eq
theorem cntT_wr {l m : List Nd} {i j t : Nat} (hl : Form l) (hm : Form m) (hi : i < l.length) (hj : j < m.length) (h : ∀ v, wrV l i v = wrV m j v) {u : Wd} : cntT l i t u = cntT m j t u := by
 induction t generalizing u with
 | zero => rw [cntT_zero hl hi, cntT_zero hm hj]
 | succ t ih =>
  rw [cntT_more hl hi, cntT_more hm hj]
  congr 1
  refine List.map_congr_left fun k _ => ?_
  rw [ih, cnt_wr hl hm hi hj h]
section
variable {l m : List Nd} {u : Wd} (hl : Form l) (hm : Form m)
include hl hm
omit hm
theorem wrap_cnts {kind lo hi : Int} (hW : Form (wrapL kind lo hi l)) : cntN (wrapL kind lo hi l) (l.length - 1) u = cntD l u /\ ∀ t, cntT (wrapL kind lo hi l) (l.length - 1) t u = cntT l (l.length - 1) t u := by
 obtain ⟨h1, h2⟩ := wrap_at (l := l) (kind := kind) (lo := lo) (hi := hi)
 have hlp := hl.1
 have hL := wrapL_ln kind lo hi l
 have e := fun v => wr_keep (l := l) (m := wrapL kind lo hi l) (i := l.length - 1) (fun q hq => (h1 q (by omega)).symm) (hl.okTo (by omega)) v
 exact ⟨cnt_wr hW hl (by omega) (by omega) e, fun t => cntT_wr hW hl (by omega) (by omega) e⟩
end
section
variable {l m : List Nd} {u : Wd} (hl : Form l) (hm : Form m)
include hl
include hm
end
def rowL (n : Nat) (F : Nat -> Nat) : List Int := (List.range n).map fun b => ((F b : Nat) : Int)
theorem rowL_length {n : Nat} {F : Nat -> Nat} : (rowL n F).length = n := by unfold rowL; rw [List.length_map, List.length_range]
theorem rowL_get {n : Nat} {F : Nat -> Nat} {b : Nat} (h : b < n) : (rowL n F)[b]? = some ((F b : Nat) : Int) := by
 unfold rowL; rw [List.getElem?_map, List.getElem?_range h]; rfl
theorem rowL_congr {n : Nat} {F G : Nat -> Nat} (h : ∀ b, b < n -> F b = G b) : rowL n F = rowL n G := by
 unfold rowL
 exact List.map_congr_left fun b hb => by rw [h b (List.mem_range.1 hb)]
theorem rowL_zero {n : Nat} : rowL n (fun _ => 0) = List.replicate n 0 := by
 unfold rowL
 exact List.ext_getElem (by simp) (by simp)
theorem rowL_set {n : Nat} {F : Nat -> Nat} {k v : Nat} (h : k < n) : (rowL n F).set k ((v : Nat) : Int) = rowL n fun b => if b = k then v else F b := by
 refine List.ext_getElem? fun j => ?_
 by_cases hj : j < n
 ·rw [rowL_get hj]
  by_cases e : j = k
  ·subst e
   rw [List.getElem?_set_self (by rw [rowL_length]; exact h), if_pos rfl]
  ·rw [List.getElem?_set_ne (fun h => e h.symm), rowL_get hj, if_neg e]
 ·rw [List.getElem?_eq_none (by rw [List.length_set, rowL_length]; omega), List.getElem?_eq_none (by rw [rowL_length]; omega)]
def plusF (A B : Nat -> Nat) (t : Nat) (b : Nat) : Nat := min 2 (A b + t * B b)
def plusK (A B : Nat -> Nat) (t k : Nat) (b : Nat) : Nat := if b < k then plusF A B t b else A b
theorem plusK_zero {n t : Nat} {A B : Nat -> Nat} : rowL n (plusK A B t 0) = rowL n A := rowL_congr fun b _ => by unfold plusK; rw [if_neg (by omega)]
theorem plusK_end {n t : Nat} {A B : Nat -> Nat} : rowL n (plusK A B t n) = rowL n (plusF A B t) := rowL_congr fun b hb => by unfold plusK; rw [if_pos hb]
theorem plusK_step {n t k : Nat} {A B : Nat -> Nat} (h : k < n) : (rowL n (plusK A B t k)).set k ((plusF A B t k : Nat) : Int) = rowL n (plusK A B t (k + 1)) := by
 rw [rowL_set h]
 refine rowL_congr fun b hb => ?_
 unfold plusK
 by_cases e : b = k
 ·subst e; rw [if_pos rfl, if_pos (by omega)]
 ·rw [if_neg e]
  by_cases hl : b < k
  ·rw [if_pos hl, if_pos (by omega)]
  ·rw [if_neg hl, if_neg (by omega)]
def thrF (A : Nat -> Nat) (R : Nat -> Nat -> Nat) (k b : Nat) : Nat := min 2 ((List.range k).map fun j => A j * R j b).sum
theorem thrF_zero {A : Nat -> Nat} {R : Nat -> Nat -> Nat} : thrF A R 0 = fun _ => 0 := rfl
theorem thrF_step {A : Nat -> Nat} {R : Nat -> Nat -> Nat} {k b : Nat} : plusF (thrF A R k) (R k) (A k) b = thrF A R (k + 1) b := by
 unfold plusF thrF
 rw [List.range_succ, List.map_append, List.sum_append]
 simp only [List.map_cons, List.map_nil, List.sum_cons, List.sum_nil]
 omega
theorem thrF_skip {A : Nat -> Nat} {R : Nat -> Nat -> Nat} {k : Nat} (h : A k = 0) : thrF A R (k + 1) = thrF A R k := by
 funext b
 unfold thrF
 rw [List.range_succ, List.map_append, List.sum_append]
 simp [h]
def tmF (N : Nat -> Nat -> Nat) (lo : Int) (t b : Nat) : Nat := min 2 ((List.range t).map fun (s : Nat) => if lo <= (s : Int) then N s b else 0).sum
theorem tmF_zero {N : Nat -> Nat -> Nat} {lo : Int} : tmF N lo 0 = fun _ => 0 := rfl
theorem tmF_step {N : Nat -> Nat -> Nat} {lo : Int} {t b : Nat} (h : lo <= (t : Int)) : plusF (tmF N lo t) (N t) 1 b = tmF N lo (t + 1) b := by
 unfold plusF tmF
 rw [List.range_succ, List.map_append, List.sum_append]
 simp only [List.map_cons, List.map_nil, List.sum_cons, List.sum_nil]
 rw [if_pos h]; omega
theorem tmF_skip {N : Nat -> Nat -> Nat} {lo : Int} {t : Nat} (h : ¬ lo <= (t : Int)) : tmF N lo (t + 1) = tmF N lo t := by
 funext b
 unfold tmF
 rw [List.range_succ, List.map_append, List.sum_append]
 simp [if_neg h]
section
variable {l : List Nd} {i : Nat} {W : Wd} {a b : Nat} (hF : Form l) (hi : i < l.length) (hb : b <= W.length)
include hF hi hb
theorem thr_k4 (hk : (atN l i).kind = 4) : thrF (rowV l (atN l i).a.toNat W a) (rowV l (atN l i).b.toNat W) (W.length + 1) b = rowV l i W a b := row_k4 hF hi hb hk
theorem plus_k5 (hk : (atN l i).kind = 5) : plusF (rowV l (atN l i).a.toNat W a) (rowV l (atN l i).b.toNat W a) 1 b = rowV l i W a b := row_k5 hF hi hb hk
theorem thr_now {t : Nat} : thrF (nowV l i W a t) (fun j b => if b = j then 0 else rowV l i W j b) (W.length + 1) b = nowV l i W a (t + 1) b := now_more hF hi hb
theorem tm_k6 (hk : (atN l i).kind = 6) : tmF (nowV l (atN l i).a.toNat W a) 0 (W.length + 2) b = rowV l i W a b := by
 rw [<- row_k6 hF hi hb hk]
 unfold tmF
 congr 2
theorem tm_k7 (hk : (atN l i).kind = 7) {T : Nat} (hT : T = W.length + 2 /\ (W.length : Int) + 2 <= (atN l i).hi + 1 \/ (T : Int) = (atN l i).hi + 1 /\ T <= W.length + 2) : tmF (nowV l (atN l i).a.toNat W a) (atN l i).lo T b = rowV l i W a b := by
 rw [<- row_k7 hF hi hb hk]
 unfold tmF
 congr 1
 have hle : T <= W.length + 2 := by omega
 rw [sum_mid (a := 0) (m := T) (n := W.length + 2) (by omega)]
 ·congr 1
  refine List.map_congr_left fun s hs => ?_
  have := List.mem_range.1 hs
  rw [Nat.zero_add]
  by_cases h : (atN l i).lo <= (s : Int)
  ·rw [if_pos h, if_pos ⟨h, by omega⟩]
  ·rw [if_neg h, if_neg (fun h' => h h'.1)]
 ·intro k hk ho
  rw [if_neg (by omega)]
end
end Go.Proofs.Ytidoofdofdhjpaa
namespace Go.Proofs.Ytidoofdofdhjpaa
open Go Go.RowKit
set_option linter.unusedVariables false
set_option linter.unusedSimpArgs false
set_option maxRecDepth 100000
def RwN (L : List Int) (w : World) (e : Ending) (w' : World) : Prop := ∃ v, e = .returned v /\ OwnI w' w.heap.size v L /\ Below w.heap.size w w'
def RdI (n : Nat) (L : List Int) (v : Value) (w : World) : Prop := ∃ A c, v = .slice A n c /\ IRow w A L
theorem RdI.later (n : Nat) (L : List Int) : ∀ v w w', RdI n L v w -> Below w.heap.size w w' -> RdI n L v w' := fun v w w' ⟨A, c, h1, h2⟩ hb => ⟨A, c, h1, h2.later hb⟩
theorem OwnI.rd {w : World} {base : Nat} {v : Value} {L : List Int} (h : OwnI w base v L) : RdI L.length L v w := by
 obtain ⟨A, c, h1, h2⟩ := h.row
 exact ⟨A, c, h1, h2⟩
theorem OwnI.mono {w : World} {b b' : Nat} {v : Value} {l : List Int} (h : OwnI w b v l) (hb : b' <= b) : OwnI w b' v l := by
 obtain ⟨h0, ⟨hv, hn⟩ | ⟨g, cap, cur, hv, hbg, hr⟩⟩ := h
 ·exact ⟨h0, .inl ⟨hv, hn⟩⟩
 ·exact ⟨h0, .inr ⟨g, cap, cur, hv, Nat.le_trans hb hbg, hr⟩⟩
theorem OwnI.put {w : World} {base : Nat} {v : Value} {l : List Int} (h : OwnI w base v l) {k : Nat} (hk : k < l.length) (x : Int) : ∃ g cap, v = .slice (some ⟨g, 0, none⟩) l.length cap /\ base <= g /\ g < w.heap.size /\ OwnI (w.setCell ⟨g, k, none⟩ (.int .i64 x)) base v (l.set k x) /\
 w.cell? ⟨g, k, none⟩ = some (.int .i64 (l.getD k 0)) /\ w.frozen? ⟨g, k, none⟩ = false := by
 obtain ⟨h0, ⟨hv, hn⟩ | ⟨g, cap, cur, hv, hb, hg, hc, hm, hs, ht⟩⟩ := h
 ·omega
 ·have hk2 : Blk w g cur 3 := hg
  have hs2 := hk2.setCell k (.int .i64 x)
  refine ⟨g, cap, hv, hb, hk2.lt, ⟨by rw [intsV_length, List.length_set]; omega, .inr ⟨g, cap, _, by rw [List.length_set]; exact hv, hb, hs2, by rw [List.length_set]; exact hc, hm, by rw [Array.size_setIfInBounds]; exact hs, ?_⟩⟩, ?_, hk2.frozen _⟩
  ·have e : intsV (l.set k x) = (intsV l).set k (.int .i64 x) := by unfold intsV; rw [List.map_set]
   rw [List.length_set, e, <- ht, Array.toList_setIfInBounds, List.take_set]
  ·rw [hk2.cell, <- Array.getElem?_toList]
   have e3 : (intsV l)[k]? = some (.int .i64 (l.getD k 0)) := by unfold intsV; simp [hk]
   rw [<- e3, <- ht, List.getElem?_take, if_pos (by omega)]
theorem underRow : Try.prog.underlying 73 = Try.prog.underlying 70 := by kernel_rfl
theorem wp_append_row {w : World} {o : Oper} {a : Act} {K : Act -> World -> Prop} {Q : Exit -> Act -> World -> Prop} (s x : Operand)
 (ho : o.op = .call { callee := .builtin .append, args := #[s, x], argTypes := #[73, 73] })
 (base : Nat) (v : Value) (hs : a.eval s = v) (hown : OwnI w base v [])
 (b oo n c : Nat) (L : List Int) (hx : a.eval x = .slice (some ⟨b, oo, none⟩) n c) (hr0 : IRow w (some ⟨b, oo, none⟩) L) (hn : L.length = n) (hlen : L.length < 536870912) (hbase : base <= w.heap.size)
 (h : ∀ v' w', OwnI w' base v' L -> Below base w w' -> K (a.put o.dst v') w') : o.wp Try.prog a w K Q := by
 obtain ⟨ib, hib, hz0, hz1, hz2⟩ := info_parts infoI
 subst hn
 obtain ⟨v', w', hrun, h2, h3, _⟩ := run_append_own (P := Try.prog) w base 73 o.type 3 ib _ 1 8 (by rw [underRow]; exact Try.underlying70) hib hz0 hz1 hz2 rfl (by decide) v 0 [] hown ⟨b, oo, none⟩ L.length c (intsV L) (by rw [intsV_length, Nat.mul_one]) hr0.news (intsV_ones L) (by unfold maxLen; omega) (by omega) hbase
 have h2' : OwnI w' base v' L := by
  have e : (0 : Nat) + L.length = L.length := Nat.zero_add _
  rw [e, List.nil_append] at h2
  exact h2
 unfold Oper.wp execOp
 simp only [ho, resolve, invoke, builtin, Sem.run_bind, Sem.run_pure, Result.andThen_ok, List.map_toArray, List.map_cons, List.map_nil, hs, hx, hrun]
 exact h v' w' h2' ((Below.refl base w).grown h3 hbase (fun k hk => (World.ownsRow.lt hown k hk).1))
theorem rowL_at {n k : Nat} {F : Nat -> Nat} (h : k < n) : (rowL n F).getD k 0 = ((F k : Nat) : Int) := by
 rw [List.getD_eq_getElem?_getD, rowL_get h]; rfl
theorem made_int (n : Nat) : madeCells #[Value.int .i64 0] n = (intsV (List.replicate n 0)).toArray := by
 unfold madeCells intsV
 simp only [Array.size, List.length_cons, List.length_nil]
 refine Array.toList_inj.1 (List.ext_getElem? fun i => ?_)
 by_cases h : i < n
 ·simp [h, Nat.mod_one]
 ·simp [h]
theorem IsW.sl {W : List UInt8} {v : Value} {w : World} (h : IsW W v w) : ∃ A c, v = .slice A W.length c /\ W.length <= c := by
 rcases h with ⟨h1, h2⟩ | ⟨b, off, cap, h1, h2, -⟩
 ·subst h2; exact ⟨none, 0, h1, Nat.le_refl _⟩
 ·exact ⟨_, cap, h1, h2⟩
theorem rzero_any (uw : Value) (W : Wd) (w : World) (hw : IsW W uw w) (hn : W.length <= 1000) : Calls Try.prog 59 #[uw] w (RwN (rowL (W.length + 1) fun _ => 0) w) := by
 obtain ⟨A, c, rfl, -⟩ := hw.sl
 have hmk : ∀ W' : World, (Instr.makeSlice 73 (.int .i64 ((W.length : Int) + 1)) (.int .i64 ((W.length : Int) + 1))).run Try.prog W' = .ok (.slice (some ⟨W'.heap.size, 0, none⟩) (W.length + 1) (W.length + 1)) (W'.alloc (.cells (intsV (List.replicate (W.length + 1) 0)).toArray 3)) := fun W' => by
  rw [<- made_int, show ((W.length : Int) + 1) = ((W.length + 1 : Nat) : Int) by omega]
  exact run_make_row' 73 _ _ 8 (by rw [underRow]; exact Try.underlying70) (by kernel_rfl) rfl .i64 .i64 (W.length + 1) (by omega) (by omega) W'
 have HP : Hid (RwN (rowL (W.length + 1) fun _ => 0) w (.returned (.slice (some ⟨w.heap.size, 0, none⟩) (W.length + 1) (W.length + 1))) (w.alloc (.cells (intsV (List.replicate (W.length + 1) 0)).toArray 3))) := by
  refine ⟨_, rfl, ?_, (Below.refl w.heap.size w).alloc (Nat.le_refl _) _⟩
  rw [rowL_zero]
  refine ⟨by rw [intsV_length]; omega, .inr ⟨w.heap.size, W.length + 1, _, by rw [List.length_replicate], Nat.le_refl _, Blk.new w _ _, by rw [List.length_replicate]; exact Nat.le_refl _, by unfold maxLen; omega, by simp [intsV], ?_⟩⟩
  rw [List.length_replicate, List.toList_toArray]
  exact List.take_of_length_le (by rw [intsV_length, List.length_replicate]; omega)
 have hnz : (W.length : Int) <= 1000 := by omega
 clear hw hn
 generalize (intsV (List.replicate (W.length + 1) 0)).toArray = zs at *
 generalize W.length = n at *
 go_enter Try.func59, Try.ntmps59
 go_wp2
 go_ret
 exact HP.out
structure RplS (F G : Nat -> Nat) (t n base k : Nat) (v : Value) (B : Option Addr) (w0 w : World) : Prop where
 own : OwnI w base v (rowL n (plusK F G t k))
 bel : Below base w0 w
 low : base <= w.heap.size
 row : IRow w B (rowL n G)
theorem RplS.later {F G : Nat -> Nat} {t n base k : Nat} {v : Value} {B : Option Addr} {w0 w w' : World} (h : RplS F G t n base k v B w0 w) (hb : Below w.heap.size w w') : RplS F G t n base k v B w0 w' := ⟨h.own.later hb, h.bel.trans (hb.mono h.low), Nat.le_trans h.low hb.size, h.row.later hb⟩
def RplL (F G : Nat -> Nat) (t n base : Nat) (v : Value) (B : Option Addr) (w0 : World) (x : Value) (w : World) : Prop := ∃ k : Nat, k <= n /\ x = .int .i64 (k : Int) /\ RplS F G t n base k v B w0 w
set_option maxHeartbeats 16000000 in
theorem rplus_any (n t : Nat) (F G : Nat -> Nat) (va vb : Value) (w : World) (hn0 : 0 < n) (hn : n <= 2000) (hF : ∀ b, F b <= 2) (hG : ∀ b, G b <= 2) (ht : t <= 2) (hA : RdI n (rowL n F) va w) (hB : RdI n (rowL n G) vb w) :
 Calls Try.prog 61 #[va, vb, .int .i64 (t : Int)] w (RwN (rowL n (plusF F G t)) w) := by
 obtain ⟨A, ca, rfl, hA⟩ := hA
 obtain ⟨B, cb, rfl, hB⟩ := hB
 have hl : (rowL n F).length = n := rowL_length
 have hl2 : (rowL n G).length = n := rowL_length
 obtain ⟨bb, ob, rfl, -, -⟩ := hB 0 (by omega)
 obtain ⟨ba, oa, rfl, -, -⟩ := hA 0 (by omega)
 have hb1 := (Below.refl w.heap.size w).alloc (Nat.le_refl _) (.cells #[] 3)
 have HA1 := Lib.hid (hA.later hb1)
 have HO1 : Hid (OwnI (w.alloc (.cells #[] 3)) w.heap.size (.slice (some ⟨w.heap.size, 0, none⟩) 0 0) []) := by
  have := OwnI.empty (Blk.new w #[] 3) (Nat.le_refl _) (rowL n F)
  rwa [List.take_zero] at this
 have HB1 := Lib.hid hb1
 have HBR := Lib.hid hB
 have HBR0 := Lib.hid hB
 have HF := Lib.hid hF
 have HG := Lib.hid hG
 have HL := Lib.hid hl
 have HL2 := Lib.hid hl2
 have hnz : (n : Int) <= 2000 := by omega
 clear hA hB hb1 hF hG hl hl2
 go_enter Try.func61, Try.ntmps61
 go_wp2_with (at_builtin; refine wpList_plain rfl fun K hK => ?_; refine wp_append_row _ _ rfl w.heap.size _ rfl HO1.out ba oa n ca (rowL n F) rfl HA1.out HL.out (by have := HL.out; omega) HB1.out.size ?_; intro v' w7 h1 h2; have HO7 := Lib.hid h1; have HB7 := Lib.hid (HB1.out.trans h2); refine hK _ _ ?_; clear h1 h2 hK K HO1 HA1 HB1)
 obtain ⟨a7, c7, hv7, -⟩ := HO7.out.row
 rw [HL.out] at hv7
 subst hv7
 have HS0 : Hid (RplL F G t n w.heap.size (.slice a7 n c7) (some ⟨bb, ob, none⟩) w (.int .i64 0) w7) := ⟨0, Nat.zero_le _, rfl, by rw [plusK_zero]; exact HO7.out, HB7.out, HB7.out.size, HBR.out.later HB7.out⟩
 clear HO7 HB7 HBR
 go_wp2
 go_loopw [8] (RplL F G t n w.heap.size (.slice a7 n c7) (some ⟨bb, ob, none⟩) w) (fun x _ => n - (intOf x).toNat)
 case atStart => exact HS0.out
 case round =>
  obtain ⟨k, hk, rfl, hs⟩ := hrel
  have HS := Lib.hid hs
  clear HS0
  by_cases hlt : k < n
  ·have hltz : (k : Int) < (n : Int) := by omega
   have hK : plusK F G t k k = F k := by unfold plusK; rw [if_neg (Nat.lt_irrefl _)]
   obtain ⟨g, cap, hvv, hbg, -, -, -, -⟩ := hs.own.put (k := k) (by rw [rowL_length]; exact hlt) 0
   rw [rowL_length] at hvv
   obtain ⟨rfl, -, rfl⟩ := Value.slice.inj hvv
   have HCL : Hid (∀ w', RplS F G t n w.heap.size k (.slice (some ⟨g, 0, none⟩) n c7) (some ⟨bb, ob, none⟩) w w' -> w'.cell? ⟨g, k, none⟩ = some (.int .i64 ((F k : Nat) : Int)) /\ w'.cell? ⟨bb, ob + k, none⟩ = some (.int .i64 ((G k : Nat) : Int))) := fun w' h => by
    obtain ⟨g', cap', hv', -, -, -, hcl, -⟩ := h.own.put (k := k) (by rw [rowL_length]; exact hlt) 0
    rw [rowL_length] at hv'
    obtain ⟨e1, -, -⟩ := Value.slice.inj hv'
    cases e1
    rw [rowL_at hlt, hK] at hcl
    obtain ⟨b2, o2, hae, -, hc2⟩ := h.row k (by rw [HL2.out]; exact hlt)
    cases hae
    rw [rowL_at hlt] at hc2
    exact ⟨hcl, hc2⟩
   have h1 := HF.out k
   have h2 := HG.out k
   have h3 : plusF F G t k = min 2 (F k + t * G k) := rfl
   have HPU : Hid (∀ w', RplS F G t n w.heap.size k (.slice (some ⟨g, 0, none⟩) n c7) (some ⟨bb, ob, none⟩) w w' -> w'.frozen? ⟨g, k, none⟩ = false /\ RplS F G t n w.heap.size (k + 1) (.slice (some ⟨g, 0, none⟩) n c7) (some ⟨bb, ob, none⟩) w (w'.setCell ⟨g, k, none⟩ (.int .i64 ((plusF F G t k : Nat) : Int)))) := fun w' h => by
    obtain ⟨g', cap', hv', hbg, hgl, hset, -, hfz⟩ := h.own.put (k := k) (by rw [rowL_length]; exact hlt) ((plusF F G t k : Nat) : Int)
    rw [rowL_length] at hv'
    obtain ⟨e1, -, -⟩ := Value.slice.inj hv'
    cases e1
    rw [plusK_step hlt] at hset
    have hb := h.bel.setCell (p := ⟨g, k, none⟩) hbg (.int .i64 ((plusF F G t k : Nat) : Int))
    exact ⟨hfz, hset, hb, hb.size, HBR0.out.later hb⟩
   generalize plusF F G t k = z at *
   generalize F k = x at *
   generalize G k = y at *
   have hxy : t * y <= 4 := Nat.mul_le_mul ht h2
   obtain ⟨p, hp⟩ : ∃ p, t * y = p := ⟨_, rfl⟩
   have hpz : (t : Int) * (y : Int) = (p : Int) := by rw [<- hp]; exact (Int.natCast_mul t y).symm
   rw [hp] at h3 hxy
   have hmn : min (2 : Int) ((x : Int) + (p : Int)) = (z : Int) := by omega
   clear hvv hbg hK hp h3 hs
   go_upto_region 5 with (fail)
   refine wp_region_stable_last (S := (RplS F G t n w.heap.size k (.slice (some ⟨g, 0, none⟩) n c7) (some ⟨bb, ob, none⟩) w)) (hSt := fun _ _ h hb => h.later hb) (plan := [[(7, none)], [(8, none)], [(7, none)], [(8, none)], [(20, some 2), (21, some 3)], [(22, some 4)], [(2, none)], [(1, none)], [(8, none)], [(25, some 7), (26, some 8)], [(27, some 9)], [(24, some 6), (28, some 10)], [(23, some 5), (29, some 11)], [(30, some 12)], [(18, some 0), (19, some 1)]]) rfl (by kernel_rfl) (by kernel_rfl) (by kernel_rfl) (by kernel_rfl) ?hS ?_
   rotate_left
   simp only [List.dropLast]
   iterate 15 first
    | (refine chain_skip (by rfl) (by rfl) ?_)
    | (apply chain_want (by rfl)
       ·intro act wx hS hr
        simp at hr
        obtain ⟨hcl, hc2⟩ := HCL.out _ hS
        go_simp
        (try go_ints)
        first
         | exact Done.same
      )
   show ∀ w', _ -> _
   intro w9 hw9
   simp [Act.put]
   case hS => exact HS.out
   obtain ⟨hfz, hnx⟩ := HPU.out _ hw9
   obtain ⟨hcl, -⟩ := HCL.out _ hw9
   have HNX := Lib.hid hnx
   clear hnx hw9 HS HCL HPU
   go_wp2
   go_roundw
   case rel => exact ⟨k + 1, by omega, by go_num, HNX.out⟩
   case measure => simp [intOf]; omega
  ·obtain rfl : k = n := by omega
   have hlast : ¬ ((k : Nat) : Int) < (k : Int) := by omega
   have HPF : Hid (RwN (rowL k (plusF F G t)) w (.returned (.slice a7 k c7)) wr) := ⟨_, rfl, by rw [<- plusK_end]; exact hs.own, hs.bel⟩
   clear hs HS
   go_wp2
   go_ret
   exact HPF.out
end Go.Proofs.Ytidoofdofdhjpaa
namespace Go.Proofs.Ytidoofdofdhjpaa
open Go
set_option linter.unusedVariables false
set_option linter.unusedSimpArgs false
end Go.Proofs.Ytidoofdofdhjpaa
