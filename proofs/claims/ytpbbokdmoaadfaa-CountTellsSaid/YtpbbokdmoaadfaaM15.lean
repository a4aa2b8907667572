/- Where one comes through stars and repeats: plain mathematics. -/
import Derived.Test.YtpbbokdmoaadfaaM14
import Derived.Test.YtpbbokdmoaadfaaM03
import Derived.Test.YtpbbokdmoaadfaaM04
import Derived.Test.YtpbbokdmoaadfaaM07
namespace Go.Proofs.Ytpbbokdmoaadfaa
open Go
set_option linter.unusedVariables false
set_option linter.unusedSimpArgs false
set_option linter.unusedSectionVars false
theorem sg_first {f : Nat -> Nat} : ∀ {n : Nat}, sg (n + 1) f = f 0 + sg n fun k => f (k + 1)
  | 0 => by rw [sg_succ, sg_zero, sg_zero]; omega
  | n + 1 => by rw [sg_succ, sg_first, sg_succ]; omega
def cV (l : List Nd) (i : Nat) (W : Wd) (a b : Nat) : Nat := if a <= b then cntN l i (sgW W a b) else 0
theorem rowV_cV {l : List Nd} {i : Nat} {W : Wd} {a b : Nat} : rowV l i W a b = min 2 (cV l i W a b) := by
  unfold rowV cV; split <;> rfl
section
variable {l : List Nd} {i : Nat} {W : Wd} {F : Nat -> Nat} {a b : Nat} (hF : Form l) (hi : i < l.length) (hb : b < W.length + 1)
include hF hi hb
theorem star_rec (hk : (atN l i).kind = 6) : cV l i W a b = (if b = a then 1 else 0) + sg b fun p => cV l i W a p * cV l (atN l i).a.toNat W p b := by
  have ha := cnt_kidA hF hi (by omega)
  by_cases h : a <= b
  · have hl : (sgW W a b).length = b - a := sgW_len (by omega)
    conv => lhs; unfold cV
    rw [if_pos h, cnt_k6 hF hi hk (M := W.length + 1 + 1) (by omega)]
    show sg (W.length + 1 + 1) _ = _
    rw [sg_first, cntT_zero hF (by omega)]
    congr 1
    · by_cases e : b = a
      · rw [if_pos ((sgW_nil (by omega) h).2 e), if_pos e]
      · rw [if_neg (fun h' => e ((sgW_nil (by omega) h).1 h')), if_neg e]
    · have e1 : ∀ t, t < W.length + 1 -> cntT l (atN l i).a.toNat (t + 1) (sgW W a b) = sg (b - a) fun k => cntT l (atN l i).a.toNat t ((sgW W a b).take k) * cntN l (atN l i).a.toNat ((sgW W a b).drop k) := fun t _ => by
        rw [cntT_more hF (by omega), hl]; rfl
      rw [sg_congr e1, sg_swap]
      have e2 : sg b (fun p => cV l i W a p * cV l (atN l i).a.toNat W p b) = sg (b - a) fun k => cV l i W a (a + k) * cV l (atN l i).a.toNat W (a + k) b := by
        unfold sg
        refine sum_mid (by omega) fun k hk h' => ?_
        unfold cV
        rw [if_neg (c := a <= k) (by omega), Nat.zero_mul]
      rw [e2]
      refine sg_congr fun k hk => ?_
      rw [sg_mulr]
      unfold cV
      rw [if_pos (by omega), if_pos (by omega), sgW_take (by omega), sgW_drop]
      congr 1
      rw [cnt_k6 hF hi ‹_› (M := W.length + 1) (by rw [sgW_len (by omega)]; omega)]
      rfl
  · unfold cV
    rw [if_neg h, if_neg (by omega), sg_nil fun k hk => by rw [if_neg (by omega), Nat.zero_mul]]
theorem th_star (hk : (atN l i).kind = 6) : thV l i W F b = min 2 (F b + sg b fun p => thV l i W F p * rowV l (atN l i).a.toNat W p b) := by
  have e0 : ∀ p, thV l i W F p = min 2 (sg (W.length + 1) fun j => F j * cV l i W j p) := fun p => by
    unfold thV
    exact sg_sat fun j _ => by rw [rowV_cV, sat_r]
  rw [e0 b]
  have e1 : (sg (W.length + 1) fun j => F j * cV l i W j b) = F b + sg b fun p => (sg (W.length + 1) fun j => F j * cV l i W j p) * cV l (atN l i).a.toNat W p b := by
    rw [sg_congr fun j _ => by rw [star_rec hF hi hb hk, Nat.mul_add, <- sg_mul], sg_add, sg_swap]
    congr 1
    · rw [sg_one hb fun k _ hne => by rw [if_neg (fun e => hne e.symm), Nat.mul_zero], if_pos rfl, Nat.mul_one]
    · refine sg_congr fun p _ => ?_
      rw [<- sg_mulr]
      exact sg_congr fun j _ => by rw [Nat.mul_assoc]
  rw [e1]
  refine sat_add rfl (sg_sat fun p _ => ?_)
  rw [e0 p, rowV_cV, sat_mul]
end
def stF (l : List Nd) (i a : Nat) (W : Wd) (F : Nat -> Nat) (q b : Nat) : Nat := min 2 (F b + sg (min q b) fun p => thV l i W F p * rowV l a W p b)
theorem stF_le {l : List Nd} {i a : Nat} {W : Wd} {F : Nat -> Nat} {q b : Nat} : stF l i a W F q b <= 2 := by unfold stF; omega
theorem stF_start {l : List Nd} {i a : Nat} {W : Wd} {F : Nat -> Nat} {f b : Nat} (hF : ∀ j, j < f -> F j = 0) : stF l i a W F f b = min 2 (F b) := by
  unfold stF
  rw [sg_nil fun p hp => by rw [thV_below hF (by omega), Nat.zero_mul], Nat.add_zero]
theorem stF_step {l : List Nd} {i a : Nat} {W : Wd} {F : Nat -> Nat} {q b : Nat} : stF l i a W F (q + 1) b = if q < b then min 2 (stF l i a W F q b + thV l i W F q * rowV l a W q b) else stF l i a W F q b := by
  unfold stF
  split
  · rename_i h
    rw [Nat.min_eq_left (show q + 1 <= b by omega), Nat.min_eq_left (show q <= b by omega), sg_succ]; omega
  · rw [Nat.min_eq_right (show b <= q + 1 by omega), Nat.min_eq_right (show b <= q by omega)]
section
variable {l : List Nd} {i : Nat} {W : Wd} {F : Nat -> Nat} {b : Nat} (hF : Form l) (hi : i < l.length)
include hF hi
theorem stF_done (hb : b < W.length + 1) (hk : (atN l i).kind = 6) {q : Nat} (hq : b <= q) : stF l i (atN l i).a.toNat W F q b = thV l i W F b := by
  rw [th_star hF hi hb hk]
  unfold stF
  rw [Nat.min_eq_right hq]
theorem stF_end (hk : (atN l i).kind = 6) {q : Nat} (h0 : ∀ b, q <= b -> b < W.length + 1 -> stF l i (atN l i).a.toNat W F q b = 0) : ∀ b, b < W.length + 1 -> stF l i (atN l i).a.toNat W F q b = thV l i W F b := by
  intro b
  induction b using Nat.strongRecOn with
  | ind b ih =>
    intro hb
    rcases Nat.lt_or_ge b q with h | h
    · exact stF_done hF hi hb hk (by omega)
    · have hz := h0 b h hb
      rw [hz, th_star hF hi hb hk]
      have e1 : F b = 0 := by unfold stF at hz; omega
      have e2 : sg b (fun p => thV l i W F p * rowV l (atN l i).a.toNat W p b) = sg q fun p => thV l i W F p * rowV l (atN l i).a.toNat W p b := by
        refine sg_up h fun p h1 h2 => ?_
        rw [<- ih p h2 (by omega), h0 p h1 (by omega), Nat.zero_mul]
      rw [e1, e2]
      unfold stF at hz
      rw [Nat.min_eq_left h] at hz
      omega
end
def kdL (q x : Nat) (L : List (Nat × Nat)) : List (Nat × Nat) := L.filterMap fun p => if q < p.1 then some (p.1, x * p.2) else none
theorem kdL_snoc {q x : Nat} {L : List (Nat × Nat)} {p : Nat × Nat} : kdL q x (L ++ [p]) = kdL q x L ++ if q < p.1 then [(p.1, x * p.2)] else [] := by
  unfold kdL
  rw [List.filterMap_append]
  congr 1
  by_cases h : q < p.1 <;> simp [h]
theorem kdL_sum {q x b : Nat} : ∀ {L : List (Nat × Nat)}, sumAt (kdL q x L) b = if q < b then x * sumAt L b else 0
  | [] => by simp [kdL, sumAt]
  | p :: L => by
    have ih := kdL_sum (q := q) (x := x) (b := b) (L := L)
    unfold kdL at ih ⊢
    rw [List.filterMap_cons]
    by_cases h : q < p.1
    · simp only [h, if_true, sumAt]
      rw [ih]
      by_cases e : p.1 = b
      · rw [if_pos e, if_pos e, <- e, if_pos h, if_pos h, Nat.mul_add]
      · rw [if_neg e, if_neg e]; simp
    · simp only [h, if_false, sumAt]
      rw [ih]
      by_cases e : p.1 = b
      · rw [<- e, if_neg h, if_neg h]
      · rw [if_neg e]; simp
theorem kdL_mem {q x : Nat} {L : List (Nat × Nat)} {p : Nat × Nat} (h : p ∈ kdL q x L) : q < p.1 /\ ∃ y, (p.1, y) ∈ L := by
  unfold kdL at h
  obtain ⟨r, hr, h⟩ := List.mem_filterMap.1 h
  split at h
  · cases h; exact ⟨‹_›, r.2, hr⟩
  · cases h
theorem kd_tally {first q x n : Nat} {S : List UInt8} {G : Nat -> Nat} (hq : first <= q) (hS : first + S.length <= n \/ S = []) (h2 : ∀ b, tyF first S b <= 2) :
    (first + (tyAll first S (kdL q x (plF n G))).length <= n \/ tyAll first S (kdL q x (plF n G)) = []) /\ ∀ b, b < n -> tyF first (tyAll first S (kdL q x (plF n G))) b = if q < b then min 2 (tyF first S b + x * G b) else tyF first S b := by
  have hp : ∀ p ∈ kdL q x (plF n G), first <= p.1 /\ p.1 < n := fun p hp => by
    obtain ⟨h1, y, h3⟩ := kdL_mem hp
    exact ⟨by omega, (mem_plF.1 h3).1⟩
  refine ⟨?_, fun b hb => ?_⟩
  · rcases hS with hS | hS
    · exact .inl (tyAll_reach hS hp)
    · subst hS
      cases hk : kdL q x (plF n G) with
      | nil => exact .inr rfl
      | cons r R =>
        have := hp r (by rw [hk]; simp)
        rw [hk] at hp
        exact .inl (tyAll_reach (by simp; omega) hp)
  · rw [tyF_all (fun p h => (hp p h).1) (h2 b), kdL_sum, sumAt_plF, if_pos hb]
    split
    · rfl
    · have := h2 b; omega
theorem ty_two {first : Nat} : ∀ {L : List (Nat × Nat)} {S : List UInt8}, (∀ p ∈ L, first <= p.1) -> (∀ b, tyF first S b <= 2) -> ∀ b, tyF first (tyAll first S L) b <= 2 := fun hL h b => by rw [tyF_all hL (h b)]; omega
def moS (first n : Nat) (R : Nat -> Nat -> Nat) : List UInt8 -> List (Nat × Nat) -> List UInt8
  | S, [] => S
  | S, p :: L => moS first n R (tyAll first S (kdL p.1 p.2 (plF n (R p.1)))) L
theorem moS_snoc {first n : Nat} {R : Nat -> Nat -> Nat} : ∀ {L : List (Nat × Nat)} {S : List UInt8} {p : Nat × Nat}, moS first n R S (L ++ [p]) = tyAll first (moS first n R S L) (kdL p.1 p.2 (plF n (R p.1)))
  | [], S, p => rfl
  | q :: L, S, p => by
    rw [List.cons_append]
    show moS first n R _ (L ++ [p]) = _
    rw [moS_snoc]; rfl
theorem moS_F {first n : Nat} {R : Nat -> Nat -> Nat} : ∀ {L : List (Nat × Nat)} {S : List UInt8}, (∀ p ∈ L, first <= p.1) -> (first + S.length <= n \/ S = []) -> (∀ b, tyF first S b <= 2) ->
    (first + (moS first n R S L).length <= n \/ moS first n R S L = []) /\ (∀ b, tyF first (moS first n R S L) b <= 2) /\ ∀ b, b < n -> tyF first (moS first n R S L) b = min 2 (tyF first S b + thrL L (fun j b => if j < b then R j b else 0) b)
  | [], S, _, hS, h2 => ⟨hS, h2, fun b _ => by show tyF first S b = min 2 (_ + 0); have := h2 b; omega⟩
  | p :: L, S, hp, hS, h2 => by
    have h1 := kd_tally (x := p.2) (G := R p.1) (hp p (by simp)) hS h2
    have h3 : ∀ b, tyF first (tyAll first S (kdL p.1 p.2 (plF n (R p.1)))) b <= 2 := ty_two (fun q hq => by
      have := (kdL_mem hq).1
      have := hp p (by simp)
      omega) h2
    obtain ⟨k1, k2, k3⟩ := moS_F (L := L) (fun q hq => hp q (List.mem_cons_of_mem _ hq)) h1.1 h3
    refine ⟨k1, k2, fun b hb => ?_⟩
    show tyF first (moS first n R _ L) b = _
    rw [k3 b hb, h1.2 b hb]
    have e : thrL (p :: L) (fun j b => if j < b then R j b else 0) b = p.2 * (if p.1 < b then R p.1 b else 0) + thrL L (fun j b => if j < b then R j b else 0) b := by unfold thrL; rw [List.map_cons, List.sum_cons]
    rw [e]
    split
    · omega
    · rw [Nat.mul_zero]; omega
def nF (l : List Nd) (a : Nat) (W : Wd) (F : Nat -> Nat) (t b : Nat) : Nat := min 2 (sg (W.length + 1) fun j => F j * nowV l a W j t b)
theorem nF_le {l : List Nd} {a : Nat} {W : Wd} {F : Nat -> Nat} {t b : Nat} : nF l a W F t b <= 2 := by unfold nF; omega
section
variable {l : List Nd} {a : Nat} {W : Wd} {F : Nat -> Nat} {b : Nat} (hF : Form l) (ha : a < l.length) (hb : b < W.length + 1)
include hF ha hb
theorem nF_zero (h2 : F b <= 2) : nF l a W F 0 b = F b := by
  unfold nF
  rw [sg_one hb fun k _ hne => by rw [now_zero hF ha (by omega), if_neg (fun e => hne e.symm), Nat.mul_zero], now_zero hF ha (by omega), if_pos rfl, Nat.mul_one]; omega
theorem nF_more {t : Nat} : min 2 (sg (W.length + 1) fun p => nF l a W F t p * if p < b then rowV l a W p b else 0) = nF l a W F (t + 1) b := by
  unfold nF
  have e0 : ∀ k, k < W.length + 1 -> min 2 (min 2 (sg (W.length + 1) fun j => F j * nowV l a W j t k) * (if k < b then rowV l a W k b else 0)) = min 2 (sg (W.length + 1) fun j => F j * nowV l a W j t k * if k < b then rowV l a W k b else 0) := fun k _ => by rw [sat_l, <- sg_mulr]
  rw [sg_sat e0, sg_swap]
  refine sg_sat fun j _ => ?_
  rw [sg_congr fun k _ => by rw [Nat.mul_assoc], sg_mul, <- sat_r]
  have := now_more (a := j) (t := t) hF ha (show b <= W.length by omega)
  rw [<- this]
  congr 3
  refine sg_congr fun k hk => ?_
  congr 1
  by_cases h : k < b
  · rw [if_pos h, if_neg (by omega)]
  · by_cases e : b = k
    · rw [if_neg h, if_pos e]
    · rw [if_neg h, if_neg e, rowV_back (by omega)]
end
section
variable {l : List Nd} {a : Nat} {W : Wd} {F : Nat -> Nat} (hF : Form l) (ha : a < l.length)
include hF ha
theorem nF_dead {t : Nat} (h : ∀ b, b < W.length + 1 -> nF l a W F t b = 0) : ∀ (s b : Nat), t <= s -> b < W.length + 1 -> nF l a W F s b = 0 := by
  intro s
  induction s with
  | zero =>
    intro b hs hb
    obtain rfl : t = 0 := by omega
    exact h b hb
  | succ s ih =>
    intro b hs hb
    rcases Nat.lt_or_ge s t with h' | h'
    · rw [show s + 1 = t by omega]; exact h b hb
    · rw [<- nF_more hF ha hb, sg_nil fun p hp => by rw [ih p h' hp, Nat.zero_mul]]; rfl
end
theorem nowV_long {l : List Nd} {a : Nat} {W : Wd} {j t b : Nat} (h : W.length < t) (hb : b < W.length + 1) : nowV l a W j t b = 0 := by
  unfold nowV
  split
  · unfold cntT runT
    rw [List.filter_eq_nil_iff.2]
    · rfl
    · intro xs hx
      have := runL_short hx
      rw [sgW_len (by omega)] at this
      simp; omega
  · rfl
section
variable {l : List Nd} {i : Nat} {W : Wd} {F : Nat -> Nat} {b : Nat} (hF : Form l) (hi : i < l.length) (hb : b < W.length + 1)
include hF hi hb
theorem th_k7 (hk : (atN l i).kind = 7) : thV l i W F b = min 2 (sg (W.length + 2) fun (t : Nat) => if (atN l i).lo <= (t : Int) /\ (t : Int) <= (atN l i).hi then nF l (atN l i).a.toNat W F t b else 0) := by
  have e : ∀ t : Nat, t < W.length + 2 -> min 2 (if (atN l i).lo <= (t : Int) /\ (t : Int) <= (atN l i).hi then nF l (atN l i).a.toNat W F t b else 0) = min 2 (sg (W.length + 1) fun j => F j * if (atN l i).lo <= (t : Int) /\ (t : Int) <= (atN l i).hi then nowV l (atN l i).a.toNat W j t b else 0) := fun t _ => by
    split
    · unfold nF; omega
    · rw [sg_nil fun _ _ => Nat.mul_zero _]
  rw [sg_sat e, sg_swap]
  unfold thV
  refine sg_sat fun j _ => ?_
  rw [sg_mul, <- sat_r (y := sg _ _)]
  congr 2
  exact (row_k7 (a := j) hF hi (by omega) hk).symm
theorem th_rep (hk : (atN l i).kind = 7) {k : Nat} (hk1 : (k : Int) <= (atN l i).hi + 1) (h0 : ∀ t : Nat, k <= t -> (t : Int) <= (atN l i).hi -> nF l (atN l i).a.toNat W F t b = 0) :
    min 2 (sg k fun (t : Nat) => if (atN l i).lo <= (t : Int) then nF l (atN l i).a.toNat W F t b else 0) = thV l i W F b := by
  rw [th_k7 hF hi hb hk]
  congr 1
  have e1 : (sg k fun (t : Nat) => if (atN l i).lo <= (t : Int) then nF l (atN l i).a.toNat W F t b else 0) = sg k fun (t : Nat) => if (atN l i).lo <= (t : Int) /\ (t : Int) <= (atN l i).hi then nF l (atN l i).a.toNat W F t b else 0 := sg_congr fun t ht => by
    by_cases h : (atN l i).lo <= (t : Int)
    · rw [if_pos h, if_pos ⟨h, by omega⟩]
    · rw [if_neg h, if_neg (fun h' => h h'.1)]
  rw [e1, <- sg_up (m := max k (W.length + 2)) (n := k) (by omega), <- sg_up (m := max k (W.length + 2)) (n := W.length + 2) (by omega)]
  · intro t h1 h2
    split
    · unfold nF
      rw [sg_nil fun j _ => by rw [nowV_long (by omega) hb, Nat.mul_zero]]; rfl
    · rfl
  · intro t h1 h2
    split
    · rename_i h; exact h0 t h1 h.2
    · rfl
end
def inBy (l : List UInt8) (i a b : Nat) : Bool := match l[i]? with
  | none => false
  | some c => decide (a <= c.toNat) && decide (c.toNat <= b)
def nextU (l : List UInt8) (i : Nat) : Option Nat :=
  let c := (l.getD i 0).toNat
  if c < 128 then some 1
  else if (194 <= c /\ c <= 223) /\ inBy l (i + 1) 128 191 = true then some 2
  else if c = 224 /\ inBy l (i + 1) 160 191 = true /\ inBy l (i + 2) 128 191 = true then some 3
  else if ((225 <= c /\ c <= 236) \/ c = 238 \/ c = 239) /\ inBy l (i + 1) 128 191 = true /\ inBy l (i + 2) 128 191 = true then some 3
  else if c = 237 /\ inBy l (i + 1) 128 159 = true /\ inBy l (i + 2) 128 191 = true then some 3
  else if c = 240 /\ inBy l (i + 1) 144 191 = true /\ inBy l (i + 2) 128 191 = true /\ inBy l (i + 3) 128 191 = true then some 4
  else if (241 <= c /\ c <= 243) /\ inBy l (i + 1) 128 191 = true /\ inBy l (i + 2) 128 191 = true /\ inBy l (i + 3) 128 191 = true then some 4
  else if c = 244 /\ inBy l (i + 1) 128 143 = true /\ inBy l (i + 2) 128 191 = true /\ inBy l (i + 3) 128 191 = true then some 4
  else none
theorem inB_drop (l : List UInt8) (i k a b : Nat) : inBy l (i + k) a b = inBy (l.drop i) k a b := by unfold inBy; rw [List.getElem?_drop]
theorem nextU_drop (l : List UInt8) (i : Nat) : nextU l i = nextU (l.drop i) 0 := by
  unfold nextU
  simp only [inB_drop l i, Nat.zero_add, List.getD_eq_getElem?_getD, List.getElem?_drop, Nat.add_zero]
theorem inB_cons (c : UInt8) (l : List UInt8) (i a b : Nat) : inBy (c :: l) (i + 1) a b = inBy l i a b := id rfl
theorem inB_head (c : UInt8) (l : List UInt8) (a b : Nat) : inBy (c :: l) 0 a b = tailB a b c := id rfl
theorem inB_nil (i a b : Nat) : inBy [] i a b = false := id rfl
set_option maxHeartbeats 4000000 in
theorem utf8_next0 (c : UInt8) (l : List UInt8) : utf8L (c :: l) = match nextU (c :: l) 0 with
    | none => false
    | some k => utf8L ((c :: l).drop k) := by
  unfold nextU
  simp only [Nat.zero_add, inB_cons, show (c :: l).getD 0 0 = c from rfl]
  conv => lhs; unfold utf8L
  by_cases h1 : c.toNat < 128
  · simp [h1]
  by_cases h2 : 194 <= c.toNat /\ c.toNat <= 223
  · have g1 : ¬ c.toNat = 224 := by omega
    have g2 : ¬ (225 <= c.toNat /\ c.toNat <= 236 \/ c.toNat = 238 \/ c.toNat = 239) := by omega
    have g3 : ¬ c.toNat = 237 := by omega
    have g4 : ¬ c.toNat = 240 := by omega
    have g5 : ¬ (241 <= c.toNat /\ c.toNat <= 243) := by omega
    have g6 : ¬ c.toNat = 244 := by omega
    simp only [h1, h2, g1, g2, g3, g4, g5, g6, if_false, if_true, false_and, true_and, and_self]
    cases l with
    | nil => simp [inB_nil]
    | cons b l => simp only [inB_head]; cases tailB 128 191 b <;> simp
  by_cases h3 : c.toNat = 224
  · have g2 : ¬ (225 <= c.toNat /\ c.toNat <= 236 \/ c.toNat = 238 \/ c.toNat = 239) := by omega
    have g3 : ¬ c.toNat = 237 := by omega
    have g4 : ¬ c.toNat = 240 := by omega
    have g5 : ¬ (241 <= c.toNat /\ c.toNat <= 243) := by omega
    have g6 : ¬ c.toNat = 244 := by omega
    rw [h3] at h1 h2 g2 g3 g4 g5 g6
    simp only [h3, h1, h2, g2, g3, g4, g5, g6, if_false, if_true, false_and, true_and, and_self]
    cases l with
    | nil => simp [inB_nil]
    | cons b l => cases l with
      | nil => simp [inB_nil, inB_cons]
      | cons d l => simp only [inB_head, inB_cons]; cases tailB 160 191 b <;> cases tailB 128 191 d <;> simp
  by_cases h4 : c.toNat = 237
  · have g2 : ¬ (225 <= c.toNat /\ c.toNat <= 236 \/ c.toNat = 238 \/ c.toNat = 239) := by omega
    have g4 : ¬ c.toNat = 240 := by omega
    have g5 : ¬ (241 <= c.toNat /\ c.toNat <= 243) := by omega
    have g6 : ¬ c.toNat = 244 := by omega
    rw [h4] at h1 h2 h3 g2 g4 g5 g6
    simp only [h4, h1, h2, h3, g2, g4, g5, g6, if_false, if_true, false_and, true_and, and_self]
    cases l with
    | nil => simp [inB_nil]
    | cons b l => cases l with
      | nil => simp [inB_nil, inB_cons]
      | cons d l => simp only [inB_head, inB_cons]; cases tailB 128 159 b <;> cases tailB 128 191 d <;> simp
  by_cases h5 : 225 <= c.toNat /\ c.toNat <= 239
  · have g2 : (225 <= c.toNat /\ c.toNat <= 236 \/ c.toNat = 238 \/ c.toNat = 239) := by omega
    have g4 : ¬ c.toNat = 240 := by omega
    have g5 : ¬ (241 <= c.toNat /\ c.toNat <= 243) := by omega
    have g6 : ¬ c.toNat = 244 := by omega
    simp only [h4, h1, h2, h3, h5, g2, g4, g5, g6, if_false, if_true, false_and, true_and, and_self]
    cases l with
    | nil => simp [inB_nil]
    | cons b l => cases l with
      | nil => simp [inB_nil, inB_cons]
      | cons d l => simp only [inB_head, inB_cons]; cases tailB 128 191 b <;> cases tailB 128 191 d <;> simp [show c.toNat <= 236 \/ c.toNat = 238 \/ c.toNat = 239 by omega]
  have g2 : ¬ (225 <= c.toNat /\ c.toNat <= 236 \/ c.toNat = 238 \/ c.toNat = 239) := by omega
  by_cases h7 : c.toNat = 240
  · have g5 : ¬ (241 <= c.toNat /\ c.toNat <= 243) := by omega
    have g6 : ¬ c.toNat = 244 := by omega
    rw [h7] at h1 h2 h3 h4 h5 g2 g5 g6
    simp only [h7, h4, h1, h2, h3, h5, g2, g5, g6, if_false, if_true, false_and, true_and, and_self]
    cases l with
    | nil => simp [inB_nil]
    | cons b l => cases l with
      | nil => simp [inB_nil, inB_cons]
      | cons d l => cases l with
        | nil => simp [inB_nil, inB_cons]
        | cons e l => simp only [inB_head, inB_cons]; cases tailB 144 191 b <;> cases tailB 128 191 d <;> cases tailB 128 191 e <;> simp
  by_cases h8 : 241 <= c.toNat /\ c.toNat <= 243
  · have g6 : ¬ c.toNat = 244 := by omega
    simp only [h7, h8, h4, h1, h2, h3, h5, g2, g6, if_false, if_true, false_and, true_and, and_self]
    cases l with
    | nil => simp [inB_nil]
    | cons b l => cases l with
      | nil => simp [inB_nil, inB_cons]
      | cons d l => cases l with
        | nil => simp [inB_nil, inB_cons]
        | cons e l => simp only [inB_head, inB_cons]; cases tailB 128 191 b <;> cases tailB 128 191 d <;> cases tailB 128 191 e <;> simp
  by_cases h9 : c.toNat = 244
  · rw [h9] at h1 h2 h3 h4 h5 h7 h8 g2
    simp only [h9, h7, h8, h4, h1, h2, h3, h5, g2, if_false, if_true, false_and, true_and, and_self]
    cases l with
    | nil => simp [inB_nil]
    | cons b l => cases l with
      | nil => simp [inB_nil, inB_cons]
      | cons d l => cases l with
        | nil => simp [inB_nil, inB_cons]
        | cons e l => simp only [inB_head, inB_cons]; cases tailB 128 143 b <;> cases tailB 128 191 d <;> cases tailB 128 191 e <;> simp
  simp only [h9, h7, h8, h4, h1, h2, h3, h5, g2, if_false, if_true, false_and, true_and, and_self]
  cases l with
  | nil => rfl
  | cons b l => cases l with
    | nil => rfl
    | cons d l => cases l with
      | nil => rfl
      | cons e l => rfl
theorem utf8_next {l : List UInt8} {i : Nat} (h : i < l.length) : utf8L (l.drop i) = match nextU l i with
    | none => false
    | some k => utf8L (l.drop (i + k)) := by
  rw [nextU_drop, List.drop_eq_getElem_cons h, utf8_next0, <- List.drop_eq_getElem_cons h]
  cases nextU (l.drop i) 0 with
  | none => rfl
  | some k => simp only; rw [List.drop_drop]
theorem inB_lt {l : List UInt8} {i a b : Nat} (h : inBy l i a b = true) : i < l.length := by
  unfold inBy at h
  cases hc : l[i]? with
  | none => rw [hc] at h; cases h
  | some c => exact (List.getElem?_eq_some_iff.1 hc).1
theorem nextU_le {l : List UInt8} {i k : Nat} (hi : i < l.length) (h : nextU l i = some k) : 0 < k /\ i + k <= l.length := by
  unfold nextU at h
  simp only at h
  split at h
  · cases h; omega
  · repeat' (split at h)
    all_goals first
      | (cases h; rename_i hh; have := inB_lt hh.2; omega)
      | (cases h; rename_i hh; have := inB_lt hh.2.2; omega)
      | (cases h; rename_i hh; have := inB_lt hh.2.2.2; omega)
      | cases h
end Go.Proofs.Ytpbbokdmoaadfaa
namespace Go.Proofs.Ytpbbokdmoaadfaa
open Go Go.RowKit
set_option linter.unusedVariables false
set_option linter.unusedSimpArgs false
set_option maxHeartbeats 2000000 in
theorem in_any (l : List UInt8) (i a b : Nat) (hi : i < 9223372036854775807) (w : World) : Calls Try.prog 79 #[.string (bs l), .int .i64 (i : Int), .int .i64 (a : Int), .int .i64 (b : Int)] w (Pure w (.bool (inBy l i a b))) := by
  by_cases hlt : i < l.length
  · have hl : inBy l i a b = (decide (a <= (l[i]'hlt).toNat) && decide ((l[i]'hlt).toNat <= b)) := by unfold inBy; rw [List.getElem?_eq_getElem hlt]
    have hq : i < (bs l).size := by rw [bs_size]; exact hlt
    have hq2 : (i : Int) < ((bs l).size : Int) := by omega
    have hget : (bs l)[i]'hq = l[i]'hlt := bs_get _ _ _
    have HL := Lib.hid hl
    have hc8 : ((l[i]'hlt).toNat : Int) <= 255 := by have := UInt8.toNat_lt (l[i]'hlt); omega
    generalize l[i]'hlt = c at *
    clear hl
    by_cases h1 : a <= c.toNat
    · have h1z : (c.toNat : Int) >= (a : Int) := by omega
      by_cases h2 : c.toNat <= b
      · have h2z : (c.toNat : Int) <= (b : Int) := by omega
        have HR : Hid (inBy l i a b = true) := by unfold Hid; rw [HL.out]; simp [h1, h2]
        clear hlt
        go_enter Try.func79, Try.ntmps79
        go_wp2
        go_ret
        exact ⟨by rw [HR.out]; rfl, rfl⟩
      · have h2z : ¬ (c.toNat : Int) <= (b : Int) := by omega
        have HR : Hid (inBy l i a b = false) := by unfold Hid; rw [HL.out]; simp; omega
        clear hlt
        go_enter Try.func79, Try.ntmps79
        go_wp2
        go_ret
        exact ⟨by rw [HR.out]; rfl, rfl⟩
    · have h1z : ¬ (c.toNat : Int) >= (a : Int) := by omega
      have HR : Hid (inBy l i a b = false) := by unfold Hid; rw [HL.out]; simp; omega
      clear hlt
      go_enter Try.func79, Try.ntmps79
      go_wp2
      go_ret
      exact ⟨by rw [HR.out]; rfl, rfl⟩
  · have hq2 : ¬ (i : Int) < ((bs l).size : Int) := by rw [bs_size]; omega
    have HR : Hid (inBy l i a b = false) := by unfold Hid inBy; rw [List.getElem?_eq_none (by omega)]
    clear hlt
    go_enter Try.func79, Try.ntmps79
    go_wp2
    go_ret
    exact ⟨by rw [HR.out]; rfl, rfl⟩
def UtL (l : List UInt8) (w0 : World) (i : Value) (w : World) : Prop := ∃ k : Nat, k <= l.length /\ i = .int .i64 (k : Int) /\ utf8L l = utf8L (l.drop k) /\ w0 = w
set_option maxHeartbeats 64000000 in
set_option maxRecDepth 1000000 in
theorem refutf8_any (l : List UInt8) (hl : l.length < 9223372036854775800) (w : World) : Calls Try.prog 65 #[.string (bs l)] w (Pure w (.bool (utf8L l))) := by
  obtain ⟨v, hv⟩ : ∃ v, utf8L l = v := ⟨_, rfl⟩
  rw [hv]
  have HV := Lib.hid hv
  clear hv
  go_enter Try.func65, Try.ntmps65
  go_wp2
  go_loopw [3] (UtL l w) (fun i _ => l.length - (intOf i).toNat)
  case atStart => exact ⟨0, Nat.zero_le _, rfl, rfl, rfl⟩
  case round =>
    obtain ⟨k, hk, rfl, hu, rfl⟩ := hrel
    have HU := Lib.hid hu
    clear hu
    by_cases hlt : k < l.length
    · have hltz : (k : Int) < ((bs l).size : Int) := by rw [bs_size]; omega
      have hq : k < (bs l).size := by rw [bs_size]; exact hlt
      have hget : (bs l)[k]'hq = l.getD k 0 := by rw [bs_get, List.getD_eq_getElem?_getD, List.getElem?_eq_getElem hlt]; rfl
      have HN := Lib.hid (utf8_next hlt)
      have HNL := Lib.hid (fun j (h : nextU l k = some j) => nextU_le hlt h)
      have HC : Hid (nextU l k = _) := rfl
      have I1 : Hid (∀ w, Calls Try.prog 79 #[.string (bs l), .int .i64 ((k : Int) + 1), .int .i64 128, .int .i64 191] w (Pure w (.bool (inBy l (k + 1) 128 191)))) := fun w => in_any l (k + 1) 128 191 (by omega) w
      have I2 : Hid (∀ w, Calls Try.prog 79 #[.string (bs l), .int .i64 ((k : Int) + 2), .int .i64 128, .int .i64 191] w (Pure w (.bool (inBy l (k + 2) 128 191)))) := fun w => in_any l (k + 2) 128 191 (by omega) w
      have I3 : Hid (∀ w, Calls Try.prog 79 #[.string (bs l), .int .i64 ((k : Int) + 3), .int .i64 128, .int .i64 191] w (Pure w (.bool (inBy l (k + 3) 128 191)))) := fun w => in_any l (k + 3) 128 191 (by omega) w
      have J1 : Hid (∀ w, Calls Try.prog 79 #[.string (bs l), .int .i64 ((k : Int) + 1), .int .i64 160, .int .i64 191] w (Pure w (.bool (inBy l (k + 1) 160 191)))) := fun w => in_any l (k + 1) 160 191 (by omega) w
      have J2 : Hid (∀ w, Calls Try.prog 79 #[.string (bs l), .int .i64 ((k : Int) + 1), .int .i64 128, .int .i64 159] w (Pure w (.bool (inBy l (k + 1) 128 159)))) := fun w => in_any l (k + 1) 128 159 (by omega) w
      have J3 : Hid (∀ w, Calls Try.prog 79 #[.string (bs l), .int .i64 ((k : Int) + 1), .int .i64 144, .int .i64 191] w (Pure w (.bool (inBy l (k + 1) 144 191)))) := fun w => in_any l (k + 1) 144 191 (by omega) w
      have J4 : Hid (∀ w, Calls Try.prog 79 #[.string (bs l), .int .i64 ((k : Int) + 1), .int .i64 128, .int .i64 143] w (Pure w (.bool (inBy l (k + 1) 128 143)))) := fun w => in_any l (k + 1) 128 143 (by omega) w
      conv at HC => arg 1; rhs; unfold nextU
      have hc8 : ((l.getD k 0).toNat : Int) <= 255 := by have := UInt8.toNat_lt (l.getD k 0); omega
      generalize l.getD k 0 = c at *
      simp only at HC
      generalize inBy l (k + 1) 128 191 = t1 at *
      generalize inBy l (k + 2) 128 191 = t2 at *
      generalize inBy l (k + 3) 128 191 = t3 at *
      generalize inBy l (k + 1) 160 191 = s1 at *
      generalize inBy l (k + 1) 128 159 = s2 at *
      generalize inBy l (k + 1) 144 191 = s3 at *
      generalize inBy l (k + 1) 128 143 = s4 at *
      clear hlt
      go_wp2_with fail
      refine (I1.out _).mono ?_; rintro e w' ⟨rfl, rfl⟩
      go_wp2_with fail
      refine (I2.out _).mono ?_; rintro e w' ⟨rfl, rfl⟩
      go_wp2_with fail
      refine (I3.out _).mono ?_; rintro e w' ⟨rfl, rfl⟩
      generalize c.toNat = n at *
      clear hget hq
      by_cases r0 : 0 <= n /\ n <= 127
      · have y : (n : Int) >= 0 := by omega
        have qlt128 : (n : Int) < 128 := by omega
        have qge194 : ¬ (n : Int) >= 194 := by omega
        have qle223 : (n : Int) <= 223 := by omega
        have qge225 : ¬ (n : Int) >= 225 := by omega
        have qle236 : (n : Int) <= 236 := by omega
        have qge241 : ¬ (n : Int) >= 241 := by omega
        have qle243 : (n : Int) <= 243 := by omega
        have z224 : ((n : Int) == 224) = false := by rw [beq_eq_false_iff_ne]; omega
        have z238 : ((n : Int) == 238) = false := by rw [beq_eq_false_iff_ne]; omega
        have z239 : ((n : Int) == 239) = false := by rw [beq_eq_false_iff_ne]; omega
        have z237 : ((n : Int) == 237) = false := by rw [beq_eq_false_iff_ne]; omega
        have z240 : ((n : Int) == 240) = false := by rw [beq_eq_false_iff_ne]; omega
        have z244 : ((n : Int) == 244) = false := by rw [beq_eq_false_iff_ne]; omega
        have SC := Lib.hid (And.intro r0.1 r0.2)
        clear r0 y
        have HX : Hid (nextU l k = some 1) := by unfold Hid; rw [HC.out]; have h1 := SC.out.1; have h2 := SC.out.2; simp [show (n < 128) by omega, show ¬ (194 <= n /\ n <= 223) by omega, show ¬ (n = 224) by omega, show ¬ ((225 <= n /\ n <= 236) \/ n = 238 \/ n = 239) by omega, show ¬ (n = 237) by omega, show ¬ (n = 240) by omega, show ¬ (241 <= n /\ n <= 243) by omega, show ¬ (n = 244) by omega]
        have hx := HNL.out 1 HX.out
        have HU2 : Hid (utf8L l = utf8L (l.drop (k + 1))) := HU.out.trans (by rw [HN.out, HX.out])
        go_wp2
        go_roundw
        case rel => exact ⟨k + 1, by omega, by go_num, HU2.out, rfl⟩
        case measure => simp [intOf] <;> omega
      by_cases r128 : 128 <= n /\ n <= 193
      · have y : (n : Int) >= 128 := by omega
        have qlt128 : ¬ (n : Int) < 128 := by omega
        have qge194 : ¬ (n : Int) >= 194 := by omega
        have qle223 : (n : Int) <= 223 := by omega
        have qge225 : ¬ (n : Int) >= 225 := by omega
        have qle236 : (n : Int) <= 236 := by omega
        have qge241 : ¬ (n : Int) >= 241 := by omega
        have qle243 : (n : Int) <= 243 := by omega
        have z224 : ((n : Int) == 224) = false := by rw [beq_eq_false_iff_ne]; omega
        have z238 : ((n : Int) == 238) = false := by rw [beq_eq_false_iff_ne]; omega
        have z239 : ((n : Int) == 239) = false := by rw [beq_eq_false_iff_ne]; omega
        have z237 : ((n : Int) == 237) = false := by rw [beq_eq_false_iff_ne]; omega
        have z240 : ((n : Int) == 240) = false := by rw [beq_eq_false_iff_ne]; omega
        have z244 : ((n : Int) == 244) = false := by rw [beq_eq_false_iff_ne]; omega
        have SC := Lib.hid (And.intro r128.1 r128.2)
        clear r0 r128 y
        have HX : Hid (nextU l k = none) := by unfold Hid; rw [HC.out]; have h1 := SC.out.1; have h2 := SC.out.2; simp [show ¬ (n < 128) by omega, show ¬ (194 <= n /\ n <= 223) by omega, show ¬ (n = 224) by omega, show ¬ ((225 <= n /\ n <= 236) \/ n = 238 \/ n = 239) by omega, show ¬ (n = 237) by omega, show ¬ (n = 240) by omega, show ¬ (241 <= n /\ n <= 243) by omega, show ¬ (n = 244) by omega]
        have HR : Hid (v = false) := by unfold Hid; rw [<- HV.out, HU.out, HN.out, HX.out]
        go_wp2
        go_ret
        exact ⟨by rw [HR.out]; rfl, rfl⟩
      by_cases r194 : 194 <= n /\ n <= 223
      · have y : (n : Int) >= 194 := by omega
        have qlt128 : ¬ (n : Int) < 128 := by omega
        have qge194 : (n : Int) >= 194 := by omega
        have qle223 : (n : Int) <= 223 := by omega
        have qge225 : ¬ (n : Int) >= 225 := by omega
        have qle236 : (n : Int) <= 236 := by omega
        have qge241 : ¬ (n : Int) >= 241 := by omega
        have qle243 : (n : Int) <= 243 := by omega
        have z224 : ((n : Int) == 224) = false := by rw [beq_eq_false_iff_ne]; omega
        have z238 : ((n : Int) == 238) = false := by rw [beq_eq_false_iff_ne]; omega
        have z239 : ((n : Int) == 239) = false := by rw [beq_eq_false_iff_ne]; omega
        have z237 : ((n : Int) == 237) = false := by rw [beq_eq_false_iff_ne]; omega
        have z240 : ((n : Int) == 240) = false := by rw [beq_eq_false_iff_ne]; omega
        have z244 : ((n : Int) == 244) = false := by rw [beq_eq_false_iff_ne]; omega
        have SC := Lib.hid (And.intro r194.1 r194.2)
        clear r0 r128 r194 y
        cases t1 with
        | false =>
          have HX : Hid (nextU l k = none) := by unfold Hid; rw [HC.out]; have h1 := SC.out.1; have h2 := SC.out.2; simp [show ¬ (n < 128) by omega, show (194 <= n /\ n <= 223) by omega, show ¬ (n = 224) by omega, show ¬ ((225 <= n /\ n <= 236) \/ n = 238 \/ n = 239) by omega, show ¬ (n = 237) by omega, show ¬ (n = 240) by omega, show ¬ (241 <= n /\ n <= 243) by omega, show ¬ (n = 244) by omega]
          have HR : Hid (v = false) := by unfold Hid; rw [<- HV.out, HU.out, HN.out, HX.out]
          go_wp2
          go_ret
          exact ⟨by rw [HR.out]; rfl, rfl⟩
        | true =>
          have HX : Hid (nextU l k = some 2) := by unfold Hid; rw [HC.out]; have h1 := SC.out.1; have h2 := SC.out.2; simp [show ¬ (n < 128) by omega, show (194 <= n /\ n <= 223) by omega, show ¬ (n = 224) by omega, show ¬ ((225 <= n /\ n <= 236) \/ n = 238 \/ n = 239) by omega, show ¬ (n = 237) by omega, show ¬ (n = 240) by omega, show ¬ (241 <= n /\ n <= 243) by omega, show ¬ (n = 244) by omega]
          have hx := HNL.out 2 HX.out
          have HU2 : Hid (utf8L l = utf8L (l.drop (k + 2))) := HU.out.trans (by rw [HN.out, HX.out])
          go_wp2
          go_roundw
          case rel => exact ⟨k + 2, by omega, by go_num, HU2.out, rfl⟩
          case measure => simp [intOf] <;> omega
      by_cases r224 : n = 224
      · subst r224
        clear hc8
        cases s1 with
        | false =>
          have HX : Hid (nextU l k = none) := by unfold Hid; rw [HC.out]; simp
          have HR : Hid (v = false) := by unfold Hid; rw [<- HV.out, HU.out, HN.out, HX.out]
          go_wp2_with ((with_reducible refine (J1.out _).mono ?_); rintro e w' ⟨rfl, rfl⟩)
          go_ret
          exact ⟨by rw [HR.out]; rfl, rfl⟩
        | true =>
          cases t2 with
          | false =>
            have HX : Hid (nextU l k = none) := by unfold Hid; rw [HC.out]; simp
            have HR : Hid (v = false) := by unfold Hid; rw [<- HV.out, HU.out, HN.out, HX.out]
            go_wp2_with ((with_reducible refine (J1.out _).mono ?_); rintro e w' ⟨rfl, rfl⟩)
            go_ret
            exact ⟨by rw [HR.out]; rfl, rfl⟩
          | true =>
            have HX : Hid (nextU l k = some 3) := by unfold Hid; rw [HC.out]; simp
            have hx := HNL.out 3 HX.out
            have HU2 : Hid (utf8L l = utf8L (l.drop (k + 3))) := HU.out.trans (by rw [HN.out, HX.out])
            go_wp2_with ((with_reducible refine (J1.out _).mono ?_); rintro e w' ⟨rfl, rfl⟩)
            go_roundw
            case rel => exact ⟨k + 3, by omega, by go_num, HU2.out, rfl⟩
            case measure => simp [intOf] <;> omega
      by_cases r225 : 225 <= n /\ n <= 236
      · have y : (n : Int) >= 225 := by omega
        have qlt128 : ¬ (n : Int) < 128 := by omega
        have qge194 : (n : Int) >= 194 := by omega
        have qle223 : ¬ (n : Int) <= 223 := by omega
        have qge225 : (n : Int) >= 225 := by omega
        have qle236 : (n : Int) <= 236 := by omega
        have qge241 : ¬ (n : Int) >= 241 := by omega
        have qle243 : (n : Int) <= 243 := by omega
        have z224 : ((n : Int) == 224) = false := by rw [beq_eq_false_iff_ne]; omega
        have z238 : ((n : Int) == 238) = false := by rw [beq_eq_false_iff_ne]; omega
        have z239 : ((n : Int) == 239) = false := by rw [beq_eq_false_iff_ne]; omega
        have z237 : ((n : Int) == 237) = false := by rw [beq_eq_false_iff_ne]; omega
        have z240 : ((n : Int) == 240) = false := by rw [beq_eq_false_iff_ne]; omega
        have z244 : ((n : Int) == 244) = false := by rw [beq_eq_false_iff_ne]; omega
        have SC := Lib.hid (And.intro r225.1 r225.2)
        clear r0 r128 r194 r224 r225 y
        cases t1 with
        | false =>
          have HX : Hid (nextU l k = none) := by unfold Hid; rw [HC.out]; have h1 := SC.out.1; have h2 := SC.out.2; simp [show ¬ (n < 128) by omega, show ¬ (194 <= n /\ n <= 223) by omega, show ¬ (n = 224) by omega, show ((225 <= n /\ n <= 236) \/ n = 238 \/ n = 239) by omega, show ¬ (n = 237) by omega, show ¬ (n = 240) by omega, show ¬ (241 <= n /\ n <= 243) by omega, show ¬ (n = 244) by omega]
          have HR : Hid (v = false) := by unfold Hid; rw [<- HV.out, HU.out, HN.out, HX.out]
          go_wp2
          go_ret
          exact ⟨by rw [HR.out]; rfl, rfl⟩
        | true =>
          cases t2 with
          | false =>
            have HX : Hid (nextU l k = none) := by unfold Hid; rw [HC.out]; have h1 := SC.out.1; have h2 := SC.out.2; simp [show ¬ (n < 128) by omega, show ¬ (194 <= n /\ n <= 223) by omega, show ¬ (n = 224) by omega, show ((225 <= n /\ n <= 236) \/ n = 238 \/ n = 239) by omega, show ¬ (n = 237) by omega, show ¬ (n = 240) by omega, show ¬ (241 <= n /\ n <= 243) by omega, show ¬ (n = 244) by omega]
            have HR : Hid (v = false) := by unfold Hid; rw [<- HV.out, HU.out, HN.out, HX.out]
            go_wp2
            go_ret
            exact ⟨by rw [HR.out]; rfl, rfl⟩
          | true =>
            have HX : Hid (nextU l k = some 3) := by unfold Hid; rw [HC.out]; have h1 := SC.out.1; have h2 := SC.out.2; simp [show ¬ (n < 128) by omega, show ¬ (194 <= n /\ n <= 223) by omega, show ¬ (n = 224) by omega, show ((225 <= n /\ n <= 236) \/ n = 238 \/ n = 239) by omega, show ¬ (n = 237) by omega, show ¬ (n = 240) by omega, show ¬ (241 <= n /\ n <= 243) by omega, show ¬ (n = 244) by omega]
            have hx := HNL.out 3 HX.out
            have HU2 : Hid (utf8L l = utf8L (l.drop (k + 3))) := HU.out.trans (by rw [HN.out, HX.out])
            go_wp2
            go_roundw
            case rel => exact ⟨k + 3, by omega, by go_num, HU2.out, rfl⟩
            case measure => simp [intOf] <;> omega
      by_cases r237 : n = 237
      · subst r237
        clear hc8
        cases s2 with
        | false =>
          have HX : Hid (nextU l k = none) := by unfold Hid; rw [HC.out]; simp
          have HR : Hid (v = false) := by unfold Hid; rw [<- HV.out, HU.out, HN.out, HX.out]
          go_wp2_with ((with_reducible refine (J2.out _).mono ?_); rintro e w' ⟨rfl, rfl⟩)
          go_ret
          exact ⟨by rw [HR.out]; rfl, rfl⟩
        | true =>
          cases t2 with
          | false =>
            have HX : Hid (nextU l k = none) := by unfold Hid; rw [HC.out]; simp
            have HR : Hid (v = false) := by unfold Hid; rw [<- HV.out, HU.out, HN.out, HX.out]
            go_wp2_with ((with_reducible refine (J2.out _).mono ?_); rintro e w' ⟨rfl, rfl⟩)
            go_ret
            exact ⟨by rw [HR.out]; rfl, rfl⟩
          | true =>
            have HX : Hid (nextU l k = some 3) := by unfold Hid; rw [HC.out]; simp
            have hx := HNL.out 3 HX.out
            have HU2 : Hid (utf8L l = utf8L (l.drop (k + 3))) := HU.out.trans (by rw [HN.out, HX.out])
            go_wp2_with ((with_reducible refine (J2.out _).mono ?_); rintro e w' ⟨rfl, rfl⟩)
            go_roundw
            case rel => exact ⟨k + 3, by omega, by go_num, HU2.out, rfl⟩
            case measure => simp [intOf] <;> omega
      by_cases r238 : n = 238
      · subst r238
        clear hc8
        cases t1 with
        | false =>
          have HX : Hid (nextU l k = none) := by unfold Hid; rw [HC.out]; simp
          have HR : Hid (v = false) := by unfold Hid; rw [<- HV.out, HU.out, HN.out, HX.out]
          go_wp2
          go_ret
          exact ⟨by rw [HR.out]; rfl, rfl⟩
        | true =>
          cases t2 with
          | false =>
            have HX : Hid (nextU l k = none) := by unfold Hid; rw [HC.out]; simp
            have HR : Hid (v = false) := by unfold Hid; rw [<- HV.out, HU.out, HN.out, HX.out]
            go_wp2
            go_ret
            exact ⟨by rw [HR.out]; rfl, rfl⟩
          | true =>
            have HX : Hid (nextU l k = some 3) := by unfold Hid; rw [HC.out]; simp
            have hx := HNL.out 3 HX.out
            have HU2 : Hid (utf8L l = utf8L (l.drop (k + 3))) := HU.out.trans (by rw [HN.out, HX.out])
            go_wp2
            go_roundw
            case rel => exact ⟨k + 3, by omega, by go_num, HU2.out, rfl⟩
            case measure => simp [intOf] <;> omega
      by_cases r239 : n = 239
      · subst r239
        clear hc8
        cases t1 with
        | false =>
          have HX : Hid (nextU l k = none) := by unfold Hid; rw [HC.out]; simp
          have HR : Hid (v = false) := by unfold Hid; rw [<- HV.out, HU.out, HN.out, HX.out]
          go_wp2
          go_ret
          exact ⟨by rw [HR.out]; rfl, rfl⟩
        | true =>
          cases t2 with
          | false =>
            have HX : Hid (nextU l k = none) := by unfold Hid; rw [HC.out]; simp
            have HR : Hid (v = false) := by unfold Hid; rw [<- HV.out, HU.out, HN.out, HX.out]
            go_wp2
            go_ret
            exact ⟨by rw [HR.out]; rfl, rfl⟩
          | true =>
            have HX : Hid (nextU l k = some 3) := by unfold Hid; rw [HC.out]; simp
            have hx := HNL.out 3 HX.out
            have HU2 : Hid (utf8L l = utf8L (l.drop (k + 3))) := HU.out.trans (by rw [HN.out, HX.out])
            go_wp2
            go_roundw
            case rel => exact ⟨k + 3, by omega, by go_num, HU2.out, rfl⟩
            case measure => simp [intOf] <;> omega
      by_cases r240 : n = 240
      · subst r240
        clear hc8
        cases s3 with
        | false =>
          have HX : Hid (nextU l k = none) := by unfold Hid; rw [HC.out]; simp
          have HR : Hid (v = false) := by unfold Hid; rw [<- HV.out, HU.out, HN.out, HX.out]
          go_wp2_with ((with_reducible refine (J3.out _).mono ?_); rintro e w' ⟨rfl, rfl⟩)
          go_ret
          exact ⟨by rw [HR.out]; rfl, rfl⟩
        | true =>
          cases t2 with
          | false =>
            have HX : Hid (nextU l k = none) := by unfold Hid; rw [HC.out]; simp
            have HR : Hid (v = false) := by unfold Hid; rw [<- HV.out, HU.out, HN.out, HX.out]
            go_wp2_with ((with_reducible refine (J3.out _).mono ?_); rintro e w' ⟨rfl, rfl⟩)
            go_ret
            exact ⟨by rw [HR.out]; rfl, rfl⟩
          | true =>
            cases t3 with
            | false =>
              have HX : Hid (nextU l k = none) := by unfold Hid; rw [HC.out]; simp
              have HR : Hid (v = false) := by unfold Hid; rw [<- HV.out, HU.out, HN.out, HX.out]
              go_wp2_with ((with_reducible refine (J3.out _).mono ?_); rintro e w' ⟨rfl, rfl⟩)
              go_ret
              exact ⟨by rw [HR.out]; rfl, rfl⟩
            | true =>
              have HX : Hid (nextU l k = some 4) := by unfold Hid; rw [HC.out]; simp
              have hx := HNL.out 4 HX.out
              have HU2 : Hid (utf8L l = utf8L (l.drop (k + 4))) := HU.out.trans (by rw [HN.out, HX.out])
              go_wp2_with ((with_reducible refine (J3.out _).mono ?_); rintro e w' ⟨rfl, rfl⟩)
              go_roundw
              case rel => exact ⟨k + 4, by omega, by go_num, HU2.out, rfl⟩
              case measure => simp [intOf] <;> omega
      by_cases r241 : 241 <= n /\ n <= 243
      · have y : (n : Int) >= 241 := by omega
        have qlt128 : ¬ (n : Int) < 128 := by omega
        have qge194 : (n : Int) >= 194 := by omega
        have qle223 : ¬ (n : Int) <= 223 := by omega
        have qge225 : (n : Int) >= 225 := by omega
        have qle236 : ¬ (n : Int) <= 236 := by omega
        have qge241 : (n : Int) >= 241 := by omega
        have qle243 : (n : Int) <= 243 := by omega
        have z224 : ((n : Int) == 224) = false := by rw [beq_eq_false_iff_ne]; omega
        have z238 : ((n : Int) == 238) = false := by rw [beq_eq_false_iff_ne]; omega
        have z239 : ((n : Int) == 239) = false := by rw [beq_eq_false_iff_ne]; omega
        have z237 : ((n : Int) == 237) = false := by rw [beq_eq_false_iff_ne]; omega
        have z240 : ((n : Int) == 240) = false := by rw [beq_eq_false_iff_ne]; omega
        have z244 : ((n : Int) == 244) = false := by rw [beq_eq_false_iff_ne]; omega
        have SC := Lib.hid (And.intro r241.1 r241.2)
        clear r0 r128 r194 r224 r225 r237 r238 r239 r240 r241 y
        cases t1 with
        | false =>
          have HX : Hid (nextU l k = none) := by unfold Hid; rw [HC.out]; have h1 := SC.out.1; have h2 := SC.out.2; simp [show ¬ (n < 128) by omega, show ¬ (194 <= n /\ n <= 223) by omega, show ¬ (n = 224) by omega, show ¬ ((225 <= n /\ n <= 236) \/ n = 238 \/ n = 239) by omega, show ¬ (n = 237) by omega, show ¬ (n = 240) by omega, show (241 <= n /\ n <= 243) by omega, show ¬ (n = 244) by omega]
          have HR : Hid (v = false) := by unfold Hid; rw [<- HV.out, HU.out, HN.out, HX.out]
          go_wp2
          go_ret
          exact ⟨by rw [HR.out]; rfl, rfl⟩
        | true =>
          cases t2 with
          | false =>
            have HX : Hid (nextU l k = none) := by unfold Hid; rw [HC.out]; have h1 := SC.out.1; have h2 := SC.out.2; simp [show ¬ (n < 128) by omega, show ¬ (194 <= n /\ n <= 223) by omega, show ¬ (n = 224) by omega, show ¬ ((225 <= n /\ n <= 236) \/ n = 238 \/ n = 239) by omega, show ¬ (n = 237) by omega, show ¬ (n = 240) by omega, show (241 <= n /\ n <= 243) by omega, show ¬ (n = 244) by omega]
            have HR : Hid (v = false) := by unfold Hid; rw [<- HV.out, HU.out, HN.out, HX.out]
            go_wp2
            go_ret
            exact ⟨by rw [HR.out]; rfl, rfl⟩
          | true =>
            cases t3 with
            | false =>
              have HX : Hid (nextU l k = none) := by unfold Hid; rw [HC.out]; have h1 := SC.out.1; have h2 := SC.out.2; simp [show ¬ (n < 128) by omega, show ¬ (194 <= n /\ n <= 223) by omega, show ¬ (n = 224) by omega, show ¬ ((225 <= n /\ n <= 236) \/ n = 238 \/ n = 239) by omega, show ¬ (n = 237) by omega, show ¬ (n = 240) by omega, show (241 <= n /\ n <= 243) by omega, show ¬ (n = 244) by omega]
              have HR : Hid (v = false) := by unfold Hid; rw [<- HV.out, HU.out, HN.out, HX.out]
              go_wp2
              go_ret
              exact ⟨by rw [HR.out]; rfl, rfl⟩
            | true =>
              have HX : Hid (nextU l k = some 4) := by unfold Hid; rw [HC.out]; have h1 := SC.out.1; have h2 := SC.out.2; simp [show ¬ (n < 128) by omega, show ¬ (194 <= n /\ n <= 223) by omega, show ¬ (n = 224) by omega, show ¬ ((225 <= n /\ n <= 236) \/ n = 238 \/ n = 239) by omega, show ¬ (n = 237) by omega, show ¬ (n = 240) by omega, show (241 <= n /\ n <= 243) by omega, show ¬ (n = 244) by omega]
              have hx := HNL.out 4 HX.out
              have HU2 : Hid (utf8L l = utf8L (l.drop (k + 4))) := HU.out.trans (by rw [HN.out, HX.out])
              go_wp2
              go_roundw
              case rel => exact ⟨k + 4, by omega, by go_num, HU2.out, rfl⟩
              case measure => simp [intOf] <;> omega
      by_cases r244 : n = 244
      · subst r244
        clear hc8
        cases s4 with
        | false =>
          have HX : Hid (nextU l k = none) := by unfold Hid; rw [HC.out]; simp
          have HR : Hid (v = false) := by unfold Hid; rw [<- HV.out, HU.out, HN.out, HX.out]
          go_wp2_with ((with_reducible refine (J4.out _).mono ?_); rintro e w' ⟨rfl, rfl⟩)
          go_ret
          exact ⟨by rw [HR.out]; rfl, rfl⟩
        | true =>
          cases t2 with
          | false =>
            have HX : Hid (nextU l k = none) := by unfold Hid; rw [HC.out]; simp
            have HR : Hid (v = false) := by unfold Hid; rw [<- HV.out, HU.out, HN.out, HX.out]
            go_wp2_with ((with_reducible refine (J4.out _).mono ?_); rintro e w' ⟨rfl, rfl⟩)
            go_ret
            exact ⟨by rw [HR.out]; rfl, rfl⟩
          | true =>
            cases t3 with
            | false =>
              have HX : Hid (nextU l k = none) := by unfold Hid; rw [HC.out]; simp
              have HR : Hid (v = false) := by unfold Hid; rw [<- HV.out, HU.out, HN.out, HX.out]
              go_wp2_with ((with_reducible refine (J4.out _).mono ?_); rintro e w' ⟨rfl, rfl⟩)
              go_ret
              exact ⟨by rw [HR.out]; rfl, rfl⟩
            | true =>
              have HX : Hid (nextU l k = some 4) := by unfold Hid; rw [HC.out]; simp
              have hx := HNL.out 4 HX.out
              have HU2 : Hid (utf8L l = utf8L (l.drop (k + 4))) := HU.out.trans (by rw [HN.out, HX.out])
              go_wp2_with ((with_reducible refine (J4.out _).mono ?_); rintro e w' ⟨rfl, rfl⟩)
              go_roundw
              case rel => exact ⟨k + 4, by omega, by go_num, HU2.out, rfl⟩
              case measure => simp [intOf] <;> omega
      by_cases r245 : 245 <= n /\ n <= 255
      · have y : (n : Int) >= 245 := by omega
        have qlt128 : ¬ (n : Int) < 128 := by omega
        have qge194 : (n : Int) >= 194 := by omega
        have qle223 : ¬ (n : Int) <= 223 := by omega
        have qge225 : (n : Int) >= 225 := by omega
        have qle236 : ¬ (n : Int) <= 236 := by omega
        have qge241 : (n : Int) >= 241 := by omega
        have qle243 : ¬ (n : Int) <= 243 := by omega
        have z224 : ((n : Int) == 224) = false := by rw [beq_eq_false_iff_ne]; omega
        have z238 : ((n : Int) == 238) = false := by rw [beq_eq_false_iff_ne]; omega
        have z239 : ((n : Int) == 239) = false := by rw [beq_eq_false_iff_ne]; omega
        have z237 : ((n : Int) == 237) = false := by rw [beq_eq_false_iff_ne]; omega
        have z240 : ((n : Int) == 240) = false := by rw [beq_eq_false_iff_ne]; omega
        have z244 : ((n : Int) == 244) = false := by rw [beq_eq_false_iff_ne]; omega
        have SC := Lib.hid (And.intro r245.1 r245.2)
        clear r0 r128 r194 r224 r225 r237 r238 r239 r240 r241 r244 r245 y
        have HX : Hid (nextU l k = none) := by unfold Hid; rw [HC.out]; have h1 := SC.out.1; have h2 := SC.out.2; simp [show ¬ (n < 128) by omega, show ¬ (194 <= n /\ n <= 223) by omega, show ¬ (n = 224) by omega, show ¬ ((225 <= n /\ n <= 236) \/ n = 238 \/ n = 239) by omega, show ¬ (n = 237) by omega, show ¬ (n = 240) by omega, show ¬ (241 <= n /\ n <= 243) by omega, show ¬ (n = 244) by omega]
        have HR : Hid (v = false) := by unfold Hid; rw [<- HV.out, HU.out, HN.out, HX.out]
        go_wp2
        go_ret
        exact ⟨by rw [HR.out]; rfl, rfl⟩
      exfalso; omega
    · obtain rfl : k = l.length := by omega
      have hltz : ¬ ((l.length : Nat) : Int) < ((bs l).size : Int) := by rw [bs_size]; omega
      have HR : Hid (v = true) := by unfold Hid; rw [<- HV.out, HU.out, List.drop_length]; rfl
      go_wp2
      go_ret
      exact ⟨by rw [HR.out]; rfl, rfl⟩
def TxtLp (l : List UInt8) (w0 : World) (i : Value) (w : World) : Prop := ∃ k : Nat, k <= l.length /\ i = .int .i64 (k : Int) /\ (34 : UInt8) ∉ l.take k /\ w0 = w
set_option maxHeartbeats 4000000 in
set_option maxRecDepth 100000 in
theorem reftext_any (l : List UInt8) (hl : l.length < 9223372036854775800) (w : World) : Calls Try.prog 54 #[.string (bs l)] w (Pure w (.bool (textOk l))) := by
  obtain ⟨v, hv⟩ : ∃ v, textOk l = v := ⟨_, rfl⟩
  rw [hv]
  have HV := Lib.hid hv
  clear hv
  go_enter Try.func54, Try.ntmps54
  go_wp2
  go_loopw [3] (TxtLp l w) (fun i _ => l.length - (intOf i).toNat)
  case atStart => exact ⟨0, Nat.zero_le _, rfl, by simp, rfl⟩
  case round =>
    obtain ⟨k, hk, rfl, hu, rfl⟩ := hrel
    have HU := Lib.hid hu
    clear hu
    by_cases hlt : k < l.length
    · have hltz : (k : Int) < ((bs l).size : Int) := by rw [bs_size]; omega
      have hq : k < (bs l).size := by rw [bs_size]; exact hlt
      have hget : (bs l)[k]'hq = l.getD k 0 := by rw [bs_get, List.getD_eq_getElem?_getD, List.getElem?_eq_getElem hlt]; rfl
      have HT : Hid (l.take (k + 1) = l.take k ++ [l.getD k 0]) := by unfold Hid; rw [List.take_succ_eq_append_getElem hlt, List.getD_eq_getElem?_getD, List.getElem?_eq_getElem hlt]; rfl
      generalize l.getD k 0 = c at *
      by_cases hc : c = 34
      · subst hc
        have HR : Hid (v = false) := by
          unfold Hid; rw [<- HV.out]; unfold textOk
          have : (34 : UInt8) ∈ l := by
            have : (34 : UInt8) ∈ l.take (k + 1) := by rw [HT.out]; simp
            exact List.mem_of_mem_take this
          simp [this]
        clear hlt
        go_wp2
        go_ret
        exact ⟨by rw [HR.out]; rfl, rfl⟩
      · have HN : Hid ((34 : UInt8) ∉ l.take (k + 1)) := by unfold Hid; rw [HT.out]; intro h; rcases List.mem_append.1 h with h | h; exact HU.out h; simp at h; exact hc h.symm
        have hcz : ((c.toNat : Int) == 34) = false := by rw [beq_eq_false_iff_ne]; intro e; apply hc; apply UInt8.toNat_inj.1; show _ = 34; omega
        have HLT := Lib.hid hlt
        clear hlt hc
        go_wp2
        go_roundw
        case rel => exact ⟨k + 1, HLT.out, by go_num, HN.out, rfl⟩
        case measure => have := HLT.out; simp [intOf] <;> omega
    · obtain rfl : k = l.length := by omega
      have hltz : ¬ ((l.length : Nat) : Int) < ((bs l).size : Int) := by rw [bs_size]; omega
      have hno : (34 : UInt8) ∉ l := by have := HU.out; rwa [List.take_length] at this
      have HU8 := Lib.hid (fun w => refutf8_any l hl w)
      by_cases h0 : l = []
      · have HR : Hid (v = false) := by unfold Hid; rw [<- HV.out]; unfold textOk; simp [h0]
        have hz : ¬ ((bs l).size : Int) > 0 := by rw [bs_size, h0]; decide
        clear hno h0
        go_wp2
        go_ret
        exact ⟨by rw [HR.out]; rfl, rfl⟩
      · have HR : Hid (v = utf8L l) := by unfold Hid; rw [<- HV.out]; unfold textOk; simp [h0, hno]
        have hz : ((bs l).size : Int) > 0 := by rw [bs_size]; have := List.length_pos_iff.2 h0; omega
        clear hno h0
        go_wp2_with ((with_reducible refine (HU8.out _).mono ?_); rintro e w' ⟨rfl, rfl⟩)
        go_ret
        exact ⟨by rw [HR.out]; rfl, rfl⟩
def sumT (l : List Nd) : Nat := (l.map fun n => n.text.length).sum
def fewB (l : List Nd) : Bool := decide (l.length <= 100) && decide (sumT (l.take 200) <= 2000)
theorem sumT_snoc {l : List Nd} {k : Nat} (h : k < l.length) : sumT (l.take (k + 1)) = sumT (l.take k) + (l.getD k nd0).text.length := by
  unfold sumT
  rw [List.take_succ_eq_append_getElem h, List.map_append, List.sum_append, List.getD_eq_getElem?_getD, List.getElem?_eq_getElem h]; simp
theorem sumT_mem {l : List Nd} {n : Nd} (h : n ∈ l) : n.text.length <= sumT l := by
  unfold sumT
  induction l with
  | nil => cases h
  | cons x l ih =>
    rw [List.map_cons, List.sum_cons]
    rcases List.mem_cons.1 h with rfl | h
    · omega
    · have := ih h; omega
theorem few_txt {l : List Nd} (h : fewB l = true) : l.length <= 100 /\ ∀ n ∈ l, n.text.length <= 2000 := by
  unfold fewB at h
  simp only [Bool.and_eq_true, decide_eq_true_iff] at h
  refine ⟨h.1, fun n hn => ?_⟩
  rw [List.take_of_length_le (by omega)] at h
  exact Nat.le_trans (sumT_mem hn) h.2
theorem sumT_bound {l : List Nd} (h : ∀ n ∈ l, n.text.length <= 281474976710656) : sumT l <= l.length * 281474976710656 := by
  unfold sumT
  induction l with
  | nil => simp
  | cons x l ih =>
    rw [List.map_cons, List.sum_cons, List.length_cons]
    have h1 := h x (by simp)
    have h2 := ih (fun n hn => h n (by simp [hn]))
    omega
def FwL (w0 : World) (A : Option Addr) (l : List Nd) (c : Nat) (s i : Value) (w : World) : Prop :=
  ∃ k : Nat, k <= l.length /\ k <= 200 /\ i = .int .i64 (k : Int) /\ s = .int .i64 (sumT (l.take k) : Int) /\ FstS w0 A l c w
set_option maxHeartbeats 4000000 in
set_option maxRecDepth 100000 in
theorem few_any (l : List Nd) (A : Option Addr) (c : Nat) (hl : l.length <= 9223372036854775807) (htx : Txt l) (w : World) (hrow : NRow w A l) :
    Calls Try.prog 9 #[.agg #[.slice A l.length c]] w (Ans w (.bool (fewB l))) := by
  have HB := (Below.refl w.heap.size w).alloc (Nat.le_refl _) (.cells #[.slice A l.length c] 24)
  have HS0 : Hid (FstS w A l c (w.alloc (.cells #[.slice A l.length c] 24))) := ⟨HB, hrow.later HB, Blk.new _ _ _⟩
  have HTX := Lib.hid htx
  clear hrow HB htx
  obtain ⟨v, hv⟩ : ∃ v, fewB l = v := ⟨_, rfl⟩
  rw [hv]
  have HV := Lib.hid hv
  clear hv
  go_enter Try.func9, Try.ntmps9
  go_upto_region 1 with (fail)
  generalize w.alloc (.cells #[.slice A l.length c] 24) = w1 at *
  go_wp2
  go_loopw [3, 4] (FwL w A l c) (fun _ i _ => 200 - (intOf i).toNat)
  case atStart => exact ⟨0, Nat.zero_le _, by omega, rfl, rfl, HS0.out⟩
  case round =>
    obtain ⟨k, hk, hk2, rfl, rfl, hs⟩ := hrel
    have HS := Lib.hid hs
    have e0 := hs.box.cell 0
    simp at e0
    have hbd := sumT_bound (l := l.take k) (fun n hn => HTX.out n (List.mem_of_mem_take hn))
    rw [List.length_take] at hbd
    by_cases hlt : k < l.length
    · have hltz : (k : Int) < (l.length : Int) := by omega
      by_cases h200 : k < 200
      · have h2z : (k : Int) < 200 := by omega
        obtain ⟨ba, oa, rfl, -, -⟩ := hs.row k hlt
        obtain ⟨_, _, _, _, _, _, _, _, _, g9⟩ := hs.row.at hlt rfl
        have HN := Lib.hid (sumT_snoc hlt)
        have htk := HTX.out (l.getD k nd0) (by rw [List.getD_eq_getElem?_getD, List.getElem?_eq_getElem hlt]; exact List.getElem_mem _)
        have hbs := bs_size (l.getD k nd0).text
        generalize l.getD k nd0 = n at *
        have hb2 : sumT (l.take k) <= 72057594037927936 := by
          have : min k l.length <= 200 := by omega
          have := Nat.mul_le_mul_right 281474976710656 this
          omega
        generalize sumT (l.take k) = q at *
        have hbz : ((bs n.text).size : Int) = (n.text.length : Int) := by rw [hbs]
        have HBZ := Lib.hid hbz
        have hbz2 : ((bs n.text).size : Int) <= 281474976710656 := by omega
        clear hs hbd hbs hbz
        go_wp2
        go_roundw
        case rel => exact ⟨k + 1, by omega, by omega, by go_num, by have := HN.out; have := HBZ.out; congr 1; omega, HS.out⟩
        case measure => simp [intOf] <;> omega
      · obtain rfl : k = 200 := by omega
        have HR : Hid (v = false) := by unfold Hid; rw [<- HV.out]; unfold fewB; simp; omega
        have hnz : ¬ (l.length : Int) <= 100 := by omega
        clear hs hbd
        go_wp2
        go_ret
        exact ⟨by rw [HR.out]; rfl, HS.out.bel⟩
    · obtain rfl : k = l.length := by omega
      have hlast : ¬ ((l.length : Nat) : Int) < (l.length : Int) := by omega
      rw [List.take_length] at *
      by_cases h100 : l.length <= 100
      · have h1z : (l.length : Int) <= 100 := by omega
        have HR : Hid (v = decide ((sumT l : Int) <= 2000)) := by
          unfold Hid; rw [<- HV.out]; unfold fewB; rw [List.take_of_length_le (by omega)]; simp [h100]; omega
        clear hs hbd h100
        generalize sumT l = q at *
        go_wp2
        go_ret
        exact ⟨by rw [HR.out]; rfl, HS.out.bel⟩
      · have h1z : ¬ (l.length : Int) <= 100 := by omega
        have HR : Hid (v = false) := by unfold Hid; rw [<- HV.out]; unfold fewB; simp [h100]
        clear hs hbd h100
        go_wp2
        go_ret
        exact ⟨by rw [HR.out]; rfl, HS.out.bel⟩
end Go.Proofs.Ytpbbokdmoaadfaa
