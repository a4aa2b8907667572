/- Counting: a place found, its ways; tallies. Walked. -/
import Derived.Test.YtpbbokdmoaadfaaM20
import Derived.Test.YtpbbokdmoaadfaaM06
import Derived.Test.YtpbbokdmoaadfaaM18
import Derived.Test.YtpbbokdmoaadfaaM15
import Derived.Test.YtpbbokdmoaadfaaM07
import Derived.Test.YtpbbokdmoaadfaaProg
import Derived.WalkKit
import Derived.Carry
import Derived.Below
namespace Go.Proofs.Ytpbbokdmoaadfaa
set_option maxHeartbeats 64000000
set_option maxRecDepth 1000000
set_option linter.all false
open Go Go.RowKit
theorem cfind_any (l : List (Nat × Nat)) (A : Option Addr) (c a : Nat) (hl : l.Pairwise fun p q => p.1 < q.1) (hlen : l.length <= 1048576) (hb : ∀ p ∈ l, p.1 <= 1073741824) (ha : a <= 1073741824) (w : World) (hrow : RcRow w A l) :
 Calls Try.prog 55 #[.slice A l.length c, .int .i64 (a : Int)] w (fun e w' => ∃ k, Fnd l a k /\ e = .returned (.tuple #[.int .i64 (k : Int), .bool (fndB l a k)]) /\ Below w.heap.size w w') := by
 have HC := Lib.hid (bsearch_any l A c a hl hlen hb ha w hrow)
 clear hl hlen hb ha hrow
 go_enter Try.func55, Try.ntmps55
 go_wp2_with fail
 refine HC.out.mono ?_; rintro e w2 ⟨k, hf, rfl, hb⟩
 go_wp2
 go_ret2
 exact ⟨k, hf, rfl, hb⟩
theorem fnd_plF {n a k : Nat} {F : Nat -> Nat} (h : Fnd (plF n F) a k) (ha : a < n) : (if fndB (plF n F) a k = true then ((plF n F).getD k (0, 0)).2 else 0) = F a := by
 unfold fndB
 by_cases hk : k < (plF n F).length /\ ((plF n F).getD k (0, 0)).1 = a
 ·rw [if_pos (decide_eq_true hk)]
  have hm : (plF n F).getD k (0, 0) ∈ plF n F := by rw [List.getD_eq_getElem?_getD, List.getElem?_eq_getElem hk.1]; exact List.getElem_mem _
  have := plF_fst hm
  rw [this, hk.2]
 ·rw [if_neg (by simpa using hk)]
  rcases Nat.eq_zero_or_pos (F a) with h0 | h0
  ·exact h0.symm
  ·exfalso
   have hm : (a, F a) ∈ plF n F := mem_plF.2 ⟨ha, rfl, by show F a ≠ 0; omega⟩
   obtain ⟨j, hj, he⟩ := List.mem_iff_getElem.1 hm
   have he2 : (plF n F).getD j (0, 0) = (a, F a) := by rw [List.getD_eq_getElem?_getD, List.getElem?_eq_getElem hj, he]; rfl
   rcases Nat.lt_or_ge j k with h1 | h1
   ·have := h.lo j h1; rw [he2] at this; simp at this
   ·rcases Nat.lt_or_ge k j with h2 | h2
    ·have h3 := rise_get plF_rise h2 hj
     rw [he2] at h3
     have h4 := h.hi k (Nat.le_refl _) (by omega)
     simp only at h3
     omega
    ·obtain rfl : j = k := by omega
     exact hk ⟨hj, by rw [he2]⟩
theorem cwaysTo_any (n : Nat) (F : Nat -> Nat) (v : Value) (a : Nat) (hn : n <= 1048576) (ha : a < n) (w : World) (hrow : IsR w v (plF n F)) :
 Calls Try.prog 44 #[v, .int .i64 (a : Int)] w (Ans w (.int .i64 ((F a : Nat) : Int))) := by
 obtain ⟨A, c, rfl, hlc, hr⟩ := hrow
 have hlen := plF_length (F := F) (n := n)
 have HC := Lib.hid (cfind_any (plF n F) A c a plF_rise (by omega) (fun p hp => by have := (mem_plF.1 hp).1; omega) (by omega) w hr)
 have HF : Hid (∀ k, Fnd (plF n F) a k -> (if fndB (plF n F) a k = true then ((plF n F).getD k (0, 0)).2 else 0) = F a) := fun k h => fnd_plF h ha
 have HR := Lib.hid hr
 generalize F a = x at *
 generalize plF n F = l at *
 clear hr ha hlc
 go_enter Try.func44, Try.ntmps44
 go_wp2_with fail
 refine HC.out.mono ?_; rintro e w2 ⟨k, hf, rfl, hb⟩
 have HB := Lib.hid hb
 have HX := Lib.hid (HF.out k hf)
 have hfk := hf
 clear hb HC HF hf
 have HR2 := Lib.hid (HR.out.later HB.out)
 cases hfb : fndB l a k with
 | false =>
  rw [hfb] at HX
  have hx : (0 : Nat) = x := HX.out
  subst hx
  clear hfb
  go_wp2
  go_ret
  exact ⟨rfl, HB.out⟩
 | true =>
  rw [hfb] at HX
  have hk : k < l.length := by
   unfold fndB at hfb
   exact (of_decide_eq_true hfb).1
  have hkz : (k : Int) < (l.length : Int) := by omega
  have hx : (l.getD k (0, 0)).2 = x := HX.out
  obtain ⟨b, off, hA, hblt, hc⟩ := HR2.out.two (fun e => by rw [e] at hk; exact absurd hk (Nat.not_lt_zero _))
  obtain ⟨c0, c1⟩ := hc k hk
  rw [hx] at c1
  clear hfb hx HX hc hfk
  subst hA
  go_wp2
  go_ret
  exact ⟨rfl, HB.out⟩
abbrev Ky := Nat × Nat × Nat
def kyV (k : Ky) : Value := .agg #[.int .i64 (k.1 : Int), .int .i64 (k.2.1 : Int), .int .i64 (k.2.2 : Int)]
def mapEsR : List (Ky × Value) -> Nat -> List MapEntry
 | [], _ => []
 | p :: l, i => { key := kyV p.1, val := p.2, born := i } :: mapEsR l (i + 1)
theorem mapEsR_append : ∀ (l : List (Ky × Value)) (k : Ky) (v : Value) (i : Nat), mapEsR (l ++ [(k, v)]) i = mapEsR l i ++ [{ key := kyV k, val := v, born := i + l.length }]
 | [], k, v, i => rfl
 | p :: l, k, v, i => by
  show _ :: mapEsR (l ++ [(k, v)]) (i + 1) = _
  rw [mapEsR_append l k v (i + 1)]
  simp [mapEsR]; omega
def IsMapR (w : World) (m : Nat) (l : List (Ky × Value)) : Prop := w.heap[m]? = some (.map (mapEsR l 0).toArray l.length)
theorem IsMapR.lt {w : World} {m : Nat} {l : List (Ky × Value)} (h : IsMapR w m l) : m < w.heap.size := (Array.getElem?_eq_some_iff.1 h).1
def putMapR (w : World) (m : Nat) (l : List (Ky × Value)) : World := { w with heap := w.heap.setIfInBounds m (.map (mapEsR l 0).toArray l.length) }
theorem putMapR_is {w : World} {m : Nat} (h : m < w.heap.size) (l' : List (Ky × Value)) : IsMapR (putMapR w m l') m l' := by
 unfold IsMapR putMapR; simp [h]
theorem putMapR_other {w : World} {m b : Nat} (hb : b ≠ m) (l : List (Ky × Value)) : (putMapR w m l).heap[b]? = w.heap[b]? := by
 unfold putMapR; simp [Ne.symm hb]
theorem putMapR_size (w : World) (m : Nat) (l : List (Ky × Value)) : (putMapR w m l).heap.size = w.heap.size := by simp [putMapR]
def findER : List (Ky × Value) -> Ky -> Nat -> Option (Nat × Value)
 | [], _, _ => none
 | p :: l, k, i => if p.1 = k then some (i, p.2) else findER l k (i + 1)
theorem findER_some {k : Ky} {v : Value} {j : Nat} : ∀ {l : List (Ky × Value)} {i : Nat}, findER l k i = some (j, v) -> (k, v) ∈ l
 | [], i, h => by cases h
 | p :: l, i, h => by
  unfold findER at h
  split at h
  ·rename_i e
   cases h
   rw [<- e]; simp
  ·exact List.mem_cons_of_mem _ (findER_some h)
theorem equal_ky (a b : Ky) (w : World) : (Op.equal 95 (kyV a) (kyV b)).run Try.prog w = .ok (decide (b = a)) w := by
 obtain ⟨a1, a2, a3⟩ := a
 obtain ⟨b1, b2, b3⟩ := b
 have hu : Try.prog.underlying 95 = some (.struct (Try.prog.fieldsOf 95)) := by kernel_rfl
 show (Op.equalIn (9999 + 1) 95 _ _).run Try.prog w = _
 unfold kyV
 simp only
 rw [run_equalIn_struct w 9999 _ _ _ hu (by kernel_rfl)]
 simp only [Program.fieldsOf, Try.underlying95]
 have hi : ∀ (a b : Int) w, (Op.equalIn 9999 3 (.int .i64 a) (.int .i64 b)).run Try.prog w = .ok (a == b) w := fun a b w => equalIn_i64 9998 a b w
 simp [Op.eqFields, part, go_sem, hi]
 clear hi hu
 by_cases h1 : a1 = b1 <;> by_cases h2 : a2 = b2 <;> by_cases h3 : a3 = b3 <;> simp [h1, h2, h3, eq_comm] <;> omega
theorem findAsking_mapEsR (k : Ky) (w : World) : ∀ (l : List (Ky × Value)) (i : Nat), (Instr.findAsking 95 (kyV k) (mapEsR l i) i).run Try.prog w = .ok (findER l k i) w
 | [], i => rfl
 | p :: l, i => by
  unfold mapEsR Instr.findAsking findER
  simp only [Sem.run_bind, equal_ky, Result.andThen]
  by_cases h : p.1 = k
  ·simp [h]
  ·simp [h, findAsking_mapEsR k w l (i + 1)]
theorem checkKey_ky {e : Bool} {k : Ky} (w : World) : (Instr.checkKey e 10000 95 (kyV k)).run Try.prog w = .ok () w := by
 obtain ⟨a, b, c⟩ := k
 have hu : Try.prog.underlying 95 = some (.struct (Try.prog.fieldsOf 95)) := by kernel_rfl
 have hi : ∀ (a : Int) w, (Instr.checkKey e 9999 3 (.int .i64 a)).run Try.prog w = .ok () w := fun a w => by
  rw [show (9999 : Nat) = 9998 + 1 from rfl]
  unfold Instr.checkKey
  simp [run_underlying Try.underlying3, Result.andThen]
 rw [show (10000 : Nat) = 9999 + 1 from rfl]
 unfold Instr.checkKey kyV
 simp only [Sem.run_bind, run_underlying hu, Result.andThen]
 simp only [Program.fieldsOf, Try.underlying95]
 simp [part, go_sem, hi]
theorem run_findKey_ky (k : Ky) (w : World) (l : List (Ky × Value)) : (Instr.findKey 95 (kyV k) (mapEsR l 0)).run Try.prog w = .ok (findER l k 0) w := by
 have hu : Try.prog.underlying 95 = some (.struct (Try.prog.fieldsOf 95)) := by kernel_rfl
 unfold Instr.findKey
 simp only [Sem.run_bind, run_underlying hu, Result.andThen]
 cases l with
 | nil => rfl
 | cons p l =>
  have : Instr.findNow (.struct (Try.prog.fieldsOf 95)) (kyV k) (mapEsR (p :: l) 0) 0 = none := by
   unfold mapEsR Instr.findNow
   simp only [kyV, Instr.sameNow]
  simp only [this]
  exact findAsking_mapEsR k w (p :: l) 0
theorem run_lookup_ky (w : World) (m : Nat) (l : List (Ky × Value)) (k : Ky) (hm : IsMapR w m l) :
 (Instr.lookup 74 (.map (some m)) (kyV k) true).run Try.prog w = .ok (match findER l k 0 with | some (_, v) => .tuple #[v, .bool true] | none => .tuple #[.slice none 0 0, .bool false]) w := by
 unfold IsMapR at hm
 have hz := Try.zeroValue78
 simp only [Instr.lookup, Sem.run_bind, run_underlying Try.underlying74, Result.andThen, getObj, Sem.run, hm, checkKey_ky]
 rw [show (Sem.run Try.prog (pure (mapEsR l 0).toArray) w) = .ok (mapEsR l 0).toArray w from rfl]
 simp only [run_findKey_ky]
 cases h : findER l k 0 with
 | none => simp [Sem.run_bind, hz, Result.andThen]
 | some p => obtain ⟨i, v⟩ := p; rfl
theorem run_update_ky (w : World) (m : Nat) (l : List (Ky × Value)) (k : Ky) (v : Value) (hm : IsMapR w m l) (hk : findER l k 0 = none) :
 (Instr.mapUpdate 74 (.map (some m)) (kyV k) v).run Try.prog w = .ok () (putMapR w m (l ++ [(k, v)])) := by
 have hlt := hm.lt
 unfold IsMapR at hm
 simp only [Instr.mapUpdate, Sem.run_bind, run_underlying Try.underlying74, Result.andThen, getObj, Sem.run, hm, checkKey_ky, run_findKey_ky, hk]
 simp only [setObj, Sem.run, hm]
 unfold putMapR
 rw [mapEsR_append]
 simp [Sem.run, hm]
end Go.Proofs.Ytpbbokdmoaadfaa
namespace Go.Proofs.Ytpbbokdmoaadfaa
set_option maxHeartbeats 64000000
set_option maxRecDepth 1000000
set_option linter.all false
open Go
theorem sg_first {f : Nat -> Nat} : ∀ {n : Nat}, sg (n + 1) f = f 0 + sg n fun k => f (k + 1)
 | 0 => by rw [sg_succ, sg_zero, sg_zero]; omega
 | n + 1 => by rw [sg_succ, sg_first, sg_succ]; omega
def cV (l : List Nd) (i : Nat) (W : Wd) (a b : Nat) : Nat := if a <= b then cntN l i (sgW W a b) else 0
theorem rowV_cV {l : List Nd} {i : Nat} {W : Wd} {a b : Nat} : rowV l i W a b = min 2 (cV l i W a b) := by
 unfold rowV cV; split <;> rfl
section
variable {l : List Nd} {i : Nat} {W : Wd} {F : Nat -> Nat} {a b : Nat} (hF : Form l) (hi : i < l.length) (hb : b < W.length + 1)
include hF hi hb
theorem star_rec (hk : (atN l i).kind = 6) : cV l i W a b = (if b = a then 1 else 0) + sg b fun p => cV l i W a p * cV l (atN l i).a.toNat W p b := by
 have ha := cnt_kidA hF hi (by omega)
 by_cases h : a <= b
 ·have hl : (sgW W a b).length = b - a := sgW_len (by omega)
  conv => lhs; unfold cV
  rw [if_pos h, cnt_k6 hF hi hk (M := W.length + 1 + 1) (by omega)]
  show sg (W.length + 1 + 1) _ = _
  rw [sg_first, cntT_zero hF (by omega)]
  congr 1
  ·by_cases e : b = a
   ·rw [if_pos ((sgW_nil (by omega) h).2 e), if_pos e]
   ·rw [if_neg (fun h' => e ((sgW_nil (by omega) h).1 h')), if_neg e]
  ·have e1 : ∀ t, t < W.length + 1 -> cntT l (atN l i).a.toNat (t + 1) (sgW W a b) = sg (b - a) fun k => cntT l (atN l i).a.toNat t ((sgW W a b).take k) * cntN l (atN l i).a.toNat ((sgW W a b).drop k) := fun t _ => by
    rw [cntT_more hF (by omega), hl]; rfl
   rw [sg_congr e1, sg_swap]
   have e2 : sg b (fun p => cV l i W a p * cV l (atN l i).a.toNat W p b) = sg (b - a) fun k => cV l i W a (a + k) * cV l (atN l i).a.toNat W (a + k) b := by
    unfold sg
    refine sum_mid (by omega) fun k hk h' => ?_
    unfold cV
    rw [if_neg (c := a <= k) (by omega), Nat.zero_mul]
   rw [e2]
   refine sg_congr fun k hk => ?_
   rw [sg_mulr]
   unfold cV
   rw [if_pos (by omega), if_pos (by omega), sgW_take (by omega), sgW_drop]
   congr 1
   rw [cnt_k6 hF hi ‹_› (M := W.length + 1) (by rw [sgW_len (by omega)]; omega)]
   rfl
 ·unfold cV
  rw [if_neg h, if_neg (by omega), sg_nil fun k hk => by rw [if_neg (by omega), Nat.zero_mul]]
theorem th_star (hk : (atN l i).kind = 6) : thV l i W F b = min 2 (F b + sg b fun p => thV l i W F p * rowV l (atN l i).a.toNat W p b) := by
 have e0 : ∀ p, thV l i W F p = min 2 (sg (W.length + 1) fun j => F j * cV l i W j p) := fun p => by
  unfold thV
  exact sg_sat fun j _ => by rw [rowV_cV, sat_r]
 rw [e0 b]
 have e1 : (sg (W.length + 1) fun j => F j * cV l i W j b) = F b + sg b fun p => (sg (W.length + 1) fun j => F j * cV l i W j p) * cV l (atN l i).a.toNat W p b := by
  rw [sg_congr fun j _ => by rw [star_rec hF hi hb hk, Nat.mul_add, <- sg_mul], sg_add, sg_swap]
  congr 1
  ·rw [sg_one hb fun k _ hne => by rw [if_neg (fun e => hne e.symm), Nat.mul_zero], if_pos rfl, Nat.mul_one]
  ·refine sg_congr fun p _ => ?_
   rw [<- sg_mulr]
   exact sg_congr fun j _ => by rw [Nat.mul_assoc]
 rw [e1]
 refine sat_add rfl (sg_sat fun p _ => ?_)
 rw [e0 p, rowV_cV, sat_mul]
end
def stF (l : List Nd) (i a : Nat) (W : Wd) (F : Nat -> Nat) (q b : Nat) : Nat := min 2 (F b + sg (min q b) fun p => thV l i W F p * rowV l a W p b)
theorem stF_le {l : List Nd} {i a : Nat} {W : Wd} {F : Nat -> Nat} {q b : Nat} : stF l i a W F q b <= 2 := by unfold stF; omega
theorem stF_start {l : List Nd} {i a : Nat} {W : Wd} {F : Nat -> Nat} {f b : Nat} (hF : ∀ j, j < f -> F j = 0) : stF l i a W F f b = min 2 (F b) := by
 unfold stF
 rw [sg_nil fun p hp => by rw [thV_below hF (by omega), Nat.zero_mul], Nat.add_zero]
theorem stF_step {l : List Nd} {i a : Nat} {W : Wd} {F : Nat -> Nat} {q b : Nat} : stF l i a W F (q + 1) b = if q < b then min 2 (stF l i a W F q b + thV l i W F q * rowV l a W q b) else stF l i a W F q b := by
 unfold stF
 split
 ·rename_i h
  rw [Nat.min_eq_left (show q + 1 <= b by omega), Nat.min_eq_left (show q <= b by omega), sg_succ]; omega
 ·rw [Nat.min_eq_right (show b <= q + 1 by omega), Nat.min_eq_right (show b <= q by omega)]
section
variable {l : List Nd} {i : Nat} {W : Wd} {F : Nat -> Nat} {b : Nat} (hF : Form l) (hi : i < l.length)
include hF hi
theorem stF_done (hb : b < W.length + 1) (hk : (atN l i).kind = 6) {q : Nat} (hq : b <= q) : stF l i (atN l i).a.toNat W F q b = thV l i W F b := by
 rw [th_star hF hi hb hk]
 unfold stF
 rw [Nat.min_eq_right hq]
theorem stF_end (hk : (atN l i).kind = 6) {q : Nat} (h0 : ∀ b, q <= b -> b < W.length + 1 -> stF l i (atN l i).a.toNat W F q b = 0) : ∀ b, b < W.length + 1 -> stF l i (atN l i).a.toNat W F q b = thV l i W F b := by
 intro b
 induction b using Nat.strongRecOn with
 | ind b ih =>
  intro hb
  rcases Nat.lt_or_ge b q with h | h
  ·exact stF_done hF hi hb hk (by omega)
  ·have hz := h0 b h hb
   rw [hz, th_star hF hi hb hk]
   have e1 : F b = 0 := by unfold stF at hz; omega
   have e2 : sg b (fun p => thV l i W F p * rowV l (atN l i).a.toNat W p b) = sg q fun p => thV l i W F p * rowV l (atN l i).a.toNat W p b := by
    refine sg_up h fun p h1 h2 => ?_
    rw [<- ih p h2 (by omega), h0 p h1 (by omega), Nat.zero_mul]
   rw [e1, e2]
   unfold stF at hz
   rw [Nat.min_eq_left h] at hz
   omega
end
def kdL (q x : Nat) (L : List (Nat × Nat)) : List (Nat × Nat) := L.filterMap fun p => if q < p.1 then some (p.1, x * p.2) else none
theorem kdL_snoc {q x : Nat} {L : List (Nat × Nat)} {p : Nat × Nat} : kdL q x (L ++ [p]) = kdL q x L ++ if q < p.1 then [(p.1, x * p.2)] else [] := by
 unfold kdL
 rw [List.filterMap_append]
 congr 1
 by_cases h : q < p.1 <;> simp [h]
theorem kdL_sum {q x b : Nat} : ∀ {L : List (Nat × Nat)}, sumAt (kdL q x L) b = if q < b then x * sumAt L b else 0
 | [] => by simp [kdL, sumAt]
 | p :: L => by
  have ih := kdL_sum (q := q) (x := x) (b := b) (L := L)
  unfold kdL at ih ⊢
  rw [List.filterMap_cons]
  by_cases h : q < p.1
  ·simp only [h, if_true, sumAt]
   rw [ih]
   by_cases e : p.1 = b
   ·rw [if_pos e, if_pos e, <- e, if_pos h, if_pos h, Nat.mul_add]
   ·rw [if_neg e, if_neg e]; simp
  ·simp only [h, if_false, sumAt]
   rw [ih]
   by_cases e : p.1 = b
   ·rw [<- e, if_neg h, if_neg h]
   ·rw [if_neg e]; simp
theorem kdL_mem {q x : Nat} {L : List (Nat × Nat)} {p : Nat × Nat} (h : p ∈ kdL q x L) : q < p.1 /\ ∃ y, (p.1, y) ∈ L := by
 unfold kdL at h
 obtain ⟨r, hr, h⟩ := List.mem_filterMap.1 h
 split at h
 ·cases h; exact ⟨‹_›, r.2, hr⟩
 ·cases h
theorem kd_tally {first q x n : Nat} {S : List UInt8} {G : Nat -> Nat} (hq : first <= q) (hS : first + S.length <= n \/ S = []) (h2 : ∀ b, tyF first S b <= 2) :
 (first + (tyAll first S (kdL q x (plF n G))).length <= n \/ tyAll first S (kdL q x (plF n G)) = []) /\ ∀ b, b < n -> tyF first (tyAll first S (kdL q x (plF n G))) b = if q < b then min 2 (tyF first S b + x * G b) else tyF first S b := by
 have hp : ∀ p ∈ kdL q x (plF n G), first <= p.1 /\ p.1 < n := fun p hp => by
  obtain ⟨h1, y, h3⟩ := kdL_mem hp
  exact ⟨by omega, (mem_plF.1 h3).1⟩
 refine ⟨?_, fun b hb => ?_⟩
 ·rcases hS with hS | hS
  ·exact .inl (tyAll_reach hS hp)
  ·subst hS
   cases hk : kdL q x (plF n G) with
   | nil => exact .inr rfl
   | cons r R =>
    have := hp r (by rw [hk]; simp)
    rw [hk] at hp
    exact .inl (tyAll_reach (by simp; omega) hp)
 ·rw [tyF_all (fun p h => (hp p h).1) (h2 b), kdL_sum, sumAt_plF, if_pos hb]
  split
  ·rfl
  ·have := h2 b; omega
theorem ty_two {first : Nat} : ∀ {L : List (Nat × Nat)} {S : List UInt8}, (∀ p ∈ L, first <= p.1) -> (∀ b, tyF first S b <= 2) -> ∀ b, tyF first (tyAll first S L) b <= 2 := fun hL h b => by rw [tyF_all hL (h b)]; omega
def moS (first n : Nat) (R : Nat -> Nat -> Nat) : List UInt8 -> List (Nat × Nat) -> List UInt8
 | S, [] => S
 | S, p :: L => moS first n R (tyAll first S (kdL p.1 p.2 (plF n (R p.1)))) L
theorem moS_snoc {first n : Nat} {R : Nat -> Nat -> Nat} : ∀ {L : List (Nat × Nat)} {S : List UInt8} {p : Nat × Nat}, moS first n R S (L ++ [p]) = tyAll first (moS first n R S L) (kdL p.1 p.2 (plF n (R p.1)))
 | [], S, p => rfl
 | q :: L, S, p => by
  rw [List.cons_append]
  show moS first n R _ (L ++ [p]) = _
  rw [moS_snoc]; rfl
theorem moS_F {first n : Nat} {R : Nat -> Nat -> Nat} : ∀ {L : List (Nat × Nat)} {S : List UInt8}, (∀ p ∈ L, first <= p.1) -> (first + S.length <= n \/ S = []) -> (∀ b, tyF first S b <= 2) ->
 (first + (moS first n R S L).length <= n \/ moS first n R S L = []) /\ (∀ b, tyF first (moS first n R S L) b <= 2) /\ ∀ b, b < n -> tyF first (moS first n R S L) b = min 2 (tyF first S b + thrL L (fun j b => if j < b then R j b else 0) b)
 | [], S, _, hS, h2 => ⟨hS, h2, fun b _ => by show tyF first S b = min 2 (_ + 0); have := h2 b; omega⟩
 | p :: L, S, hp, hS, h2 => by
  have h1 := kd_tally (x := p.2) (G := R p.1) (hp p (by simp)) hS h2
  have h3 : ∀ b, tyF first (tyAll first S (kdL p.1 p.2 (plF n (R p.1)))) b <= 2 := ty_two (fun q hq => by
   have := (kdL_mem hq).1
   have := hp p (by simp)
   omega) h2
  obtain ⟨k1, k2, k3⟩ := moS_F (L := L) (fun q hq => hp q (List.mem_cons_of_mem _ hq)) h1.1 h3
  refine ⟨k1, k2, fun b hb => ?_⟩
  show tyF first (moS first n R _ L) b = _
  rw [k3 b hb, h1.2 b hb]
  have e : thrL (p :: L) (fun j b => if j < b then R j b else 0) b = p.2 * (if p.1 < b then R p.1 b else 0) + thrL L (fun j b => if j < b then R j b else 0) b := by unfold thrL; rw [List.map_cons, List.sum_cons]
  rw [e]
  split
  ·omega
  ·rw [Nat.mul_zero]; omega
def nF (l : List Nd) (a : Nat) (W : Wd) (F : Nat -> Nat) (t b : Nat) : Nat := min 2 (sg (W.length + 1) fun j => F j * nowV l a W j t b)
theorem nF_le {l : List Nd} {a : Nat} {W : Wd} {F : Nat -> Nat} {t b : Nat} : nF l a W F t b <= 2 := by unfold nF; omega
section
variable {l : List Nd} {a : Nat} {W : Wd} {F : Nat -> Nat} {b : Nat} (hF : Form l) (ha : a < l.length) (hb : b < W.length + 1)
include hF ha hb
theorem nF_zero (h2 : F b <= 2) : nF l a W F 0 b = F b := by
 unfold nF
 rw [sg_one hb fun k _ hne => by rw [now_zero hF ha (by omega), if_neg (fun e => hne e.symm), Nat.mul_zero], now_zero hF ha (by omega), if_pos rfl, Nat.mul_one]; omega
theorem nF_more {t : Nat} : min 2 (sg (W.length + 1) fun p => nF l a W F t p * if p < b then rowV l a W p b else 0) = nF l a W F (t + 1) b := by
 unfold nF
 have e0 : ∀ k, k < W.length + 1 -> min 2 (min 2 (sg (W.length + 1) fun j => F j * nowV l a W j t k) * (if k < b then rowV l a W k b else 0)) = min 2 (sg (W.length + 1) fun j => F j * nowV l a W j t k * if k < b then rowV l a W k b else 0) := fun k _ => by rw [sat_l, <- sg_mulr]
 rw [sg_sat e0, sg_swap]
 refine sg_sat fun j _ => ?_
 rw [sg_congr fun k _ => by rw [Nat.mul_assoc], sg_mul, <- sat_r]
 have := now_more (a := j) (t := t) hF ha (show b <= W.length by omega)
 rw [<- this]
 congr 3
 refine sg_congr fun k hk => ?_
 congr 1
 by_cases h : k < b
 ·rw [if_pos h, if_neg (by omega)]
 ·by_cases e : b = k
  ·rw [if_neg h, if_pos e]
  ·rw [if_neg h, if_neg e, rowV_back (by omega)]
end
section
variable {l : List Nd} {a : Nat} {W : Wd} {F : Nat -> Nat} (hF : Form l) (ha : a < l.length)
include hF ha
theorem nF_dead {t : Nat} (h : ∀ b, b < W.length + 1 -> nF l a W F t b = 0) : ∀ (s b : Nat), t <= s -> b < W.length + 1 -> nF l a W F s b = 0 := by
 intro s
 induction s with
 | zero =>
  intro b hs hb
  obtain rfl : t = 0 := by omega
  exact h b hb
 | succ s ih =>
  intro b hs hb
  rcases Nat.lt_or_ge s t with h' | h'
  ·rw [show s + 1 = t by omega]; exact h b hb
  ·rw [<- nF_more hF ha hb, sg_nil fun p hp => by rw [ih p h' hp, Nat.zero_mul]]; rfl
end
theorem nowV_long {l : List Nd} {a : Nat} {W : Wd} {j t b : Nat} (h : W.length < t) (hb : b < W.length + 1) : nowV l a W j t b = 0 := by
 unfold nowV
 split
 ·unfold cntT runT
  rw [List.filter_eq_nil_iff.2]
  ·rfl
  ·intro xs hx
   have := runL_short hx
   rw [sgW_len (by omega)] at this
   simp; omega
 ·rfl
section
variable {l : List Nd} {i : Nat} {W : Wd} {F : Nat -> Nat} {b : Nat} (hF : Form l) (hi : i < l.length) (hb : b < W.length + 1)
include hF hi hb
theorem th_k7 (hk : (atN l i).kind = 7) : thV l i W F b = min 2 (sg (W.length + 2) fun (t : Nat) => if (atN l i).lo <= (t : Int) /\ (t : Int) <= (atN l i).hi then nF l (atN l i).a.toNat W F t b else 0) := by
 have e : ∀ t : Nat, t < W.length + 2 -> min 2 (if (atN l i).lo <= (t : Int) /\ (t : Int) <= (atN l i).hi then nF l (atN l i).a.toNat W F t b else 0) = min 2 (sg (W.length + 1) fun j => F j * if (atN l i).lo <= (t : Int) /\ (t : Int) <= (atN l i).hi then nowV l (atN l i).a.toNat W j t b else 0) := fun t _ => by
  split
  ·unfold nF; omega
  ·rw [sg_nil fun _ _ => Nat.mul_zero _]
 rw [sg_sat e, sg_swap]
 unfold thV
 refine sg_sat fun j _ => ?_
 rw [sg_mul, <- sat_r (y := sg _ _)]
 congr 2
 exact (row_k7 (a := j) hF hi (by omega) hk).symm
theorem th_rep (hk : (atN l i).kind = 7) {k : Nat} (hk1 : (k : Int) <= (atN l i).hi + 1) (h0 : ∀ t : Nat, k <= t -> (t : Int) <= (atN l i).hi -> nF l (atN l i).a.toNat W F t b = 0) :
 min 2 (sg k fun (t : Nat) => if (atN l i).lo <= (t : Int) then nF l (atN l i).a.toNat W F t b else 0) = thV l i W F b := by
 rw [th_k7 hF hi hb hk]
 congr 1
 have e1 : (sg k fun (t : Nat) => if (atN l i).lo <= (t : Int) then nF l (atN l i).a.toNat W F t b else 0) = sg k fun (t : Nat) => if (atN l i).lo <= (t : Int) /\ (t : Int) <= (atN l i).hi then nF l (atN l i).a.toNat W F t b else 0 := sg_congr fun t ht => by
  by_cases h : (atN l i).lo <= (t : Int)
  ·rw [if_pos h, if_pos ⟨h, by omega⟩]
  ·rw [if_neg h, if_neg (fun h' => h h'.1)]
 rw [e1, <- sg_up (m := max k (W.length + 2)) (n := k) (by omega), <- sg_up (m := max k (W.length + 2)) (n := W.length + 2) (by omega)]
 ·intro t h1 h2
  split
  ·unfold nF
   rw [sg_nil fun j _ => by rw [nowV_long (by omega) hb, Nat.mul_zero]]; rfl
  ·rfl
 ·intro t h1 h2
  split
  ·rename_i h; exact h0 t h1 h.2
  ·rfl
end
end Go.Proofs.Ytpbbokdmoaadfaa
namespace Go.Proofs.Ytpbbokdmoaadfaa
set_option maxHeartbeats 64000000
set_option maxRecDepth 1000000
set_option linter.all false
open Go Go.RowKit
structure Kc (B : Nat) (w w' : World) : Prop where
 size : w.heap.size <= w'.heap.size
 block : ∀ k, k < B -> ∀ vs t, Blk w k vs t -> Blk w' k vs t
 cell : ∀ p v, p.block < B -> w.cell? p = some v -> w'.cell? p = some v
theorem Kc.nrow {w w' : World} {A : Option Addr} {l : List Nd} (h : Kc w.heap.size w w') (k : NRow w A l) : NRow w' A l := fun i hi => by
 obtain ⟨b, off, ha, hlt, hc⟩ := k i hi
 refine ⟨b, off, ha, Nat.lt_of_lt_of_le hlt h.size, fun j hj => ?_⟩
 have e : ∃ v, (ndC (l.getD i nd0))[j]? = some v := by
  have : (ndC (l.getD i nd0)).size = 10 := rfl
  exact ⟨_, Array.getElem?_eq_getElem (by omega)⟩
 obtain ⟨v, hv⟩ := e
 rw [hv]
 exact h.cell ⟨b, off + i * 10 + j, none⟩ v hlt ((hc j hj).trans hv)
theorem Kc.isW {w w' : World} {W : List UInt8} {v : Value} (h : Kc w.heap.size w w') (k : IsW W v w) : IsW W v w' := by
 rcases k with k | ⟨b, off, cap, h1, h2, h5, h3, h4⟩
 ·exact .inl k
 ·exact .inr ⟨b, off, cap, h1, h2, h5, Nat.lt_of_lt_of_le h3 h.size, fun i hi => h.cell ⟨b, off + i, none⟩ _ h3 (h4 i hi)⟩
theorem Kc.rrow {w w' : World} {A : Option Addr} {l : List (Nat × Nat)} (h : Kc w.heap.size w w') (k : RcRow w A l) : RcRow w' A l := k.keep fun b cur hb => h.block b hb.lt _ _ hb
theorem Kc.isR {w w' : World} {v : Value} {l : List (Nat × Nat)} (h : Kc w.heap.size w w') (k : IsR w v l) : IsR w' v l := by
 obtain ⟨A, c, h1, h2, h3⟩ := k
 exact ⟨A, c, h1, h2, h.rrow h3⟩
theorem Kc.owns {w w' : World} {base size n : Nat} {e : TypeId} {v : Value} {xs : List Value} (h : Kc w.heap.size w w') (k : w.ownsRow base e size v n xs) : w'.ownsRow base e size v n xs := by
 obtain ⟨h0, h1 | ⟨g, cap, cur, hv, hb, hg, hr⟩⟩ := k
 ·exact ⟨h0, .inl h1⟩
 ·have hk : Blk w g cur e := hg
  exact ⟨h0, .inr ⟨g, cap, cur, hv, hb, h.block g hk.lt _ _ hk, hr⟩⟩
def KeptX (w : World) (m : Nat) (l : List Nd) (V : Wd) (X : Nat -> Prop) : Prop := ∃ es, IsMapR w m es /\ ∀ k v, (k, v) ∈ es -> k.1 < l.length /\ k.2.1 <= k.2.2 /\ k.2.2 <= V.length /\
 ∃ A c, v = .slice A (plF (k.2.2 + 1) (rowV l k.1 V k.2.1)).length c /\ (plF (k.2.2 + 1) (rowV l k.1 V k.2.1)).length <= c /\ RcRow w A (plF (k.2.2 + 1) (rowV l k.1 V k.2.1)) /\ (plF (k.2.2 + 1) (rowV l k.1 V k.2.1) ≠ [] -> ∀ b o, A = some ⟨b, o, none⟩ -> ¬ X b)
theorem KeptX.less {w : World} {m : Nat} {l : List Nd} {V : Wd} {X Y : Nat -> Prop} (h : KeptX w m l V X) (hy : ∀ g, Y g -> X g) : KeptX w m l V Y := by
 obtain ⟨es, h1, h2⟩ := h
 refine ⟨es, h1, fun k v hk => ?_⟩
 obtain ⟨a, b, c, A, cc, d, e, f, g⟩ := h2 k v hk
 exact ⟨a, b, c, A, cc, d, e, f, fun hn b o ho hx => g hn b o ho (hy b hx)⟩
theorem KeptX.keep {w w' : World} {m : Nat} {l : List Nd} {V : Wd} {X : Nat -> Prop} (h : KeptX w m l V X) (hm : ∀ es, IsMapR w m es -> IsMapR w' m es) (hk : ∀ b cur, ¬ X b -> Blk w b cur 92 -> Blk w' b cur 92) : KeptX w' m l V (fun g => X g \/ w.heap.size <= g) := by
 obtain ⟨es, h1, h2⟩ := h
 refine ⟨es, hm _ h1, fun k v hkv => ?_⟩
 obtain ⟨a, b, c, A, cc, d, e, f, g⟩ := h2 k v hkv
 refine ⟨a, b, c, A, cc, d, e, fun hl => ?_, fun hn b o ho hx => ?_⟩
 ·obtain ⟨bb, off, cur, k1, k2, k3⟩ := f hl
  exact ⟨bb, off, cur, k1, hk bb cur (g hl bb off k1) k2, k3⟩
 ·obtain ⟨bb, off, cur, k1, k2, k3⟩ := f hn
  rw [ho] at k1
  cases k1
  rcases hx with hx | hx
  ·exact g hn b o ho hx
  ·have := k2.lt; omega
def Out (v : Value) (X : Nat -> Prop) : Prop := ∀ A n c, v = .slice A n c -> n ≠ 0 -> ∀ b o, A = some ⟨b, o, none⟩ -> ¬ X b
def Nw (B : Nat) (v : Value) : Prop := ∀ A n c, v = .slice A n c -> n ≠ 0 -> ∀ b o, A = some ⟨b, o, none⟩ -> B <= b
theorem Nw.out {B : Nat} {v : Value} {X : Nat -> Prop} (h : Nw B v) (hX : ∀ g, X g -> g < B) : Out v X := fun A n c e hn b o ho hx => by
 have := h A n c e hn b o ho
 have := hX b hx
 omega
theorem Nw.mono {B B' : Nat} {v : Value} (h : Nw B v) (hB : B' <= B) : Nw B' v := fun A n c e hn b o ho => Nat.le_trans hB (h A n c e hn b o ho)
theorem OwnR.nw {w : World} {base : Nat} {v : Value} {l : List (Nat × Nat)} (h : OwnR w base v l) : Nw base v := fun A n c e hn b o ho => by
 obtain ⟨_, ⟨hv, hn'⟩ | ⟨g, cap, cur, hv, hb, hg, hr⟩⟩ := h
 ·rw [hv] at e; cases e; cases ho
 ·rw [hv] at e; cases e; cases ho; exact hb
theorem Nw.nil (B : Nat) (c : Nat) : Nw B (.slice none 0 c) := fun A n c' e hn => by cases e; exact absurd rfl hn
structure Rk (m : Nat) (l : List Nd) (V : Wd) (B : Nat) (O : List Nat) (w w' : World) : Prop where
 os : w'.os = w.os
 tape : w'.tape = w.tape
 output : w'.output = w.output
 size : w.heap.size <= w'.heap.size
 block : ∀ k, k < B -> k ≠ m -> w'.heap[k]? = w.heap[k]?
 low : ∀ g ∈ O, B <= g /\ g < w'.heap.size
 map : ∀ X, (∀ g, X g -> g < B) -> KeptX w m l V X -> KeptX w' m l V (fun g => X g \/ g ∈ O)
 nc : ∀ k o, k ≠ m -> w.heap[k]? = some o -> (∀ vs t, o ≠ Obj.cells vs t) -> w'.heap[k]? = some o
section
variable {m : Nat} {l : List Nd} {V : Wd} {B : Nat} {O : List Nat} {w0 w w' : World}
theorem Rk.refl (w : World) (B : Nat) : Rk m l V B [] w w := ⟨rfl, rfl, rfl, Nat.le_refl _, fun _ _ _ => rfl, (fun g hg => by cases hg), fun X _ h => h.less fun g hg => (by rcases hg with h | h; exact h; cases h), fun _ _ _ h _ => h⟩
theorem Rk.call (h : Rk m l V B O w0 w) (hB : B <= w.heap.size) (k : Rk m l V w.heap.size [] w w') : Rk m l V B O w0 w' :=
 ⟨k.os.trans h.os, k.tape.trans h.tape, k.output.trans h.output, Nat.le_trans h.size k.size, fun b hb hm => (k.block b (by omega) hm).trans (h.block b hb hm),
  fun g hg => ⟨(h.low g hg).1, Nat.lt_of_lt_of_le (h.low g hg).2 k.size⟩,
  fun X hX hK => (k.map _ (fun g hg => by rcases hg with hg | hg; exact Nat.lt_of_lt_of_le (hX g hg) hB; exact (h.low g hg).2) (h.map X hX hK)).less fun g hg => .inl hg, fun b o hb ho hn => k.nc b o hb (h.nc b o hb ho hn) hn⟩
theorem Rk.of_below (h : Below w.heap.size w w') : Rk m l V w.heap.size [] w w' :=
 ⟨h.os, h.tape, h.output, h.size, fun b hb _ => h.block b hb, (fun g hg => by cases hg),
  fun X _ hK => (hK.keep (fun es k => (h.block m k.lt).trans k) fun b cur _ k => k.later h).less fun g hg => (by rcases hg with h | h; exact .inl h; cases h), fun b o _ ho _ => (h.block b (Array.getElem?_eq_some_iff.1 ho).1).trans ho⟩
theorem Rk.later (h : Rk m l V B O w0 w) (hB : B <= w.heap.size) (k : Below w.heap.size w w') : Rk m l V B O w0 w' := h.call hB (.of_below k)
theorem ismap_blk {es : List (Ky × Value)} {b : Nat} {vs : Array Value} {t : TypeId} (h : IsMapR w m es) (k : Blk w b vs t) : b ≠ m := fun e => by
 subst e
 unfold IsMapR at h; unfold Blk at k
 rw [h] at k; cases k
theorem Rk.setT (h : Rk m l V B O w0 w) {g : Nat} {vs : Array Value} {t : TypeId} (k : Blk w g vs t) (ht : t ≠ 92) (hg : B <= g) (j : Nat) (u : Value) : Rk m l V B O w0 (w.setCell ⟨g, j, none⟩ u) := by
 have hs : (w.setCell ⟨g, j, none⟩ u).heap.size = w.heap.size := by simp [World.setCell]
 refine ⟨h.os, h.tape, h.output, by rw [hs]; exact h.size, fun b hb hm => (Below.heap_setCell _ _ _ _ (show b ≠ g by omega)).trans (h.block b hb hm), fun g' hg' => by rw [hs]; exact h.low g' hg', fun X hX hK => ?_, fun b o hb ho hn => (Below.heap_setCell _ _ _ _ (fun e => by have e : b = g := e; subst e; have h9 := h.nc b o hb ho hn; unfold Blk at k; rw [k] at h9; exact hn _ _ (Option.some.inj h9).symm)).trans (h.nc b o hb ho hn)⟩
 refine ((h.map X hX hK).keep (fun es hm => ?_) fun b cur _ hb => ?_).less fun g' hg' => .inl hg'
 ·unfold IsMapR
  rw [Below.heap_setCell _ _ _ _ (fun e => ismap_blk hm k e.symm)]
  exact hm
 ·exact hb.setCell_ne (a := ⟨g, j, none⟩) (fun e => by
   have e : g = b := e
   subst e
   unfold Blk at hb k
   rw [hb] at k
   have := Option.some.inj k
   injection this with _ h2
   exact ht h2.symm) _
theorem Rk.growT (h : Rk m l V B O w0 w) (hB : B <= w.heap.size) {size n : Nat} {e : TypeId} {v : Value} {xs : List Value} (hown : w.ownsRow B e size v n xs) (ht : e ≠ 92) (hg : w.grownBy w' v.ownBlock) : Rk m l V B O w0 w' := by
 have hne : ∀ b cur, Blk w b cur 92 -> some b ≠ v.ownBlock := fun b cur hb e2 => by
  obtain ⟨_, ⟨hv, _⟩ | ⟨g, cap, cu, hv, _, hgg, _⟩⟩ := hown
  ·rw [hv] at e2; cases e2
  ·rw [hv] at e2
   have e2 : b = g := by simpa [Value.ownBlock] using e2
   subst e2
   unfold Blk at hb
   rw [hgg] at hb
   have := Option.some.inj hb
   injection this with _ h2
   exact ht h2
 have hnm : ∀ es, IsMapR w m es -> some m ≠ v.ownBlock := fun es hm e2 => by
  obtain ⟨_, ⟨hv, _⟩ | ⟨g, cap, cu, hv, _, hgg, _⟩⟩ := hown
  ·rw [hv] at e2; cases e2
  ·rw [hv] at e2
   have e2 : m = g := by simpa [Value.ownBlock] using e2
   subst e2
   unfold IsMapR at hm
   rw [hgg] at hm; cases hm
 have hnc : ∀ b o, b ≠ m -> w0.heap[b]? = some o -> (∀ vs t, o ≠ Obj.cells vs t) -> w'.heap[b]? = some o := fun b o hb ho hn => by
  have h9 := h.nc b o hb ho hn
  refine (hg.block b (Array.getElem?_eq_some_iff.1 h9).1 fun e2 => ?_).trans h9
  obtain ⟨_, ⟨hv, _⟩ | ⟨g, cap, cu, hv, _, hgg, _⟩⟩ := hown
  ·rw [hv] at e2; cases e2
  ·rw [hv] at e2
   have e2 : b = g := by simpa [Value.ownBlock] using e2
   subst e2
   rw [hgg] at h9
   exact hn _ _ (Option.some.inj h9).symm
 have hlo := World.ownsRow.lt hown
 refine ⟨hg.os.trans h.os, hg.tape.trans h.tape, hg.output.trans h.output, Nat.le_trans h.size hg.size, fun b hb hm => (hg.block b (by omega) (fun e2 => by have := (hlo b e2.symm).1; omega)).trans (h.block b hb hm), fun g' hg' => ⟨(h.low g' hg').1, Nat.lt_of_lt_of_le (h.low g' hg').2 hg.size⟩, fun X hX hK => ?_, hnc⟩
 refine ((h.map X hX hK).keep (fun es hm => (hg.block m hm.lt (hnm es hm)).trans hm) fun b cur _ hb => (hg.block b hb.lt (hne b cur hb)).trans hb).less fun g' hg' => .inl hg'
theorem Rk.growO (h : Rk m l V B O w0 w) (hB : B <= w.heap.size) {v v' : Value} {ll ll' : List (Nat × Nat)} (hown : OwnR w B v ll) (hown' : OwnR w' B v' ll') (hO : ∀ k, v.ownBlock = some k -> k ∈ O) (hg : w.grownBy w' v.ownBlock) (hp : v'.ownBlock = v.ownBlock \/ ∃ g', v'.ownBlock = some g' /\ w.heap.size <= g') :
 ∃ O', Rk m l V B O' w0 w' /\ ∀ k, v'.ownBlock = some k -> k ∈ O' := by
 have hnm : ∀ es, IsMapR w m es -> some m ≠ v.ownBlock := fun es hm e2 => by
  obtain ⟨_, ⟨hv, _⟩ | ⟨g, cap, cu, hv, _, hgg, _⟩⟩ := hown
  ·rw [hv] at e2; cases e2
  ·rw [hv] at e2
   have e2 : m = g := by simpa [Value.ownBlock] using e2
   subst e2
   unfold IsMapR at hm
   rw [hgg] at hm; cases hm
 have hnc : ∀ b o, b ≠ m -> w0.heap[b]? = some o -> (∀ vs t, o ≠ Obj.cells vs t) -> w'.heap[b]? = some o := fun b o hb ho hn => by
  have h9 := h.nc b o hb ho hn
  refine (hg.block b (Array.getElem?_eq_some_iff.1 h9).1 fun e2 => ?_).trans h9
  obtain ⟨_, ⟨hv, _⟩ | ⟨g, cap, cu, hv, _, hgg, _⟩⟩ := hown
  ·rw [hv] at e2; cases e2
  ·rw [hv] at e2
   have e2 : b = g := by simpa [Value.ownBlock] using e2
   subst e2
   rw [hgg] at h9
   exact hn _ _ (Option.some.inj h9).symm
 have hlo := World.ownsRow.lt hown
 have hlo' := World.ownsRow.lt hown'
 have hmap : ∀ X, (∀ g, X g -> g < B) -> KeptX w0 m l V X -> KeptX w' m l V (fun g => (X g \/ g ∈ O) \/ w.heap.size <= g) := fun X hX hK =>
  (h.map X hX hK).keep (fun es hm => (hg.block m hm.lt (hnm es hm)).trans hm) fun b cur hb hb2 => (hg.block b hb2.lt (fun e => hb (.inr (hO b e.symm)))).trans hb2
 have hblk : ∀ b, b < B -> b ≠ m -> w'.heap[b]? = w0.heap[b]? := fun b hb hm => (hg.block b (by omega) (fun e2 => by have := (hlo b e2.symm).1; omega)).trans (h.block b hb hm)
 rcases hp with hp | ⟨g', hp, hge⟩
 ·refine ⟨O, ⟨hg.os.trans h.os, hg.tape.trans h.tape, hg.output.trans h.output, Nat.le_trans h.size hg.size, hblk, fun g hg' => ⟨(h.low g hg').1, Nat.lt_of_lt_of_le (h.low g hg').2 hg.size⟩, fun X hX hK => (hmap X hX hK).less fun g hg' => .inl hg', hnc⟩, fun k hk => hO k (hp ▸ hk)⟩
 ·refine ⟨g' :: O, ⟨hg.os.trans h.os, hg.tape.trans h.tape, hg.output.trans h.output, Nat.le_trans h.size hg.size, hblk, fun g hg' => ?_, fun X hX hK => (hmap X hX hK).less fun g hg' => ?_, hnc⟩, fun k hk => ?_⟩
  ·rcases List.mem_cons.1 hg' with e | e
   ·subst e; exact hlo' _ hp
   ·exact ⟨(h.low g e).1, Nat.lt_of_lt_of_le (h.low g e).2 hg.size⟩
  ·rcases hg' with e | e
   ·exact .inl (.inl e)
   ·rcases List.mem_cons.1 e with e | e
    ·subst e; exact .inr hge
    ·exact .inl (.inr e)
  ·rw [hp] at hk; cases hk; simp
theorem Rk.drop (h : Rk m l V B O w0 w) : Rk m l V B [] w0 w := ⟨h.os, h.tape, h.output, h.size, h.block, (fun g hg => by cases hg), fun X hX hK => (h.map X hX hK).less fun g hg => (by rcases hg with h | h; exact .inl h; cases h), h.nc⟩
theorem Rk.kc (h : Rk m l V w.heap.size [] w w') (hm : ∃ X, KeptX w m l V X) : Kc w.heap.size w w' := by
 obtain ⟨X, es, hm, -⟩ := hm
 have hb : ∀ k, k < w.heap.size -> ∀ vs t, Blk w k vs t -> Blk w' k vs t := fun k hk vs t x => (h.block k hk (ismap_blk hm x)).trans x
 refine ⟨h.size, hb, fun p v hp hc => ?_⟩
 have hne : p.block ≠ m := fun e => by
  unfold IsMapR at hm
  unfold World.cell? at hc
  rw [e, hm] at hc
  cases hc
 rw [World.cell?_of_block (h.block p.block hp hne)]
 exact hc
end
structure Kt (B : Nat) (w w' : World) : Prop where
 bel : Below B w w'
 typ : ∀ g vs t, t ≠ 5 -> t ≠ 118 -> Blk w g vs t -> Blk w' g vs t
 map : ∀ m es, IsMapR w m es -> IsMapR w' m es
 nc : ∀ (k : Nat) (o : Obj), w.heap[k]? = some o -> (∀ vs t, o ≠ Obj.cells vs t) -> w'.heap[k]? = some o
theorem Kt.trans {B : Nat} {a b c : World} (h : Kt B a b) (k : Kt B b c) : Kt B a c := ⟨h.bel.trans k.bel, fun g vs t h1 h2 x => k.typ g vs t h1 h2 (h.typ g vs t h1 h2 x), fun m es x => k.map m es (h.map m es x), fun b o ho hn => k.nc b o (h.nc b o ho hn) hn⟩
theorem Kt.of {B : Nat} {w w' : World} (hb : Below w.heap.size w w') (hB : B <= w.heap.size) : Kt B w w' := ⟨hb.mono hB, fun g vs t _ _ h => h.later hb, fun m es h => (hb.block m h.lt).trans h, fun b o ho _ => (hb.block b (Array.getElem?_eq_some_iff.1 ho).1).trans ho⟩
theorem Kt.refl {B : Nat} {w : World} (hB : B <= w.heap.size) : Kt B w w := .of (Below.refl _ _) hB
theorem Kt.setCell {B : Nat} {w : World} {g : Nat} {vs : Array Value} {t : TypeId} (hk : Blk w g vs t) (ht : t = 5 \/ t = 118) (hB : B <= g) (j : Nat) (u : Value) : Kt B w (w.setCell ⟨g, j, none⟩ u) := by
 refine ⟨(Below.refl B w).setCell (p := ⟨g, j, none⟩) hB _, fun g2 vs2 t2 h1 h2 x => x.setCell_ne (a := ⟨g, j, none⟩) (fun e => ?_) _, fun m es hm => ?_, fun b o ho hn => (Below.heap_setCell _ _ _ _ (fun e => by have e : b = g := e; subst e; unfold Blk at hk; rw [hk] at ho; exact hn _ _ (Option.some.inj ho).symm)).trans ho⟩
 ·have e : g = g2 := e
  subst e
  unfold Blk at hk x
  rw [hk] at x
  have := Option.some.inj x
  injection this with _ h5
  rcases ht with ht | ht
  ·exact h1 (h5.symm.trans ht)
  ·exact h2 (h5.symm.trans ht)
 ·unfold IsMapR
  rw [Below.heap_setCell _ _ _ _ (fun e => ismap_blk hm hk e.symm)]
  exact hm
theorem Kt.grown {B : Nat} {w w' : World} {v : Value} {l : List Nat} (h : Own8 w B v l) (hg : w.grownBy w' v.ownBlock) (hB : B <= w.heap.size) : Kt B w w' := by
 have hk := Kp.grown h hg hB
 refine ⟨hk.bel, fun g vs t h1 _ x => hk.typ g vs t h1 x, fun m es hm => (hg.block m hm.lt (fun e2 => ?_)).trans hm, fun b o ho hn => (hg.block b (Array.getElem?_eq_some_iff.1 ho).1 fun e2 => ?_).trans ho⟩
 rotate_left
 ·obtain ⟨_, ⟨hv, _⟩ | ⟨g, cap, cu, hv, _, hgg, _⟩⟩ := h
  ·rw [hv] at e2; cases e2
  ·rw [hv] at e2
   have e2 : b = g := by simpa [Value.ownBlock] using e2
   subst e2
   rw [hgg] at ho
   exact hn _ _ (Option.some.inj ho).symm
 obtain ⟨_, ⟨hv, _⟩ | ⟨g, cap, cu, hv, _, hgg, _⟩⟩ := h
 ·rw [hv] at e2; cases e2
 ·rw [hv] at e2
  have e2 : m = g := by simpa [Value.ownBlock] using e2
  subst e2
  unfold IsMapR at hm
  rw [hgg] at hm; cases hm
theorem Rk.kt {m : Nat} {l : List Nd} {V : Wd} {B : Nat} {O : List Nat} {w0 w w' : World} (h : Rk m l V B O w0 w) (k : Kt B w w') : Rk m l V B O w0 w' :=
 ⟨k.bel.os.trans h.os, k.bel.tape.trans h.tape, k.bel.output.trans h.output, Nat.le_trans h.size k.bel.size, fun b hb hm => (k.bel.block b hb).trans (h.block b hb hm), fun g hg => ⟨(h.low g hg).1, Nat.lt_of_lt_of_le (h.low g hg).2 k.bel.size⟩,
  fun X hX hK => ((h.map X hX hK).keep (fun es x => k.map m es x) fun b cur _ x => k.typ b cur _ (by decide) (by decide) x).less fun g hg => .inl hg, fun b o hb ho hn => k.nc b o (h.nc b o hb ho hn) hn⟩
structure TyS (B tb first : Nat) (v : Value) (S : List UInt8) (w : World) : Prop where
 blk : Blk w tb #[.int .i64 (first : Int), v] 118
 low : B <= tb
 own : Own8 w B v (nats S)
theorem TyS.later {B tb first : Nat} {v : Value} {S : List UInt8} {w w' : World} (h : TyS B tb first v S w) (hb : Below w.heap.size w w') : TyS B tb first v S w' := ⟨h.blk.later hb, h.low, h.own.later hb⟩
theorem TyS.kc {B tb first : Nat} {v : Value} {S : List UInt8} {w w' : World} (h : TyS B tb first v S w) (k : Kc w.heap.size w w') : TyS B tb first v S w' := ⟨k.block _ h.blk.lt _ _ h.blk, h.low, k.owns h.own⟩
structure AzR (H : Nat) (L : Wd) (w w' : World) : Prop where
 out : H <= w.heap.size -> (Kt H w w' /\ (∀ u U, U <+: L -> Own8 w H u (nats U) -> Own8 w' H u (nats U)) /\ ∀ g vs, Blk w g vs 118 -> Blk w' g vs 118)
theorem AzR.of {H : Nat} {L : Wd} (w w' : World) (hb : Below w.heap.size w w') : AzR H L w w' := ⟨fun h => ⟨.of hb h, fun u U _ k => k.later hb, fun g vs k => k.later hb⟩⟩
theorem wp_append_az {w : World} {o : Oper} {a : Act} {K : Act -> World -> Prop} {Q : Exit -> Act -> World -> Prop} (s x : Operand)
 (ho : o.op = .call { callee := .builtin .append, args := #[s, x], argTypes := #[25, 3] })
 (H : Nat) (v : Value) (W : Wd) (hs : a.eval s = v) (hown : Own8 w H v (nats W)) (k : Nat) (hx : a.eval x = .int .i64 (k : Int)) (h0 : 0 < k) (hk : k <= 1000) (hlen : W.length + k <= 1073741824) (hH : H <= w.heap.size)
 (h : ∀ v' w', Own8 w' H v' (nats (W ++ List.replicate k 0)) -> AzR H (W ++ List.replicate k 0) w w' -> K (a.put o.dst v') w') : o.wp Try.prog a w K Q := by
 obtain ⟨v', w', hr, h2, h3, h4⟩ := run_append_zeros w H v W hown k h0 hk hlen hH o.type
 unfold Oper.wp execOp
 simp only [ho, resolve, invoke, builtin, Sem.run_bind, Sem.run_pure, Result.andThen_ok, List.map_toArray, List.map_cons, List.map_nil, hs, hx, hr]
 exact h v' w' h2 ⟨fun _ => ⟨.grown hown h3 hH, h4, fun g vs k => (Kp.grown hown h3 hH).typ g vs _ (by decide) k⟩⟩
theorem own_setB {w : World} {base size n : Nat} {e : TypeId} {v : Value} {xs : List Value} (h : w.ownsRow base e size v n xs) {a : Addr} (ha : ∀ k, v.ownBlock = some k -> k ≠ a.block) (u : Value) : (w.setCell a u).ownsRow base e size v n xs := by
 obtain ⟨h0, h1 | ⟨g, cap, cur, hv, hb, hg, hr⟩⟩ := h
 ·exact ⟨h0, .inl h1⟩
 ·have hne : g ≠ a.block := ha g (by rw [hv]; rfl)
  exact ⟨h0, .inr ⟨g, cap, cur, hv, hb, by rw [Below.heap_setCell _ _ _ _ hne]; exact hg, hr⟩⟩
structure AdS (B tb first : Nat) (v : Value) (S : List UInt8) (w0 : World) (w : World) : Prop where
 lo : B <= w.heap.size
 kt : Kt B w0 w
 ty : TyS B tb first v S w
theorem AdS.grow {B tb first : Nat} {v : Value} {S L : List UInt8} {w0 w w' : World} (hL : S <+: L) (h : AdS B tb first v S w0 w) (hr : AzR B L w w') : AdS B tb first v S w0 w' := by
 obtain ⟨k1, k2, k3⟩ := hr.out h.lo
 exact ⟨Nat.le_trans h.lo k1.bel.size, h.kt.trans k1, ⟨k3 _ _ h.ty.blk, h.ty.low, k2 _ _ hL h.ty.own⟩⟩
theorem AdS.later {B tb first : Nat} {v : Value} {S : List UInt8} {w0 w w' : World} (h : AdS B tb first v S w0 w) (hb : Below w.heap.size w w') : AdS B tb first v S w0 w' := ⟨Nat.le_trans h.lo hb.size, h.kt.trans (.of hb h.lo), h.ty.later hb⟩
def AzV (H : Nat) (L : Wd) (v : Value) (w : World) : Prop := H <= w.heap.size /\ Own8 w H v (nats L)
theorem AzV.grow (H : Nat) (L : Wd) : ∀ v w w', AzV H L v w -> AzR H L w w' -> AzV H L v w' := fun v w w' h hr => by
 obtain ⟨k1, k2, _⟩ := hr.out h.1
 exact ⟨Nat.le_trans h.1 k1.bel.size, k2 _ _ (List.prefix_refl L) h.2⟩
def AddP (B tb first : Nat) (S : List UInt8) (w0 : World) (e : Ending) (w : World) : Prop := ∃ v, e = .returned (.tuple #[]) /\ TyS B tb first v S w /\ Kt B w0 w
theorem cadd_any (B tb first a x : Nat) (S : List UInt8) (v : Value) (w : World) (hT : TyS B tb first v S w) (hB : B <= w.heap.size) (ha : first <= a) (ha2 : a < first + 1000) (hf : first <= 1000000) (hx : x <= 1000) (hl : S.length <= 1000000) :
 Calls Try.prog 87 #[.pointer (some ⟨tb, 0, none⟩), .int .i64 (a : Int), .int .i64 (x : Int)] w (AddP B tb first (if x = 0 then S else tyAdd first S a x) w) := by
 by_cases hx0 : x = 0
 ·subst hx0
  rw [if_pos rfl]
  have HP : Hid (AddP B tb first S w (.returned (.tuple #[])) w) := ⟨v, rfl, hT, .refl hB⟩
  have hz : (((0 : Nat) : Int) == 0) = true := rfl
  clear hT
  go_enter Try.func87, Try.ntmps87
  go_wp2
  (refine bodyPost_ret (results_none rfl _ _ _) rfl ?_)
  exact HP.out
 ·rw [if_neg hx0]
  have hz : ((x : Int) == 0) = false := by rw [beq_eq_false_iff_ne]; omega
  obtain ⟨k, hk⟩ : ∃ k : Nat, a - first = k := ⟨_, rfl⟩
  have hkz : (a : Int) - (first : Int) = (k : Int) := by omega
  have hk1 : k < 1000 := by omega
  have HS0 : Hid (AdS B tb first v S w w) := ⟨hB, .refl hB, hT⟩
  have HK0 := Lib.hid hk
  obtain ⟨y, hy⟩ : ∃ y, tyF first S a = y := ⟨_, rfl⟩
  have hy2 : y <= 255 := by
   rw [<- hy]; unfold tyF; split
   ·have := (S.getD (a - first) 0).toNat_lt; omega
   ·omega
  have HE : Hid (tyAdd first S a x = (S ++ List.replicate (k + 1 - S.length) 0).set k (UInt8.ofNat (min 2 (y + x)))) := by unfold Hid tyAdd; rw [hk, hy]
  have HYY : Hid ((S.getD k 0).toNat = y) := by unfold Hid; rw [<- hy, <- hk]; unfold tyF; rw [if_pos ha]
  have hfz2 : (first : Int) <= (a : Int) := by omega
  clear hT hx0 hk hy
  have c0 := HS0.out.ty.blk.cell 0
  have c1 := HS0.out.ty.blk.cell 1
  simp at c0 c1
  obtain ⟨A7, c7, hv7, hr7⟩ : ∃ A c, v = .slice A S.length c /\ S.length <= c := by
   obtain ⟨_, ⟨hv, hn⟩ | ⟨g, cap, cu, hv, _, hgg, hc, _⟩⟩ := HS0.out.ty.own
   ·rw [nats_length] at hn; exact ⟨none, 0, by rw [hv, hn], by omega⟩
   ·rw [nats_length] at hv hc; exact ⟨_, cap, hv, hc⟩
  by_cases hlt : k < S.length
  ·have hge : ¬ (k : Int) >= (S.length : Int) := by omega
   have HKL0 := Lib.hid hlt
   have HEND : Hid (tyAdd first S a x = S.set k (UInt8.ofNat (min 2 (y + x)))) := by unfold Hid; rw [HE.out, show k + 1 - S.length = 0 by omega]; simp
   have HY := HYY
   have HS3 := HS0
   subst hv7
   clear hlt HE HYY hr7
   go_enter Try.func87, Try.ntmps87
   have HK : Hid (k < S.length) := HKL0.out
   obtain ⟨g, cap0, cur, hvv, hbg, hblk, hcl, hcm, -, -⟩ := own8_blk HS3.out.ty.own (fun e => by have := HK.out; rw [e] at this; exact absurd this (Nat.not_lt_zero _))
   obtain ⟨rfl, -, rfl⟩ := Value.slice.inj hvv
   have HT : Hid (∀ w', AdS B tb first (.slice (some ⟨g, 0, none⟩) S.length c7) S w w' -> w'.cell? ⟨tb, 0, none⟩ = some (.int .i64 (first : Int)) /\ w'.cell? ⟨tb, 1, none⟩ = some (.slice (some ⟨g, 0, none⟩) S.length c7) /\ w'.cell? ⟨g, k, none⟩ = some (.int .u8 ((y : Nat) : Int))) := fun w' h => by
    have c0 := h.ty.blk.cell 0
    have c1 := h.ty.blk.cell 1
    simp at c0 c1
    have c2 := (own8_set h.ty.own k HK.out 0).2.2.1
    rw [HY.out] at c2
    exact ⟨c0, c1, c2⟩
   have hkl : (k : Int) < (S.length : Int) := by have := HK.out; omega
   have HM := Lib.hid (fun w' => cmost_any (y + x) (by omega) w')
   have HSET : Hid (∀ w', AdS B tb first (.slice (some ⟨g, 0, none⟩) S.length c7) S w w' -> AddP B tb first (S.set k (UInt8.ofNat (min 2 (y + x)))) w (.returned (.tuple #[])) (w'.setCell ⟨g, k, none⟩ (.int .u8 ((min 2 (y + x) : Nat) : Int))) /\ w'.frozen? ⟨g, k, none⟩ = false /\ w'.cell? ⟨g, k, none⟩ = some (.int .u8 ((y : Nat) : Int))) := fun w' h => by
    obtain ⟨s1, s2, s3, s4⟩ := own8_set h.ty.own k HK.out (UInt8.ofNat (min 2 (y + x)))
    have e : (UInt8.ofNat (min 2 (y + x))).toNat = min 2 (y + x) := by rw [UInt8.toNat_ofNat']; omega
    rw [e] at s1 s2
    have hbk := s2 h.lo
    obtain ⟨g2, cap2, cur2, hv2, hb2, hk2, -⟩ := own8_blk h.ty.own (fun e => by have := HK.out; rw [e] at this; exact absurd this (Nat.not_lt_zero _))
    simp only [Value.slice.injEq, Option.some.injEq, Addr.mk.injEq, and_true, true_and] at hv2
    obtain ⟨rfl, rfl⟩ := hv2
    have hl : (S.set k (UInt8.ofNat (min 2 (y + x)))).length = S.length := List.length_set
    refine ⟨⟨_, rfl, ⟨hbk.typ _ _ _ (by decide) h.ty.blk, h.ty.low, s1⟩, h.kt.trans (.setCell hk2 (.inl rfl) hb2 _ _)⟩, s4, by rw [s3, HY.out]⟩
   have hsum : ((y + x : Nat) : Int) = (y : Int) + (x : Int) := by omega
   generalize hmn : min 2 (y + x) = mn at *
   have hmn2 : mn <= 2 := by omega
   have hmw : (mn : Int) % 256 = (mn : Int) := by omega
   rw [hsum] at HM
   clear hsum hmn hblk hcl hcm hbg
   go_upto_region 4 with (fail)
   refine wp_region_stable_last (S := (AdS B tb first (.slice (some ⟨g, 0, none⟩) S.length c7) S w)) (hSt := fun _ _ h hb => h.later hb) (plan := [[(0, none)], [(38, some 0)], [(39, some 1)], [(40, some 2)], [(1, none)], [(0, none)], [(43, some 5)], [(44, some 6)], [(45, some 7)], [(42, some 4), (46, some 8)], [(0, none)], [(48, some 10)], [(49, some 11)], [(50, some 12)], [(1, none)], [(0, none)], [(53, some 15)], [(54, some 16)], [(55, some 17)], [(52, some 14), (56, some 18)], [(51, some 13), (57, some 19)], [(58, some 20)], [(59, some 21)], [(2, none)], [(60, some 22), (61, some 23)], [(62, some 24)], [(63, some 25)], [(41, some 3), (47, some 9)]]) rfl (by kernel_rfl) (by kernel_rfl) (by kernel_rfl) (by kernel_rfl) ?hS ?_
   rotate_left
   simp only [List.dropLast]
   iterate 28 first
    | (refine chain_skip (by rfl) (by rfl) ?_)
    | (apply chain_want (by rfl)
       ·intro act wx hS hr
        simp at hr
        obtain ⟨c0, c1, c2⟩ := HT.out _ hS
        go_simp
        (try go_ints)
        first
         | ((with_reducible refine (HM.out _).mono ?_); rintro e w5 ⟨rfl, rfl⟩; exact Done.same)
         | exact Done.same
      )
   show ∀ w', _ -> _
   intro wz hz
   simp [Act.put]
   case hS => exact HS3.out
   obtain ⟨hset, hfz, hcz⟩ := HSET.out _ hz
   have HSE := Lib.hid hset
   clear hset hz HSET HT HM HS3
   go_wp2
   go_end0
   rw [HEND.out]
   exact HSE.out
  ·have hge : (k : Int) >= (S.length : Int) := by omega
   obtain ⟨q, hq⟩ : ∃ q : Nat, k + 1 - S.length = q := ⟨_, rfl⟩
   have hqz : (k : Int) + 1 - (S.length : Int) = (q : Int) := by omega
   have hq0 : 0 < q := by omega
   have hq1 : q <= 1000 := by omega
   have HKL0 : Hid (k < (S ++ List.replicate q (0 : UInt8)).length) := by unfold Hid; rw [List.length_append, List.length_replicate]; omega
   rw [hq] at HE
   have HY : Hid (((S ++ List.replicate q (0 : UInt8)).getD k 0).toNat = y) := by unfold Hid; rw [getD_zeros]; exact HYY.out
   have HPF : Hid (S <+: S ++ List.replicate q 0) := List.prefix_append _ _
   have HLL : Hid ((S ++ List.replicate q (0 : UInt8)).length <= 1002000) := by unfold Hid; rw [List.length_append, List.length_replicate]; omega
   subst hv7
   clear hlt HYY hr7 hq
   have hR : ∀ w w', Below w.heap.size w w' -> AzR B (S ++ List.replicate q 0) w w' := fun w w' => AzR.of w w'
   have HR := Lib.hid hR
   clear hR
   go_enter Try.func87, Try.ntmps87
   go_upto_region 3 with (fail)
   clear c0 c1
   refine G.wp_region_stable_last (R := (AzR B (S ++ List.replicate q 0))) HR.out (S := (AdS B tb first (.slice A7 S.length c7) S w)) (hSt := fun _ _ h hr => h.grow HPF.out hr) (plan := [[(0, none)], [(0, none)], [(23, some 1)], [(24, some 2)], [(25, some 3)], [(6, none)], [(27, some 5)], [(0, none)], [(29, some 7)], [(30, some 8)], [(31, some 9)], [(32, some 10)], [(28, some 6), (33, some 11)], [(26, some 4), (34, some 12)], [(22, some 0)], [(36, some 14)]]) rfl (by kernel_rfl) (by kernel_rfl) (by kernel_rfl) (by kernel_rfl) ?hS ?_
   rotate_left
   simp only [List.dropLast]
   iterate 13 first
    | (refine G.chain_skip (by rfl) (by rfl) ?_)
    | (apply G.chain_want (by rfl)
       ·intro act wx hS hr
        simp at hr
        have c1 := hS.ty.blk.cell 1
        simp at c1
        go_simp
        (try go_ints)
        first
         | exact G.Done.same HR.out
      )
   (refine G.chain_rel (AzV B (S ++ List.replicate q 0)) (AzV.grow B (S ++ List.replicate q 0)) (by rfl) ?_ ?_
    ·intro act wx hS hr
     simp at hr
     have c1 := hS.ty.blk.cell 1
     simp at c1
     obtain ⟨hr2, hr3⟩ := hr
     refine wp_append_az (.tmp 26) (.tmp 34) rfl B (.slice A7 S.length c7) S (by simp [Act.eval, hr2]) hS.ty.own q (by simp [Act.eval, hr3]) hq0 hq1 (by omega) hS.lo ?_
     intro v' w' q1 q2
     exact G.Done.rel q2 ⟨Nat.le_trans hS.lo (q2.out hS.lo).1.bel.size, q1⟩
     all_goals go_simp
   )
   iterate 2 first
    | (refine G.chain_skip (by rfl) (by rfl) ?_)
    | (apply G.chain_want (by rfl)
       ·intro act wx hS hr
        simp at hr
        have c1 := hS.ty.blk.cell 1
        simp at c1
        go_simp
        (try go_ints)
        first
         | exact G.Done.same HR.out
      )
   show ∀ w', _ -> _
   intro wz hz
   simp [Act.put]
   case hS => exact HS0.out
   intro v6 hv6
   have hv8 : Own8 wz B v6 (nats (S ++ List.replicate q 0)) := hv6.2
   obtain ⟨A6, c6, hv6e⟩ : ∃ A c, v6 = .slice A (S ++ List.replicate q (0 : UInt8)).length c := by
    obtain ⟨_, ⟨hv, hn⟩ | ⟨g, cap, cu, hv, _, hgg, hc, _⟩⟩ := hv8
    ·rw [nats_length] at hn; exact ⟨none, 0, by rw [hv, hn]⟩
    ·rw [nats_length] at hv; exact ⟨_, cap, hv⟩
   have c1 := hz.ty.blk.cell 1
   have f1 := hz.ty.blk.frozen 1
   simp at c1
   have HS3 : Hid (AdS B tb first v6 (S ++ List.replicate q 0) w (wz.setCell ⟨tb, 1, none⟩ v6)) := by
    have hb := hz.ty.blk.setCell 1 v6
    refine ⟨by simp [World.setCell]; exact hz.lo, hz.kt.trans (.setCell hz.ty.blk (.inr rfl) hz.ty.low _ _), ⟨by simpa using hb, hz.ty.low, own_setB hv8 (own_typedU hv8 hz.ty.blk (by decide)) _⟩⟩
   subst hv6e
   clear hz hv6 hv8 HS0 HR HPF
   have HEND := HE
   generalize hSS : S ++ List.replicate q (0 : UInt8) = SS at *
   clear hSS HE
   go_wp2_with fail
   clear c1 f1
   generalize wz.setCell ⟨tb, 1, none⟩ (.slice A6 SS.length c6) = w3 at *
   have c0 := HS3.out.ty.blk.cell 0
   have c1 := HS3.out.ty.blk.cell 1
   simp at c0 c1
   have HK : Hid (k < SS.length) := HKL0.out
   obtain ⟨g, cap0, cur, hvv, hbg, hblk, hcl, hcm, -, -⟩ := own8_blk HS3.out.ty.own (fun e => by have := HK.out; rw [e] at this; exact absurd this (Nat.not_lt_zero _))
   obtain ⟨rfl, -, rfl⟩ := Value.slice.inj hvv
   have HT : Hid (∀ w', AdS B tb first (.slice (some ⟨g, 0, none⟩) SS.length c6) SS w w' -> w'.cell? ⟨tb, 0, none⟩ = some (.int .i64 (first : Int)) /\ w'.cell? ⟨tb, 1, none⟩ = some (.slice (some ⟨g, 0, none⟩) SS.length c6) /\ w'.cell? ⟨g, k, none⟩ = some (.int .u8 ((y : Nat) : Int))) := fun w' h => by
    have c0 := h.ty.blk.cell 0
    have c1 := h.ty.blk.cell 1
    simp at c0 c1
    have c2 := (own8_set h.ty.own k HK.out 0).2.2.1
    rw [HY.out] at c2
    exact ⟨c0, c1, c2⟩
   have hkl : (k : Int) < (SS.length : Int) := by have := HK.out; omega
   have HM := Lib.hid (fun w' => cmost_any (y + x) (by omega) w')
   have HSET : Hid (∀ w', AdS B tb first (.slice (some ⟨g, 0, none⟩) SS.length c6) SS w w' -> AddP B tb first (SS.set k (UInt8.ofNat (min 2 (y + x)))) w (.returned (.tuple #[])) (w'.setCell ⟨g, k, none⟩ (.int .u8 ((min 2 (y + x) : Nat) : Int))) /\ w'.frozen? ⟨g, k, none⟩ = false /\ w'.cell? ⟨g, k, none⟩ = some (.int .u8 ((y : Nat) : Int))) := fun w' h => by
    obtain ⟨s1, s2, s3, s4⟩ := own8_set h.ty.own k HK.out (UInt8.ofNat (min 2 (y + x)))
    have e : (UInt8.ofNat (min 2 (y + x))).toNat = min 2 (y + x) := by rw [UInt8.toNat_ofNat']; omega
    rw [e] at s1 s2
    have hbk := s2 h.lo
    obtain ⟨g2, cap2, cur2, hv2, hb2, hk2, -⟩ := own8_blk h.ty.own (fun e => by have := HK.out; rw [e] at this; exact absurd this (Nat.not_lt_zero _))
    simp only [Value.slice.injEq, Option.some.injEq, Addr.mk.injEq, and_true, true_and] at hv2
    obtain ⟨rfl, rfl⟩ := hv2
    have hl : (SS.set k (UInt8.ofNat (min 2 (y + x)))).length = SS.length := List.length_set
    refine ⟨⟨_, rfl, ⟨hbk.typ _ _ _ (by decide) h.ty.blk, h.ty.low, s1⟩, h.kt.trans (.setCell hk2 (.inl rfl) hb2 _ _)⟩, s4, by rw [s3, HY.out]⟩
   have hsum : ((y + x : Nat) : Int) = (y : Int) + (x : Int) := by omega
   generalize hmn : min 2 (y + x) = mn at *
   have hmn2 : mn <= 2 := by omega
   have hmw : (mn : Int) % 256 = (mn : Int) := by omega
   rw [hsum] at HM
   clear hsum hmn hblk hcl hcm hbg
   go_upto_region 4 with (fail)
   refine wp_region_stable_last (S := (AdS B tb first (.slice (some ⟨g, 0, none⟩) SS.length c6) SS w)) (hSt := fun _ _ h hb => h.later hb) (plan := [[(0, none)], [(38, some 0)], [(39, some 1)], [(40, some 2)], [(1, none)], [(0, none)], [(43, some 5)], [(44, some 6)], [(45, some 7)], [(42, some 4), (46, some 8)], [(0, none)], [(48, some 10)], [(49, some 11)], [(50, some 12)], [(1, none)], [(0, none)], [(53, some 15)], [(54, some 16)], [(55, some 17)], [(52, some 14), (56, some 18)], [(51, some 13), (57, some 19)], [(58, some 20)], [(59, some 21)], [(2, none)], [(60, some 22), (61, some 23)], [(62, some 24)], [(63, some 25)], [(41, some 3), (47, some 9)]]) rfl (by kernel_rfl) (by kernel_rfl) (by kernel_rfl) (by kernel_rfl) ?hS ?_
   rotate_left
   simp only [List.dropLast]
   iterate 28 first
    | (refine chain_skip (by rfl) (by rfl) ?_)
    | (apply chain_want (by rfl)
       ·intro act wx hS hr
        simp at hr
        obtain ⟨c0, c1, c2⟩ := HT.out _ hS
        go_simp
        (try go_ints)
        first
         | ((with_reducible refine (HM.out _).mono ?_); rintro e w5 ⟨rfl, rfl⟩; exact Done.same)
         | exact Done.same
      )
   show ∀ w', _ -> _
   intro wz hz
   simp [Act.put]
   case hS => exact HS3.out
   obtain ⟨hset, hfz, hcz⟩ := HSET.out _ hz
   have HSE := Lib.hid hset
   clear hset hz HSET HT HM HS3
   go_wp2
   go_end0
   rw [HEND.out]
   exact HSE.out
end Go.Proofs.Ytpbbokdmoaadfaa
