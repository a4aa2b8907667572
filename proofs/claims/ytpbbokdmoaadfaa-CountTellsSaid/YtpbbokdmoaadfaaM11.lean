/- Words, opened as arguments: for seats of plain rows. -/
import Derived.Test.YtpbbokdmoaadfaaM08
import Derived.Test.YtpbbokdmoaadfaaM10
import Derived.Test.YtpbbokdmoaadfaaM05
import Derived.Below
namespace Go.Proofs.Ytpbbokdmoaadfaa
open Go Go.RowKit Go.ChangeShapes Go.WideShapes Go.ChangeAt Go.Joins
set_option maxRecDepth 100000
set_option linter.unusedVariables false
set_option linter.unusedSimpArgs false
theorem wd_byte {a : Int} (h : (Lit.int .u8 a).wf = true) : ∃ n : Nat, a = n /\ n < 256 := by
  have : 0 <= a /\ a <= 255 := by simpa [Lit.wf, IntKind.min, IntKind.max, IntKind.signed, IntKind.bits] using h
  exact ⟨a.toNat, by omega, by omega⟩
def WdA (w : World) (A : Option Addr) (C : Nat) (W : List UInt8) : Prop := W.length <= C /\ (W.length <= 1073741824 -> IsW W (.slice A W.length C) w)
section
variable {H : Type} {enc : TypeId × Value -> H} {W : World} {base : Nat} {v : Value} {d : DataW H} {p : List MemPlace}
theorem open_wd (hv : Value.okWide Try.prog W .any base 25 v) (h : DataW.Trod enc Try.prog W 0 (fun _ => true) true 25 v d p) :
    ∃ (l : List UInt8) (A : Option Addr) (C : Nat), v = .slice A l.length C /\ WdA W A C l /\ l.length <= 9223372036854775807 := by
  have hv0 := hv
  obtain ⟨a0, len, cap, rfl⟩ := okWide_slice Try.underlying25 hv
  obtain ⟨fuel, hf⟩ := h
  rcases open_ints Try.underlying25 Try.underlying5 (by kernel_rfl) hf with ⟨hcs, _⟩ | ⟨x, l, c, zs, hcs, _, hl, hm, hz, _, hcell, hwz⟩
  · simp [Value.cells] at hcs
    obtain ⟨rfl, rfl, rfl⟩ := hcs
    exact ⟨[], none, 0, rfl, ⟨Nat.le_refl _, fun _ => .inl ⟨rfl, rfl⟩⟩, by simp⟩
  · simp [Value.cells] at hcs
    obtain ⟨rfl, rfl, rfl⟩ := hcs
    have hz' : zs.length = cap := by simpa using hz
    unfold maxLen at hm
    have hm2 : zs.length <= 9223372036854775807 := by omega
    obtain ⟨b, off, spot⟩ := x
    have hh : spot = none /\ b < W.heap.size := by
      simp only [Value.okWide, Try.underlying25, Cell.okWide, Cell.ok, World.has] at hv0
      obtain ⟨-, -, -, h2, row, cells, h3, -⟩ := hv0
      refine ⟨h2, ?_⟩
      apply Classical.byContradiction
      intro hlt
      have : W.heap[b]? = none := Array.getElem?_eq_none (by omega)
      simp [World.shape?, this] at h3
    obtain ⟨rfl, hblt⟩ := hh
    have hlen : ((zs.take len).map fun z => UInt8.ofNat z.toNat).length = len := by simp; omega
    refine ⟨(zs.take len).map fun z => UInt8.ofNat z.toNat, some ⟨b, off, none⟩, cap, by rw [hlen], ⟨by rw [hlen]; exact hl, fun hs => .inr ⟨b, off, cap, rfl, by rw [hlen]; exact hl, hs, hblt, fun i hi => ?_⟩⟩, by rw [hlen]; omega⟩
    rw [hlen] at hi
    have hc := hcell i (by omega)
    have h1 : i < zs.length := by omega
    have hz1 : zs.getD i 0 ∈ zs := by rw [List.getD_eq_getElem?_getD, List.getElem?_eq_getElem h1]; exact List.getElem_mem _
    obtain ⟨n, hn1, hn2⟩ := wd_byte (hwz _ hz1)
    have ha : (⟨b, off, none⟩ : Addr).add i = ⟨b, off + i, none⟩ := by
      cases i with
      | zero => simp [Addr.add]
      | succ i => simp [Addr.add]
    rw [ha] at hc
    rw [hc]
    have hg : ((zs.take len).map fun z => UInt8.ofNat z.toNat).getD i 0 = UInt8.ofNat n := by
      rw [List.getD_eq_getElem?_getD, List.getElem?_map, List.getElem?_take, if_pos hi]
      rw [List.getD_eq_getElem?_getD] at hn1
      rw [List.getElem?_eq_getElem h1] at hn1 ⊢
      simp at hn1 ⊢
      rw [hn1]; rfl
    rw [hg, hn1]
    have : (UInt8.ofNat n).toNat = n := by simp; omega
    rw [this]
end
end Go.Proofs.Ytpbbokdmoaadfaa
namespace Go.Proofs.Ytpbbokdmoaadfaa
open Go
set_option linter.unusedVariables false
set_option linter.unusedSimpArgs false
def plF : Nat -> (Nat -> Nat) -> List (Nat × Nat)
  | 0, _ => []
  | n + 1, F => plF n F ++ if F n = 0 then [] else [(n, F n)]
theorem plF_succ {n : Nat} {F : Nat -> Nat} : plF (n + 1) F = plF n F ++ if F n = 0 then [] else [(n, F n)] := rfl
theorem plF_congr {F G : Nat -> Nat} : ∀ {n : Nat}, (∀ b, b < n -> F b = G b) -> plF n F = plF n G
  | 0, _ => rfl
  | n + 1, h => by rw [plF_succ, plF_succ, plF_congr fun b hb => h b (by omega), h n (by omega)]
theorem mem_plF {F : Nat -> Nat} {p : Nat × Nat} : ∀ {n : Nat}, p ∈ plF n F ↔ p.1 < n /\ F p.1 = p.2 /\ p.2 ≠ 0
  | 0 => by simp [plF]
  | n + 1 => by
    rw [plF_succ, List.mem_append, mem_plF]
    constructor
    · rintro (h | h)
      · exact ⟨by omega, h.2⟩
      · split at h
        · cases h
        · obtain rfl := List.mem_singleton.1 h
          rename_i h0
          exact ⟨by simp, rfl, h0⟩
    · rintro ⟨h1, h2, h3⟩
      by_cases e : p.1 = n
      · right
        rw [<- e, if_neg (by omega), List.mem_singleton, h2]
      · exact .inl ⟨by omega, h2, h3⟩
theorem plF_fst {F : Nat -> Nat} {n : Nat} {p : Nat × Nat} (h : p ∈ plF n F) : p = (p.1, F p.1) := by
  have := (mem_plF.1 h).2.1
  rw [this]
theorem plF_length {F : Nat -> Nat} : ∀ {n : Nat}, (plF n F).length <= n
  | 0 => Nat.le_refl _
  | n + 1 => by
    have := plF_length (F := F) (n := n)
    rw [plF_succ, List.length_append]; split <;> simp <;> omega
theorem plF_rise {F : Nat -> Nat} : ∀ {n : Nat}, (plF n F).Pairwise fun p q => p.1 < q.1
  | 0 => List.Pairwise.nil
  | n + 1 => by
    rw [plF_succ, List.pairwise_append]
    refine ⟨plF_rise, by split <;> simp, fun p hp q hq => ?_⟩
    split at hq
    · cases hq
    · obtain rfl := List.mem_singleton.1 hq
      exact (mem_plF.1 hp).1
theorem rise_eq {L M : List (Nat × Nat)} (hL : L.Pairwise fun p q => p.1 < q.1) (hM : M.Pairwise fun p q => p.1 < q.1) (h : ∀ p, p ∈ L ↔ p ∈ M) : L = M := by
  induction L generalizing M with
  | nil =>
    cases M with
    | nil => rfl
    | cons q M => exact absurd ((h q).2 (by simp)) (by simp)
  | cons p L ih =>
    cases M with
    | nil => exact absurd ((h p).1 (by simp)) (by simp)
    | cons q M =>
      have hp := List.pairwise_cons.1 hL
      have hq := List.pairwise_cons.1 hM
      have e : p = q := by
        rcases List.mem_cons.1 ((h p).1 (by simp)) with e | e
        · exact e
        · rcases List.mem_cons.1 ((h q).2 (by simp)) with e' | e'
          · exact e'.symm
          · have := hq.1 p e; have := hp.1 q e'; omega
      subst e
      congr 1
      refine ih hp.2 hq.2 fun x => ?_
      constructor
      · intro hx
        rcases List.mem_cons.1 ((h x).1 (List.mem_cons_of_mem _ hx)) with e | e
        · subst e; exact absurd (hp.1 _ hx) (by omega)
        · exact e
      · intro hx
        rcases List.mem_cons.1 ((h x).2 (List.mem_cons_of_mem _ hx)) with e | e
        · subst e; exact absurd (hq.1 _ hx) (by omega)
        · exact e
theorem plF_of {F : Nat -> Nat} {n : Nat} {L : List (Nat × Nat)} (hL : L.Pairwise fun p q => p.1 < q.1) (h : ∀ p, p ∈ L ↔ p.1 < n /\ F p.1 = p.2 /\ p.2 ≠ 0) : L = plF n F :=
  rise_eq hL plF_rise fun p => by rw [h, mem_plF]
theorem plF_up {F : Nat -> Nat} {n : Nat} : ∀ {k : Nat}, (∀ b, n <= b -> b < n + k -> F b = 0) -> plF (n + k) F = plF n F
  | 0, _ => rfl
  | k + 1, h => by
    rw [<- Nat.add_assoc, plF_succ, plF_up fun b h1 h2 => h b h1 (by omega), if_pos (h _ (by omega) (by omega)), List.append_nil]
theorem plF_nil {F : Nat -> Nat} {n : Nat} (h : ∀ b, b < n -> F b = 0) : plF n F = [] := by
  have := plF_up (F := F) (n := 0) (k := n) (fun b _ hb => h b (by omega))
  rwa [Nat.zero_add] at this
theorem plF_eq {F : Nat -> Nat} {n m : Nat} (h : ∀ b, n <= b \/ m <= b -> b < n \/ b < m -> F b = 0) : plF n F = plF m F := by
  rcases Nat.le_total n m with hnm | hnm
  · obtain ⟨k, rfl⟩ := Nat.le.dest hnm
    exact (plF_up fun b h1 h2 => h b (.inl h1) (.inr h2)).symm
  · obtain ⟨k, rfl⟩ := Nat.le.dest hnm
    exact plF_up fun b h1 h2 => h b (.inr h1) (.inl h2)
theorem plF_one {n a v : Nat} (ha : a < n) (hv : v ≠ 0) : plF n (fun b => if b = a then v else 0) = [(a, v)] := by
  symm
  refine plF_of (List.pairwise_singleton _ _) fun p => ?_
  rw [List.mem_singleton]
  constructor
  · rintro rfl; exact ⟨ha, by simp, hv⟩
  · rintro ⟨h1, h2, h3⟩
    by_cases e : p.1 = a
    · rw [if_pos e] at h2; rw [<- e, h2]
    · rw [if_neg e] at h2; omega
theorem plF_empty {F : Nat -> Nat} {n : Nat} (h : plF n F = []) : ∀ b, b < n -> F b = 0 := fun b hb => by
  rcases Nat.eq_zero_or_pos (F b) with h0 | h0
  · exact h0
  · have : (b, F b) ∈ plF n F := mem_plF.2 ⟨hb, rfl, by show F b ≠ 0; omega⟩
    rw [h] at this; cases this
def sumAt : List (Nat × Nat) -> Nat -> Nat
  | [], _ => 0
  | p :: L, b => (if p.1 = b then p.2 else 0) + sumAt L b
theorem sumAt_append {b : Nat} : ∀ {L M : List (Nat × Nat)}, sumAt (L ++ M) b = sumAt L b + sumAt M b
  | [], M => by rw [List.nil_append]; show _ = 0 + _; omega
  | p :: L, M => by rw [List.cons_append]; show _ + sumAt (L ++ M) b = _ + sumAt L b + _; rw [sumAt_append]; omega
theorem sumAt_out {b : Nat} : ∀ {L : List (Nat × Nat)}, (∀ p ∈ L, p.1 ≠ b) -> sumAt L b = 0
  | [], _ => rfl
  | p :: L, h => by unfold sumAt; rw [if_neg (h p (by simp)), sumAt_out fun q hq => h q (List.mem_cons_of_mem _ hq)]
theorem sumAt_plF {F : Nat -> Nat} {b : Nat} : ∀ {n : Nat}, sumAt (plF n F) b = if b < n then F b else 0
  | 0 => by simp [plF, sumAt]
  | n + 1 => by
    rw [plF_succ, sumAt_append, sumAt_plF]
    by_cases e : b = n
    · subst e
      rw [if_neg (by omega), if_pos (show b < b + 1 by omega)]
      by_cases h0 : F b = 0
      · rw [if_pos h0, h0]; rfl
      · rw [if_neg h0]; simp [sumAt]
    · have : sumAt (if F n = 0 then [] else [(n, F n)]) b = 0 := sumAt_out fun p hp => by
        split at hp
        · cases hp
        · obtain rfl := List.mem_singleton.1 hp; exact fun h => e h.symm
      rw [this]
      by_cases h : b < n
      · rw [if_pos h, if_pos (show b < n + 1 by omega)]; rfl
      · rw [if_neg h, if_neg (show ¬ b < n + 1 by omega)]
def thrL (L : List (Nat × Nat)) (R : Nat -> Nat -> Nat) (b : Nat) : Nat := (L.map fun p => p.2 * R p.1 b).sum
theorem thrL_plF {F : Nat -> Nat} {R : Nat -> Nat -> Nat} {b : Nat} : ∀ {n : Nat}, thrL (plF n F) R b = ((List.range n).map fun j => F j * R j b).sum
  | 0 => rfl
  | n + 1 => by
    have ih := thrL_plF (F := F) (R := R) (b := b) (n := n)
    unfold thrL at ih ⊢
    rw [plF_succ, List.map_append, List.sum_append, ih, List.range_succ, List.map_append, List.sum_append]
    split
    · rename_i h; simp [h]
    · simp
def tyF (first : Nat) (S : List UInt8) (b : Nat) : Nat := if first <= b then (S.getD (b - first) 0).toNat else 0
def tyAdd (first : Nat) (S : List UInt8) (a x : Nat) : List UInt8 := (S ++ List.replicate (a - first + 1 - S.length) 0).set (a - first) (UInt8.ofNat (min 2 (tyF first S a + x)))
theorem getD_zeros {S : List UInt8} {k j : Nat} : (S ++ List.replicate k 0).getD j 0 = S.getD j 0 := by
  rw [List.getD_eq_getElem?_getD, List.getD_eq_getElem?_getD]
  rcases Nat.lt_or_ge j S.length with h | h
  · rw [List.getElem?_append_left h]
  · rw [List.getElem?_append_right h, List.getElem?_eq_none (l := S) h, List.getElem?_replicate]
    split <;> rfl
theorem tyAdd_length {first a x : Nat} {S : List UInt8} : (tyAdd first S a x).length = max S.length (a - first + 1) := by
  unfold tyAdd; rw [List.length_set, List.length_append, List.length_replicate]; omega
theorem tyF_add {first a x b : Nat} {S : List UInt8} (ha : first <= a) : tyF first (tyAdd first S a x) b = if b = a then min 2 (tyF first S b + x) else tyF first S b := by
  have hl : a - first < (S ++ List.replicate (a - first + 1 - S.length) (0 : UInt8)).length := by rw [List.length_append, List.length_replicate]; omega
  by_cases e : b = a
  · subst e
    rw [if_pos rfl]
    conv => lhs; unfold tyF tyAdd
    rw [if_pos ha, List.getD_eq_getElem?_getD, List.getElem?_set_self hl]
    show (UInt8.ofNat _).toNat = _
    rw [UInt8.toNat_ofNat']
    omega
  · rw [if_neg e]
    unfold tyF tyAdd
    by_cases h : first <= b
    · rw [if_pos h, if_pos h, List.getD_eq_getElem?_getD, List.getElem?_set_ne (by omega), <- List.getD_eq_getElem?_getD, getD_zeros]
    · rw [if_neg h, if_neg h]
theorem tyF_out {first b : Nat} {S : List UInt8} (h : first + S.length <= b) : tyF first S b = 0 := by
  unfold tyF
  split
  · rw [List.getD_eq_getElem?_getD, List.getElem?_eq_none (by omega)]; rfl
  · rfl
theorem tyF_nil {first b : Nat} : tyF first [] b = 0 := by unfold tyF; split <;> rfl
theorem tyF_below {first b : Nat} {S : List UInt8} (h : b < first) : tyF first S b = 0 := by unfold tyF; rw [if_neg (by omega)]
theorem tyF_at {first k : Nat} {S : List UInt8} : tyF first S (first + k) = (S.getD k 0).toNat := by unfold tyF; rw [if_pos (by omega), Nat.add_sub_cancel_left]
def tyAll (first : Nat) : List UInt8 -> List (Nat × Nat) -> List UInt8
  | S, [] => S
  | S, p :: L => tyAll first (if p.2 = 0 then S else tyAdd first S p.1 p.2) L
theorem tyAll_snoc {first : Nat} : ∀ {L : List (Nat × Nat)} {S : List UInt8} {p : Nat × Nat}, tyAll first S (L ++ [p]) = if p.2 = 0 then tyAll first S L else tyAdd first (tyAll first S L) p.1 p.2
  | [], S, p => rfl
  | q :: L, S, p => by
    rw [List.cons_append]
    show tyAll first _ (L ++ [p]) = _
    rw [tyAll_snoc]; rfl
theorem tyF_all {first b : Nat} : ∀ {L : List (Nat × Nat)} {S : List UInt8}, (∀ p ∈ L, first <= p.1) -> tyF first S b <= 2 -> tyF first (tyAll first S L) b = min 2 (tyF first S b + sumAt L b)
  | [], S, _, h => by show tyF first S b = min 2 (_ + 0); omega
  | p :: L, S, hp, h => by
    show tyF first (tyAll first _ L) b = min 2 (_ + ((if p.1 = b then p.2 else 0) + sumAt L b))
    have h1 := hp p (by simp)
    by_cases h0 : p.2 = 0
    · rw [if_pos h0, tyF_all (fun q hq => hp q (List.mem_cons_of_mem _ hq)) h, h0]
      split <;> omega
    · rw [if_neg h0, tyF_all (fun q hq => hp q (List.mem_cons_of_mem _ hq))]
      · rw [tyF_add h1]
        by_cases e : b = p.1
        · rw [if_pos e, if_pos e.symm]; omega
        · rw [if_neg e, if_neg (fun h => e h.symm)]; omega
      · rw [tyF_add h1]; split <;> omega
theorem tyAdd_reach {first a x n : Nat} {S : List UInt8} (hS : first + S.length <= n) (h1 : first <= a) (h2 : a < n) : first + (tyAdd first S a x).length <= n := by rw [tyAdd_length]; omega
theorem tyAll_reach {first n : Nat} : ∀ {L : List (Nat × Nat)} {S : List UInt8}, first + S.length <= n -> (∀ p ∈ L, first <= p.1 /\ p.1 < n) -> first + (tyAll first S L).length <= n
  | [], S, h, _ => h
  | p :: L, S, h, hp => by
    show first + (tyAll first _ L).length <= n
    have := hp p (by simp)
    refine tyAll_reach ?_ fun q hq => hp q (List.mem_cons_of_mem _ hq)
    split
    · exact h
    · exact tyAdd_reach h this.1 this.2
theorem plF_ty_zero {first : Nat} {S : List UInt8} : plF first (tyF first S) = [] := plF_nil fun b hb => tyF_below hb
theorem plF_ty_step {first k : Nat} {S : List UInt8} : plF (first + (k + 1)) (tyF first S) = plF (first + k) (tyF first S) ++ if (S.getD k 0).toNat = 0 then [] else [(first + k, (S.getD k 0).toNat)] := by
  rw [<- Nat.add_assoc, plF_succ, tyF_at]
theorem plF_ty_end {first n : Nat} {S : List UInt8} (h : first + S.length <= n) : plF (first + S.length) (tyF first S) = plF n (tyF first S) := plF_eq fun b h1 h2 => tyF_out (by omega)
theorem plF_all {first n : Nat} {L : List (Nat × Nat)} {F : Nat -> Nat} (h : ∀ p ∈ L, first <= p.1 /\ p.1 < n) (hF : ∀ b, b < n -> F b = min 2 (sumAt L b)) : plF (first + (tyAll first [] L).length) (tyF first (tyAll first [] L)) = plF n F := by
  have hr : first + (tyAll first [] L).length <= n \/ L = [] := by
    cases L with
    | nil => exact .inr rfl
    | cons p L =>
      have := h p (by simp)
      exact .inl (tyAll_reach (by simp; omega) h)
  rcases hr with hr | hr
  · rw [plF_ty_end hr]
    refine plF_congr fun b hb => ?_
    rw [tyF_all (fun p hp => (h p hp).1) (by rw [tyF_nil]; omega), tyF_nil, hF b hb, Nat.zero_add]
  · subst hr
    rw [plF_nil (n := n) fun b hb => by rw [hF b hb]; rfl]
    exact plF_nil fun b _ => tyF_nil
end Go.Proofs.Ytpbbokdmoaadfaa
namespace Go.Proofs.Ytpbbokdmoaadfaa
open Go Go.RowKit
set_option linter.unusedVariables false
set_option linter.unusedSimpArgs false
def rcC (p : Nat × Nat) : Array Value := #[.int .i64 (p.1 : Int), .int .i64 (p.2 : Int)]
def flatR : List (Nat × Nat) -> List Value
  | [] => []
  | t :: l => (rcC t).toList ++ flatR l
theorem rcC_size (t : Nat × Nat) : (rcC t).toList.length = 2 := rfl
theorem flatR_length : ∀ l, (flatR l).length = l.length * 2
  | [] => rfl
  | t :: l => by rw [flatR, List.length_append, flatR_length l, rcC_size, List.length_cons]; omega
theorem flatR_append : ∀ l m, flatR (l ++ m) = flatR l ++ flatR m
  | [], m => rfl
  | t :: l, m => by show (rcC t).toList ++ flatR (l ++ m) = _; rw [flatR_append l m, flatR, List.append_assoc]
theorem flatR_get : ∀ (l : List (Nat × Nat)) (i j : Nat), i < l.length -> j < 2 -> (flatR l)[i * 2 + j]? = (rcC (l.getD i (0, 0)))[j]?
  | [], i, j, h, _ => by simp at h
  | s :: l, 0, j, _, hj => by
    rw [flatR, List.getElem?_append_left (by rw [rcC_size]; omega)]
    simp
  | s :: l, i + 1, j, hi, hj => by
    have ih := flatR_get l i j (by simpa using hi) hj
    show ((rcC s).toList ++ flatR l)[(i + 1) * 2 + j]? = _
    rw [List.getElem?_append_right (by rw [rcC_size]; omega), rcC_size, show (i + 1) * 2 + j - 2 = i * 2 + j by omega, ih]
    simp
theorem flatR_ones : ∀ (l : List (Nat × Nat)) (u : Value), u ∈ flatR l -> u.oneCell' = true
  | [], u, h => by cases h
  | t :: l, u, h => by
    rw [flatR, List.mem_append] at h
    rcases h with h | h
    · simp [rcC] at h
      rcases h with rfl | rfl <;> rfl
    · exact flatR_ones l u h
def RcRow (w : World) (a : Option Addr) (l : List (Nat × Nat)) : Prop :=
  l ≠ [] -> ∃ b off cur, a = some ⟨b, off, none⟩ /\ Blk w b cur 92 /\ ∀ i, i < l.length -> ∀ j, j < 2 -> cur[off + i * 2 + j]? = (rcC (l.getD i (0, 0)))[j]?
theorem RcRow.nil (w : World) (a : Option Addr) : RcRow w a [] := fun h => absurd rfl h
theorem RcRow.keep {w w' : World} {a : Option Addr} {l : List (Nat × Nat)} (h : RcRow w a l) (hk : ∀ b cur, Blk w b cur 92 -> Blk w' b cur 92) : RcRow w' a l := fun hl => by
  obtain ⟨b, off, cur, h1, h2, h3⟩ := h hl
  exact ⟨b, off, cur, h1, hk _ _ h2, h3⟩
theorem RcRow.later {w w' : World} {a : Option Addr} {l : List (Nat × Nat)} (h : RcRow w a l) (hb : Below w.heap.size w w') : RcRow w' a l := h.keep fun _ _ k => k.later hb
theorem RcRow.two {w : World} {a : Option Addr} {l : List (Nat × Nat)} (h : RcRow w a l) (hl : l ≠ []) : ∃ b off, a = some ⟨b, off, none⟩ /\ b < w.heap.size /\ ∀ i, i < l.length -> w.cell? ⟨b, off + i * 2, none⟩ = some (.int .i64 ((l.getD i (0, 0)).1 : Int)) /\ w.cell? ⟨b, off + i * 2 + 1, none⟩ = some (.int .i64 ((l.getD i (0, 0)).2 : Int)) := by
  obtain ⟨b, off, cur, h1, h2, h3⟩ := h hl
  refine ⟨b, off, h1, h2.lt, fun i hi => ⟨?_, ?_⟩⟩
  · rw [h2.cell]; exact h3 i hi 0 (by decide)
  · rw [h2.cell]; exact h3 i hi 1 (by decide)
def IsR (w : World) (v : Value) (l : List (Nat × Nat)) : Prop := ∃ A c, v = .slice A l.length c /\ l.length <= c /\ RcRow w A l
theorem IsR.later {w w' : World} {v : Value} {l : List (Nat × Nat)} (h : IsR w v l) (hb : Below w.heap.size w w') : IsR w' v l := by
  obtain ⟨A, c, h1, h2, h3⟩ := h
  exact ⟨A, c, h1, h2, h3.later hb⟩
theorem IsR.none (w : World) : IsR w (.slice none 0 0) [] := ⟨_, _, rfl, Nat.le_refl _, RcRow.nil _ _⟩
theorem RcRow.one {w : World} {b : Nat} {p : Nat × Nat} (h : Blk w b (rcC p) 92) : RcRow w (some ⟨b, 0, none⟩) [p] := fun _ => ⟨b, 0, _, rfl, h, fun i hi j hj => by
  have hi : i < 1 := hi
  obtain rfl : i = 0 := by omega
  simp⟩
def OwnR (w : World) (base : Nat) (v : Value) (l : List (Nat × Nat)) : Prop := w.ownsRow base 92 2 v l.length (flatR l)
theorem OwnR.later {w w' : World} {base : Nat} {v : Value} {l : List (Nat × Nat)} (h : OwnR w base v l) (hb : Below w.heap.size w w') : OwnR w' base v l := ownsRow_later h hb
theorem OwnR.nil (w : World) (base : Nat) : OwnR w base (.slice none 0 0) [] := ⟨by simp [flatR], .inl ⟨rfl, rfl⟩⟩
theorem OwnR.isR {w : World} {base : Nat} {v : Value} {l : List (Nat × Nat)} (h : OwnR w base v l) : IsR w v l := by
  obtain ⟨_, ⟨hv, hn⟩ | ⟨g, cap, cur, hv, hb, hg, hc, hm, hs, ht⟩⟩ := h
  · have : l = [] := List.length_eq_zero_iff.1 hn
    subst this
    exact ⟨none, 0, hv, Nat.le_refl _, RcRow.nil w none⟩
  · refine ⟨_, cap, hv, hc, fun _ => ⟨g, 0, cur, rfl, hg, fun i hi j hj => ?_⟩⟩
    rw [<- flatR_get l i j hi hj, <- ht, List.getElem?_take, if_pos (by omega)]
    simp
theorem infoRc : (Try.prog.info? 92).map (fun i => (i.zero, i.size, i.bytes)) = some (some (.agg #[.int .i64 0, .int .i64 0]), 2, 16) := by kernel_rfl
theorem rc_news {w : World} {b : Nat} {p : Nat × Nat} (h : Blk w b (rcC p) 92) : ∀ (j : Nat) (u : Value), (flatR [p])[j]? = some u -> w.cell? ((⟨b, 0, none⟩ : Addr).add j) = some u := by
  intro j u hu
  have hadd : (⟨b, 0, none⟩ : Addr).add j = ⟨b, j, none⟩ := by unfold Addr.add; split <;> simp_all
  rw [hadd, h.cell, <- hu]
  simp [flatR]
set_option maxRecDepth 100000 in
theorem wp_append_rc {w : World} {o : Oper} {a : Act} {K : Act -> World -> Prop} {Q : Exit -> Act -> World -> Prop} (s x : Operand)
    (ho : o.op = .call { callee := .builtin .append, args := #[s, x], argTypes := #[78, 78] })
    (base : Nat) (v : Value) (l : List (Nat × Nat)) (hs : a.eval s = v) (hown : OwnR w base v l)
    (b : Nat) (p : Nat × Nat) (hx : a.eval x = .slice (some ⟨b, 0, none⟩) 1 1) (hnew : Blk w b (rcC p) 92) (hlen : l.length < 1073741824) (hbase : base <= w.heap.size)
    (h : ∀ v' w', OwnR w' base v' (l ++ [p]) -> w.grownBy w' v.ownBlock -> K (a.put o.dst v') w') : o.wp Try.prog a w K Q := by
  obtain ⟨ib, hib, hz0, hz1, hz2⟩ := info_parts infoRc
  obtain ⟨v', w', hr, h2, h3, _⟩ := run_append_own (P := Try.prog) w base 78 o.type 92 ib _ 2 16 Try.underlying78 hib hz0 hz1 hz2 rfl (by decide) v l.length (flatR l) hown ⟨b, 0, none⟩ 1 1 (flatR [p]) (by rw [flatR_length]; rfl) (rc_news hnew) (flatR_ones [p]) (by unfold maxLen; omega) (by omega) hbase
  unfold Oper.wp execOp
  simp only [ho, resolve, invoke, builtin, Sem.run_bind, Sem.run_pure, Result.andThen_ok, List.map_toArray, List.map_cons, List.map_nil, hs, hx, hr]
  exact h v' w' (by unfold OwnR; rw [List.length_append, flatR_append]; exact h2) h3
theorem wpList_append_rc {w : World} {ops : Array Oper} {rest : List Oper} {o : Oper} {a : Act} {Q : Exit -> Act -> World -> Prop} (hgd : o.guard = none) (s x : Operand)
    (ho : o.op = .call { callee := .builtin .append, args := #[s, x], argTypes := #[78, 78] })
    (base : Nat) (v : Value) (l : List (Nat × Nat)) (hs : a.eval s = v) (hown : OwnR w base v l)
    (b : Nat) (p : Nat × Nat) (hx : a.eval x = .slice (some ⟨b, 0, none⟩) 1 1) (hnew : Blk w b (rcC p) 92) (hlen : l.length < 1073741824) (hbase : base <= w.heap.size)
    (h : ∀ v' w', OwnR w' base v' (l ++ [p]) -> w.grownBy w' v.ownBlock -> wpList Try.prog ops Q rest (a.put o.dst v') w') : wpList Try.prog ops Q (o :: rest) a w :=
  wpList_plain hgd fun K hK => wp_append_rc s x ho base v l hs hown b p hx hnew hlen hbase fun v' w' h1 h2 => hK _ _ (h v' w' h1 h2)
section
variable {P : Program}
theorem run_append_where (w : World) (base : Nat) (t ty e : TypeId) (i : TypeInfo) (z : Value) (size bytes : Nat) (ht : P.underlying t = some (.slice e)) (hi : P.info? e = some i) (hz : i.zero = some z)
    (hsize : i.size = size) (hby : i.bytes = bytes) (hzs : z.cells.size = size) (hsz : 0 < size)
    (v : Value) (n : Nat) (xs : List Value) (hown : w.ownsRow base e size v n xs)
    (a : Addr) (m c : Nat) (news : List Value) (hl : news.length = m * size) (hnews : ∀ j u, news[j]? = some u -> w.cell? (a.add j) = some u) (h1 : ∀ u ∈ news, u.oneCell' = true) (hm : 0 < m)
    (h63 : n + m <= maxLen) (hbytes : (n + m) * bytes <= 140737488355328) (hbase : base <= w.heap.size) :
    ∃ v' w', (Builtin.append_ #[t, t] ty #[v, .slice (some a) m c]).run P w = .ok v' w' /\ w'.ownsRow base e size v' (n + m) (xs ++ news) /\ w.grownBy w' v.ownBlock /\
      (v'.ownBlock = v.ownBlock \/ ∃ g', v'.ownBlock = some g' /\ w.heap.size <= g') := by
  obtain ⟨v', w', hr, h2, h3, _⟩ := run_append_own (P := P) w base t ty e i z size bytes ht hi hz hsize hby hzs hsz v n xs hown a m c news hl hnews h1 h63 hbytes hbase
  refine ⟨v', w', hr, h2, h3, ?_⟩
  rcases hown.2 with ⟨rfl, hn⟩ | ⟨g', cap, cur, rfl, hbg, hgg, hnc, hcm, hcs, htake⟩
  · subst hn
    have hx0 : xs = [] := List.length_eq_zero_iff.1 (by rw [hown.1]; simp)
    subst hx0
    obtain ⟨v2, w2, hr2, h4, _, _⟩ := run_append_own (P := P) w w.heap.size t ty e i z size bytes ht hi hz hsize hby hzs hsz (.slice none 0 0) 0 [] ⟨by simp, .inl ⟨rfl, rfl⟩⟩ a m c news hl hnews h1 h63 hbytes (Nat.le_refl _)
    rw [hr] at hr2
    simp only [Result.ok.injEq] at hr2
    obtain ⟨rfl, rfl⟩ := hr2
    rcases h4.2 with ⟨_, h5⟩ | ⟨g2, cap2, cur2, hv, hb2, _⟩
    · omega
    · exact .inr ⟨g2, by rw [hv]; rfl, hb2⟩
  · by_cases hroom : n + m <= cap
    · have hr2 := run_append_room (P := P) w t ty e i ht hi g' n cap cur hgg a m c news (by rw [hsize]; exact hl) hnews h1 hroom (by rw [hsize, hl, hcs, <- Nat.add_mul]; exact Nat.mul_le_mul_right _ hroom)
      rw [hr] at hr2
      simp only [Result.ok.injEq] at hr2
      exact .inl (by rw [hr2.1]; rfl)
    · have holds := World.ownsRow.cells (w := w) (base := base) (e := e) (size := size) (v := .slice (some ⟨g', 0, none⟩) n cap) (n := n) (xs := xs) hown (g := g') rfl
      have hr2 := run_append_grow (P := P) w t ty e i z ht hi hz ⟨g', 0, none⟩ n cap xs (by rw [hsize]; exact hown.1) holds a m c news (by rw [hsize]; exact hl) hnews (by omega) (by unfold maxLen at h63; omega) (by rw [hby]; exact growslice_fits (by omega) hbytes)
      rw [hr] at hr2
      simp only [Result.ok.injEq] at hr2
      exact .inr ⟨w.heap.size, by rw [hr2.1]; rfl, Nat.le_refl _⟩
end
set_option maxRecDepth 100000 in
theorem wpList_append_rc2 {w : World} {ops : Array Oper} {rest : List Oper} {o : Oper} {a : Act} {Q : Exit -> Act -> World -> Prop} (hgd : o.guard = none) (s x : Operand)
    (ho : o.op = .call { callee := .builtin .append, args := #[s, x], argTypes := #[78, 78] })
    (base : Nat) (v : Value) (l : List (Nat × Nat)) (hs : a.eval s = v) (hown : OwnR w base v l)
    (b : Nat) (p : Nat × Nat) (hx : a.eval x = .slice (some ⟨b, 0, none⟩) 1 1) (hnew : Blk w b (rcC p) 92) (hlen : l.length < 1073741824) (hbase : base <= w.heap.size)
    (h : ∀ v' w', OwnR w' base v' (l ++ [p]) -> w.grownBy w' v.ownBlock -> (v'.ownBlock = v.ownBlock \/ ∃ g', v'.ownBlock = some g' /\ w.heap.size <= g') -> wpList Try.prog ops Q rest (a.put o.dst v') w') : wpList Try.prog ops Q (o :: rest) a w := by
  refine wpList_plain hgd fun K hK => ?_
  obtain ⟨ib, hib, hz0, hz1, hz2⟩ := info_parts infoRc
  obtain ⟨v', w', hr, h2, h3, h4⟩ := run_append_where (P := Try.prog) w base 78 o.type 92 ib _ 2 16 Try.underlying78 hib hz0 hz1 hz2 rfl (by decide) v l.length (flatR l) hown ⟨b, 0, none⟩ 1 1 (flatR [p]) (by rw [flatR_length]; rfl) (rc_news hnew) (flatR_ones [p]) (by decide) (by unfold maxLen; omega) (by omega) hbase
  unfold Oper.wp execOp
  simp only [ho, resolve, invoke, builtin, Sem.run_bind, Sem.run_pure, Result.andThen_ok, List.map_toArray, List.map_cons, List.map_nil, hs, hx, hr]
  exact hK _ _ (h v' w' (by unfold OwnR; rw [List.length_append, flatR_append]; exact h2) h3 h4)
end Go.Proofs.Ytpbbokdmoaadfaa
namespace Go.Proofs.Ytpbbokdmoaadfaa
open Go
set_option linter.unusedVariables false
set_option linter.unusedSimpArgs false
def partS (S : List Nat) (a : Int) : Nat := if 0 <= a /\ a < (S.length : Int) then S.getD a.toNat 0 else 0
def powW (a : Nat) (k : Int) : Nat := if k = 0 then 1 else a
def tmsW (a : Nat) (lo hi : Int) : Nat := min (powW a lo + (if lo < hi then powW a (lo + 1) else 0)) 2
def waysW (n : Nd) (S : List Nat) : Nat :=
  if n.kind = 1 then 1
  else if n.kind = 4 then min (partS S n.a * partS S n.b) 2
  else if n.kind = 5 then min (partS S n.a + partS S n.b) 2
  else if n.kind = 6 then min (1 + partS S n.a) 2
  else if n.kind = 7 then tmsW (partS S n.a) n.lo n.hi
  else 0
def wys (l : List Nd) : Nat -> List Nat
  | 0 => []
  | k + 1 => wys l k ++ [waysW (atN l k) (wys l k)]
def wyN (l : List Nd) (i : Nat) : Nat := waysW (atN l i) (wys l i)
theorem wys_length (l : List Nd) : ∀ k, (wys l k).length = k
  | 0 => rfl
  | k + 1 => by rw [wys, List.length_append, wys_length l k]; rfl
theorem wys_get (l : List Nd) : ∀ k j, j < k -> (wys l k).getD j 0 = wyN l j
  | 0, j, h => absurd h (Nat.not_lt_zero j)
  | k + 1, j, h => by
    rw [wys, List.getD_eq_getElem?_getD]
    rcases Nat.lt_or_ge j k with h1 | h1
    · rw [List.getElem?_append_left (by rw [wys_length]; exact h1), <- List.getD_eq_getElem?_getD]; exact wys_get l k j h1
    · rw [List.getElem?_append_right (by rw [wys_length]; exact h1), wys_length, show j = k by omega, Nat.sub_self]; rfl
theorem partW_at {l : List Nd} {i : Nat} {a : Int} (h0 : 0 <= a) (h1 : a < (i : Int)) : partS (wys l i) a = wyN l a.toNat := by
  unfold partS
  rw [wys_length, if_pos ⟨h0, h1⟩, wys_get l i _ (by omega)]
theorem partS_two {S : List Nat} (h : ∀ x ∈ S, x <= 2) (a : Int) : partS S a <= 2 := by
  unfold partS
  split
  · rename_i hh
    rw [List.getD_eq_getElem?_getD, List.getElem?_eq_getElem (by omega)]
    exact h _ (List.getElem_mem _)
  · exact Nat.zero_le _
theorem waysW_le (n : Nd) (S : List Nat) : waysW n S <= 2 := by
  unfold waysW tmsW
  (repeat' split) <;> first | exact Nat.min_le_right _ _ | omega
theorem wys_le (l : List Nd) : ∀ k, ∀ x ∈ wys l k, x <= 2
  | 0, x, h => by simp [wys] at h
  | k + 1, x, h => by
    rw [wys, List.mem_append] at h
    rcases h with h | h
    · exact wys_le l k x h
    · rw [List.mem_singleton.mp h]; exact waysW_le _ _
def badW (l : List Nd) (i : Nat) : Bool := decide (((atN l i).kind = 6 \/ (atN l i).kind = 7) /\ partS (wys l l.length) (atN l i).a ≠ 0)
def fstW (l : List Nd) : Nat × Bool := match (List.range l.length).find? (badW l) with | some i => (i, true) | none => (0, false)
theorem fstW_some {l : List Nd} {i : Nat} (hi : i < l.length) (h : badW l i = true) (hn : ∀ j, j < i -> badW l j = false) : fstW l = (i, true) := by
  unfold fstW
  have : (List.range l.length).find? (badW l) = some i := by
    rw [List.find?_range_eq_some]
    exact ⟨h, List.mem_range.2 hi, fun j hj => by rw [hn j hj]; rfl⟩
  rw [this]
theorem fstW_none {l : List Nd} (hn : ∀ j, j < l.length -> badW l j = false) : fstW l = (0, false) := by
  unfold fstW
  have : (List.range l.length).find? (badW l) = none := by
    rw [List.find?_range_eq_none]
    exact fun j hj => by rw [hn j hj]; rfl
  rw [this]
theorem fstW_right (l : List Nd) : (fstW l).2 = false ↔ ∀ j, j < l.length -> badW l j = false := by
  constructor
  · intro h
    unfold fstW at h
    cases hf : (List.range l.length).find? (badW l) with
    | some i => rw [hf] at h; cases h
    | none =>
      rw [List.find?_range_eq_none] at hf
      exact fun j hj => by simpa using hf j hj
  · intro h; rw [fstW_none h]
def Rgt (l : List Nd) : Prop := Form l /\ ∀ i, i < l.length -> badW l i = false
theorem badW_form {l : List Nd} (h : Form l) {i : Nat} (hi : i < l.length) : badW l i = true ↔ ((atN l i).kind = 6 \/ (atN l i).kind = 7) /\ wyN l (i - 1) ≠ 0 := by
  unfold badW
  rw [decide_eq_true_iff]
  have hc := (h.2.1 i hi).cs rfl
  constructor
  · rintro ⟨hk, hp⟩
    cases hc with
    | leaf hl hf => unfold leafK at hl; omega
    | two hl => omega
    | one hl h0 ha hb h7 hr hc hf =>
      rw [partW_at (by omega) (by omega), show (atN l i).a.toNat = i - 1 by omega] at hp
      exact ⟨hk, hp⟩
  · rintro ⟨hk, hp⟩
    cases hc with
    | leaf hl hf => unfold leafK at hl; omega
    | two hl => omega
    | one hl h0 ha hb h7 hr hc hf =>
      rw [partW_at (by omega) (by omega), show (atN l i).a.toNat = i - 1 by omega]
      exact ⟨hk, hp⟩
def rsW (a : Nat) (lo : Int) : Nat -> Nat
  | 0 => 0
  | k + 1 => min 2 (rsW a lo k + powW a (lo + k))
theorem powW_step {a : Nat} (ha : a <= 2) {k : Nat} : min 2 (powW a (k : Int) * a) = powW a ((k + 1 : Nat) : Int) := by
  unfold powW
  rw [if_neg (show ¬ ((k + 1 : Nat) : Int) = 0 by omega)]
  have : a = 0 \/ a = 1 \/ a = 2 := by omega
  by_cases h : (k : Int) = 0
  · rw [if_pos h]; omega
  · rw [if_neg h]; rcases this with rfl | rfl | rfl <;> rfl
theorem powW_le {a : Nat} (ha : a <= 2) (k : Int) : powW a k <= 2 := by unfold powW; split <;> omega
theorem rsW_le (a : Nat) (lo : Int) (k : Nat) : rsW a lo k <= 2 := by
  cases k with
  | zero => exact Nat.zero_le _
  | succ k => exact Nat.min_le_left _ _
theorem rsW_more {a : Nat} (ha : a <= 2) {lo : Int} (hl : 0 <= lo) : ∀ k : Nat, rsW a lo (k + 2) = min (powW a lo + powW a (lo + 1)) 2
  | 0 => by
    have h1 := powW_le ha lo
    show min 2 (min 2 (0 + powW a (lo + ((0 : Nat) : Int))) + powW a (lo + ((1 : Nat) : Int))) = _
    have e0 : lo + ((0 : Nat) : Int) = lo := by omega
    have e1 : lo + ((1 : Nat) : Int) = lo + 1 := by omega
    rw [e0, e1]; omega
  | k + 1 => by
    rw [rsW, rsW_more ha hl k]
    unfold powW
    rw [if_neg (show ¬ lo + 1 = 0 by omega), if_neg (show ¬ lo + ((k + 2 : Nat) : Int) = 0 by omega)]
    split <;> omega
theorem rsW_all {a : Nat} (ha : a <= 2) {lo hi : Int} (hl : 0 <= lo) (h : lo <= hi) : rsW a lo (hi - lo + 1).toNat = tmsW a lo hi := by
  unfold tmsW
  by_cases he : lo < hi
  · rw [if_pos he]
    obtain ⟨k, hk⟩ : ∃ k : Nat, hi = lo + 1 + k := ⟨(hi - lo - 1).toNat, by omega⟩
    rw [show (hi - lo + 1).toNat = k + 2 by omega, rsW_more ha hl]
  · rw [if_neg he]
    rw [show (hi - lo + 1).toNat = 1 by omega]
    show min 2 (0 + powW a (lo + ((0 : Nat) : Int))) = _
    have e0 : lo + ((0 : Nat) : Int) = lo := by omega
    rw [e0]; omega
end Go.Proofs.Ytpbbokdmoaadfaa
