/- The heads of an or: both's, together. -/
import Derived.Test.YtidoofdofdhjpaaM13
namespace Go.Proofs.Ytidoofdofdhjpaa
open Go
set_option linter.unusedVariables false
set_option linter.unusedSimpArgs false
def stL (l : List Nd) : List Itm := [⟨1, (l.length : Int) - 1, 0, 0⟩]
theorem st_form {l : List Nd} (h : 0 < l.length) : ∀ y ∈ stL l, HdF l y := fun y hy => by
 rw [List.mem_singleton.1 hy]
 exact ⟨fun h => by simp at h, fun _ => ⟨by simp only; omega, by simp only; omega⟩, ⟨by simp, by simp⟩, fun _ => ⟨rfl, rfl⟩, fun h => by simp at h, fun h => by simp at h, fun h => by simp at h⟩
theorem opn_five {l : List Nd} {x : Itm} {r t : List Itm} (hx : x.kind ≠ 5) (hr : ∀ y ∈ r, y.kind ≠ 5) (ht : t ∈ opnS l x r) : ∀ y ∈ t, y.kind ≠ 5 := by
 have cons : ∀ (a : Itm) (s : List Itm), a.kind ≠ 5 -> (∀ y ∈ s, y.kind ≠ 5) -> ∀ y ∈ a :: s, y.kind ≠ 5 := fun a s h1 h2 y hy => by
  rcases List.mem_cons.1 hy with rfl | h
  ·exact h1
  ·exact h2 y h
 have k1 : ∀ a b c : Int, (⟨1, a, b, c⟩ : Itm).kind ≠ 5 := fun a b c => by simp
 have k2 : ∀ a b c : Int, (⟨2, a, b, c⟩ : Itm).kind ≠ 5 := fun a b c => by simp
 have k3 : ∀ a b c : Int, (⟨3, a, b, c⟩ : Itm).kind ≠ 5 := fun a b c => by simp
 unfold opnS at ht
 simp only at ht
 rw [if_neg hx] at ht
 split at ht
 ·rcases List.mem_append.1 ht with h | h
  ·split at h
   ·rw [List.mem_singleton.1 h]; exact hr
   ·cases h
  ·split at h
   ·rw [List.mem_singleton.1 h]; exact cons _ _ (k1 _ _ _) (cons _ _ (k2 _ _ _) hr)
   ·cases h
 ·split at ht
  ·rw [List.mem_singleton.1 ht]; exact hr
  ·split at ht
   ·rw [List.mem_singleton.1 ht]; exact cons _ _ (k3 _ _ _) hr
   ·split at ht
    ·rw [List.mem_singleton.1 ht]; exact cons _ _ (k1 _ _ _) (cons _ _ (k1 _ _ _) hr)
    ·split at ht
     ·rcases List.mem_cons.1 ht with h | h
      ·rw [h]; exact cons _ _ (k1 _ _ _) hr
      ·rw [List.mem_singleton.1 h]; exact cons _ _ (k1 _ _ _) hr
     ·split at ht
      ·rcases List.mem_cons.1 ht with h | h
       ·rw [h]; exact hr
       ·rw [List.mem_singleton.1 h]; exact cons _ _ (k1 _ _ _) (cons _ _ hx hr)
      ·split at ht
       ·rw [List.mem_singleton.1 ht]; exact cons _ _ (k2 _ _ _) hr
       ·cases ht
theorem rch_ok {l : List Nd} (hF : Form l) : ∀ (f : Nat) (s : List Itm), (∀ y ∈ s, HdF l y) -> ∀ t ∈ rchF l f s, rdyS l t = true /\ (∀ y ∈ t, HdF l y) /\ ((∀ y ∈ s, y.kind ≠ 5) -> ∀ y ∈ t, y.kind ≠ 5) := fun f => by
 induction f with
 | zero =>
  intro s hs t ht
  cases s with
  | nil =>
   rw [List.mem_singleton.1 (show t ∈ [[]] from ht)]
   exact ⟨rfl, hs, fun h => h⟩
  | cons x r =>
   unfold rchF at ht
   split at ht
   ·rename_i h
    rw [List.mem_singleton.1 ht]
    exact ⟨h, hs, fun h => h⟩
   ·cases ht
 | succ f ih =>
  intro s hs t ht
  cases s with
  | nil =>
   rw [List.mem_singleton.1 (show t ∈ [[]] from ht)]
   exact ⟨rfl, hs, fun h => h⟩
  | cons x r =>
   have hx := hs x (List.mem_cons_self ..)
   have hr : ∀ y ∈ r, HdF l y := fun y hy => hs y (List.mem_cons_of_mem _ hy)
   unfold rchF at ht
   split at ht
   ·rename_i h
    rw [List.mem_singleton.1 ht]
    exact ⟨h, hs, fun h => h⟩
   ·obtain ⟨q, hq, hqt⟩ := List.mem_flatMap.1 ht
    obtain ⟨a1, a2, a3⟩ := ih q (opn_form hF hx hr hq) t hqt
    exact ⟨a1, a2, fun h => a3 (opn_five (h x (List.mem_cons_self ..)) (fun y hy => h y (List.mem_cons_of_mem _ hy)) hq)⟩
theorem rchS_ok {l : List Nd} (hF : Form l) {s : List Itm} (hs : ∀ y ∈ s, HdF l y) {t : List Itm} (ht : t ∈ rchS l s) : rdyS l t = true /\ (∀ y ∈ t, HdF l y) /\ ((∀ y ∈ s, y.kind ≠ 5) -> ∀ y ∈ t, y.kind ≠ 5) := rch_ok hF _ s hs t ht
theorem hds_ok {l : List Nd} (hF : Form l) {s : List Itm} (hs : ∀ y ∈ s, HdF l y) {a : List Itm × Nat} (ha : a ∈ hdsL l s) : rdyS l a.1 = true /\ (∀ y ∈ a.1, HdF l y) /\ 1 <= a.2 /\ a.2 <= 2 := by
 have h1 : a.1 ∈ rchS l s := (brsL_keys _ _).1 (List.mem_map.2 ⟨a, ha, rfl⟩)
 have h2 := rchS_ok hF hs h1
 have h3 := hds_pos l s a ha
 exact ⟨h2.1, h2.2.1, h3.1, h3.2⟩
def HdsOf (l : List Nd) (x : Itm) (n : Nat) : Prop := ∃ A : List (List Itm), A.length <= n /\ ∀ f r t, t ∈ rchF l f (x :: r) -> (∃ a ∈ A, t = a ++ r) \/ (nuI l x = true /\ ∃ g, t ∈ rchF l g r)
theorem rchF_cons {l : List Nd} {f : Nat} {x : Itm} {r t : List Itm} (h : t ∈ rchF l f (x :: r)) : (rdyS l (x :: r) = true /\ t = x :: r) \/ (rdyS l (x :: r) = false /\ ∃ g, ∃ q ∈ opnS l x r, t ∈ rchF l g q) := by
 cases hd : rdyS l (x :: r) with
 | true =>
  left
  cases f with
  | zero => unfold rchF at h; rw [if_pos hd] at h; exact ⟨rfl, List.mem_singleton.1 h⟩
  | succ f => unfold rchF at h; rw [if_pos hd] at h; exact ⟨rfl, List.mem_singleton.1 h⟩
 | false =>
  right
  have hne : rdyS l (x :: r) ≠ true := by rw [hd]; simp
  cases f with
  | zero => unfold rchF at h; rw [if_neg hne] at h; cases h
  | succ f =>
   unfold rchF at h; rw [if_neg hne] at h
   obtain ⟨q, hq, ht⟩ := List.mem_flatMap.1 h
   exact ⟨rfl, f, q, hq, ht⟩
theorem hds_self {l : List Nd} {x : Itm} (h : ∀ r, rdyS l (x :: r) = true) {n : Nat} (hn : 0 < n) : HdsOf l x n := ⟨[[x]], hn, fun f r t ht => by
 rcases rchF_cons ht with ⟨-, e⟩ | ⟨h2, -⟩
 ·exact .inl ⟨[x], List.mem_singleton.2 rfl, e⟩
 ·rw [h r] at h2; cases h2⟩
theorem nu_node (l : List Nd) (i : Int) : nuI l ⟨1, i, 0, 0⟩ = decide (wyN l i.toNat ≠ 0) := by unfold nuI; simp
theorem nu_times (l : List Nd) (i lo hi : Int) : nuI l ⟨2, i, lo, hi⟩ = decide (lo = 0) := by unfold nuI; simp
theorem times_heads {l : List Nd} (hR : Rgt l) {i : Nat} (hi : i < l.length) (h7 : (atN l i).kind = 7) {n : Nat} (hA : HdsOf l ⟨1, (atN l i).a, 0, 0⟩ n) (lo hi_ : Int) : HdsOf l ⟨2, (i : Int), lo, hi_⟩ n := by
 obtain ⟨A, hn, hA⟩ := hA
 obtain ⟨m0, m1, m2, m3⟩ := hd_never hR hi (.inr h7)
 refine ⟨A.map (· ++ [⟨2, (i : Int), max 0 (lo - 1), hi_ - 1⟩]), by rw [List.length_map]; exact hn, fun f r t ht => ?_⟩
 rcases rchF_cons ht with ⟨h1, -⟩ | ⟨-, g, q, hq, htq⟩
 ·unfold rdyS at h1; simp at h1
 ·unfold opnS at hq
  simp at hq
  rcases hq with ⟨h0, e⟩ | ⟨h0, e⟩
  ·subst e
   exact .inr ⟨by rw [nu_times, h0]; rfl, g, htq⟩
  ·subst e
   rcases hA g _ t htq with ⟨a, ha, e⟩ | ⟨h2, -⟩
   ·exact .inl ⟨a ++ [⟨2, (i : Int), max 0 (lo - 1), hi_ - 1⟩], List.mem_map.2 ⟨a, ha, rfl⟩, by rw [e]; simp⟩
   ·rw [nu_node, m0] at h2; simp at h2
theorem node_heads {l : List Nd} (hR : Rgt l) : ∀ i : Nat, i < l.length -> HdsOf l ⟨1, (i : Int), 0, 0⟩ (hsz l i) := fun i => by
 induction i using Nat.strongRecOn with
 | ind i ih =>
  intro hi
  have hp := hsz_pos l i
  have nr : ∀ r, rdyS l (⟨1, (i : Int), 0, 0⟩ :: r) = (decide ((atN l i).kind = 2) || decide ((atN l i).kind = 8) || decide ((atN l i).kind = 9)) := fun r => by unfold rdyS; simp
  have op : ∀ r, opnS l ⟨1, (i : Int), 0, 0⟩ r = if (atN l i).kind = 1 then [r] else if (atN l i).kind = 3 then [⟨3, (i : Int), 0, 0⟩ :: r] else if (atN l i).kind = 4 then [⟨1, (atN l i).a, 0, 0⟩ :: ⟨1, (atN l i).b, 0, 0⟩ :: r]
   else if (atN l i).kind = 5 then [⟨1, (atN l i).a, 0, 0⟩ :: r, ⟨1, (atN l i).b, 0, 0⟩ :: r] else if (atN l i).kind = 6 then [r, ⟨1, (atN l i).a, 0, 0⟩ :: ⟨1, (i : Int), 0, 0⟩ :: r] else if (atN l i).kind = 7 then [⟨2, (i : Int), (atN l i).lo, (atN l i).hi⟩ :: r] else [] := fun r => by unfold opnS; simp
  cases hd_cs hR.1 hi with
  | leaf h1 hf =>
   unfold leafK at h1
   have hw := wyN_leaf (l := l) (i := i) h1
   unfold leafW at hw
   by_cases a2 : (atN l i).kind = 2
   ·exact hds_self (fun r => by rw [nr, a2]; rfl) hp
   ·by_cases a1 : (atN l i).kind = 1
    ·refine ⟨[], Nat.zero_le _, fun f r t ht => .inr ?_⟩
     rcases rchF_cons ht with ⟨h, -⟩ | ⟨-, g, q, hq, htq⟩
     ·rw [nr, a1] at h; simp at h
     ·rw [op, if_pos a1] at hq
      rw [List.mem_singleton.1 hq] at htq
      exact ⟨by rw [nu_node, Int.toNat_natCast, hw, if_pos a1]; rfl, g, htq⟩
    ·have a3 : (atN l i).kind = 3 := by omega
     refine ⟨[[⟨3, (i : Int), 0, 0⟩]], hp, fun f r t ht => .inl ?_⟩
     rcases rchF_cons ht with ⟨h, -⟩ | ⟨-, g, q, hq, htq⟩
     ·rw [nr, a3] at h; simp at h
     ·rw [op, if_neg a1, if_pos a3] at hq
      rw [List.mem_singleton.1 hq] at htq
      rcases rchF_cons htq with ⟨-, e⟩ | ⟨h, -⟩
      ·exact ⟨_, List.mem_singleton.2 rfl, e⟩
      ·unfold rdyS at h; simp at h
  | one h1 hi0 ha hb h7 hr hcl hf =>
   have hw := wyN_one hi0 h1 ha
   by_cases a8 : (atN l i).kind = 8 \/ (atN l i).kind = 9
   ·exact hds_self (fun r => by rw [nr]; rcases a8 with h | h <;> rw [h] <;> rfl) hp
   ·have a67 : (atN l i).kind = 6 \/ (atN l i).kind = 7 := by omega
    obtain ⟨m0, m1, m2, m3⟩ := hd_never hR hi a67
    have hA := ih (atN l i).a.toNat (by omega) (by omega)
    rw [show (((atN l i).a.toNat : Nat) : Int) = (atN l i).a by omega] at hA
    rcases a67 with a6 | a7
    ·obtain ⟨A, hn, hA⟩ := hA
     refine ⟨A.map (· ++ [⟨1, (i : Int), 0, 0⟩]), by rw [List.length_map]; omega, fun f r t ht => ?_⟩
     rcases rchF_cons ht with ⟨h, -⟩ | ⟨-, g, q, hq, htq⟩
     ·rw [nr, a6] at h; simp at h
     ·rw [op, if_neg (by omega), if_neg (by omega), if_neg (by omega), if_neg (by omega), if_pos a6] at hq
      have m0' : wyN l (i - 1) = 0 := by rw [show i - 1 = (atN l i).a.toNat by omega]; exact m0
      rcases List.mem_cons.1 hq with e | e
      ·subst e
       exact .inr ⟨by rw [nu_node, Int.toNat_natCast, hw, m0']; unfold oneW; rw [if_pos a6]; rfl, g, htq⟩
      ·rw [List.mem_singleton.1 e] at htq
       rcases hA g _ t htq with ⟨a, ha2, e2⟩ | ⟨h2, -⟩
       ·exact .inl ⟨a ++ [⟨1, (i : Int), 0, 0⟩], List.mem_map.2 ⟨a, ha2, rfl⟩, by rw [e2]; simp⟩
       ·rw [nu_node, m0] at h2; simp at h2
    ·obtain ⟨A, hn, hA⟩ := times_heads hR hi a7 hA (atN l i).lo (atN l i).hi
     refine ⟨A, by omega, fun f r t ht => ?_⟩
     rcases rchF_cons ht with ⟨h, -⟩ | ⟨-, g, q, hq, htq⟩
     ·rw [nr, a7] at h; simp at h
     ·rw [op, if_neg (by omega), if_neg (by omega), if_neg (by omega), if_neg (by omega), if_neg (by omega), if_pos a7] at hq
      rw [List.mem_singleton.1 hq] at htq
      rcases hA g r t htq with h | ⟨h2, h3⟩
      ·exact .inl h
      ·refine .inr ⟨?_, h3⟩
       rw [nu_times, decide_eq_true_iff] at h2
       rw [nu_node, Int.toNat_natCast, decide_eq_true_iff, hw]
       unfold oneW
       rw [if_neg (by omega), if_pos a7]
       unfold tmsW powW
       rw [if_pos h2]; omega
  | two h1 hi0 hb ha hf0 hl hcl hf =>
   obtain ⟨p, hp2⟩ : ∃ p : Nat, (atN l i).a = (p : Int) := ⟨(atN l i).a.toNat, by omega⟩
   have hfl := firstP_le l (i - 1)
   have hw := wyN_two hi0 h1 hp2 (by omega) hb
   have hfp : firstP l i = firstP l p := by rw [hf]; congr 1; omega
   have hfq := firstP_le l p
   have hsz2 : hsz l i = hsz l p + hsz l (i - 1) + 1 := by unfold hsz; omega
   obtain ⟨A, hn1, hA⟩ := ih p (by omega) (by omega)
   obtain ⟨B, hn2, hB⟩ := ih (i - 1) (by omega) (by omega)
   have hbi : (atN l i).b = ((i - 1 : Nat) : Int) := by omega
   unfold twoW at hw
   rcases h1 with a4 | a5
   ·refine ⟨A.map (· ++ [⟨1, ((i - 1 : Nat) : Int), 0, 0⟩]) ++ B, by rw [List.length_append, List.length_map]; omega, fun f r t ht => ?_⟩
    rcases rchF_cons ht with ⟨h, -⟩ | ⟨-, g, q, hq, htq⟩
    ·rw [nr, a4] at h; simp at h
    ·rw [op, if_neg (by omega), if_neg (by omega), if_pos a4, hp2, hbi] at hq
     rw [List.mem_singleton.1 hq] at htq
     rcases hA g _ t htq with ⟨a, ha2, e2⟩ | ⟨h2, g2, h3⟩
     ·exact .inl ⟨a ++ [⟨1, ((i - 1 : Nat) : Int), 0, 0⟩], List.mem_append.2 (.inl (List.mem_map.2 ⟨a, ha2, rfl⟩)), by rw [e2]; simp⟩
     ·rcases hB g2 r t h3 with ⟨b, hb2, e2⟩ | ⟨h4, h5⟩
      ·exact .inl ⟨b, List.mem_append.2 (.inr hb2), e2⟩
      ·refine .inr ⟨?_, h5⟩
       rw [nu_node, Int.toNat_natCast, decide_eq_true_iff] at h2 h4 ⊢
       rw [hw, if_pos a4]
       have : 0 < wyN l p * wyN l (i - 1) := Nat.mul_pos (by omega) (by omega)
       omega
   ·refine ⟨A ++ B, by rw [List.length_append]; omega, fun f r t ht => ?_⟩
    rcases rchF_cons ht with ⟨h, -⟩ | ⟨-, g, q, hq, htq⟩
    ·rw [nr, a5] at h; simp at h
    ·rw [op, if_neg (by omega), if_neg (by omega), if_neg (by omega), if_pos a5, hp2, hbi] at hq
     rcases List.mem_cons.1 hq with e | e
     ·rw [e] at htq
      rcases hA g _ t htq with ⟨a, ha2, e2⟩ | ⟨h2, h3⟩
      ·exact .inl ⟨a, List.mem_append.2 (.inl ha2), e2⟩
      ·refine .inr ⟨?_, h3⟩
       rw [nu_node, Int.toNat_natCast, decide_eq_true_iff] at h2 ⊢
       rw [hw, if_neg (by omega)]; omega
     ·rw [List.mem_singleton.1 e] at htq
      rcases hB g _ t htq with ⟨a, ha2, e2⟩ | ⟨h2, h3⟩
      ·exact .inl ⟨a, List.mem_append.2 (.inr ha2), e2⟩
      ·refine .inr ⟨?_, h3⟩
       rw [nu_node, Int.toNat_natCast, decide_eq_true_iff] at h2 ⊢
       rw [hw, if_neg (by omega)]; omega
theorem nodup_among : ∀ {K A : List (List Itm)}, K.Nodup -> (∀ t ∈ K, t ∈ A) -> K.length <= A.length
 | [], A, _, _ => Nat.zero_le _
 | k :: K, A, h, hs => by
  obtain ⟨h1, h2⟩ := List.nodup_cons.1 h
  have hk := hs k (List.mem_cons_self ..)
  have := nodup_among (A := A.erase k) h2 fun t ht => by
   have hne : t ≠ k := fun e => h1 (e ▸ ht)
   exact (List.mem_erase_of_ne hne).2 (hs t (List.mem_cons_of_mem _ ht))
  rw [List.length_erase_of_mem hk] at this
  have := List.length_pos_of_mem hk
  rw [List.length_cons]; omega
theorem HdsOf.more {l : List Nd} {x : Itm} {n m : Nat} (h : HdsOf l x n) (hm : n <= m) : HdsOf l x m := by
 obtain ⟨A, h1, h2⟩ := h
 exact ⟨A, Nat.le_trans h1 hm, h2⟩
theorem hsz_le {l : List Nd} {i : Nat} (hi : i < l.length) : hsz l i <= l.length := by unfold hsz; omega
theorem item_heads {l : List Nd} (hR : Rgt l) {x : Itm} (hx : HdF l x) : HdsOf l x l.length := by
 obtain ⟨k, nd, lo, hi⟩ := x
 have hkd := hx.kind
 simp only at hkd
 have hpos := hR.1.1
 by_cases k5 : k = 5
 ·subst k5
  refine ⟨[], Nat.zero_le _, fun f r t ht => .inr ?_⟩
  rcases rchF_cons ht with ⟨h, -⟩ | ⟨-, g, q, hq, htq⟩
  ·unfold rdyS at h; simp at h
  ·unfold opnS at hq
   simp at hq
   exact ⟨by unfold nuI; simp [hq.1], g, by rw [<- hq.2]; exact htq⟩
 ·obtain ⟨n0, n1⟩ := hx.node k5
  simp only at n0 n1
  obtain ⟨i, rfl⟩ : ∃ i : Nat, nd = (i : Int) := ⟨nd.toNat, by omega⟩
  have hil : i < l.length := by omega
  by_cases k1 : k = 1
  ·subst k1
   obtain ⟨l0, l1⟩ := hx.one rfl
   simp only at l0 l1
   subst l0; subst l1
   exact (node_heads hR i hil).more (hsz_le hil)
  ·by_cases k2 : k = 2
   ·subst k2
    obtain ⟨t7, -, -, -⟩ := hx.two rfl
    simp only [Int.toNat_natCast] at t7
    obtain ⟨m0, m1, m2, m3⟩ := hd_never hR hil (.inr t7)
    have hA := node_heads hR (atN l i).a.toNat (by omega)
    rw [show (((atN l i).a.toNat : Nat) : Int) = (atN l i).a by omega] at hA
    exact (times_heads hR hil t7 hA lo hi).more (hsz_le (by omega))
   ·refine hds_self (fun r => ?_) hpos
    unfold rdyS
    rcases (by omega : k = 3 \/ k = 4) with rfl | rfl <;> simp
theorem state_heads {l : List Nd} (hR : Rgt l) : ∀ (s : List Itm), (∀ y ∈ s, HdF l y) -> ∃ A : List (List Itm), A.length <= s.length * l.length + 1 /\ ∀ f t, t ∈ rchF l f s -> t ∈ A
 | [], _ => ⟨[[]], by simp, fun f t ht => by cases f <;> exact ht⟩
 | x :: r, hs => by
  obtain ⟨A, h1, h2⟩ := item_heads hR (hs x (List.mem_cons_self ..))
  obtain ⟨B, h3, h4⟩ := state_heads hR r fun y hy => hs y (List.mem_cons_of_mem _ hy)
  refine ⟨A.map (· ++ r) ++ B, ?_, fun f t ht => ?_⟩
  ·rw [List.length_append, List.length_map, List.length_cons, Nat.succ_mul]; omega
  ·rcases h2 f r t ht with ⟨a, ha, e⟩ | ⟨-, g, hg⟩
   ·exact List.mem_append.2 (.inl (List.mem_map.2 ⟨a, ha, e.symm⟩))
   ·exact List.mem_append.2 (.inr (h4 g t hg))
theorem hds_len {l : List Nd} (hR : Rgt l) {s : List Itm} (hs : ∀ y ∈ s, HdF l y) : (hdsL l s).length <= s.length * l.length + 1 := by
 obtain ⟨A, h1, h2⟩ := state_heads hR s hs
 have h3 := nodup_among (srt_nodup (hds_srt l s)) (A := A) fun t ht => h2 _ t ((brsL_keys _ _).1 ht)
 rw [List.length_map] at h3
 omega
def appR (l : List Nd) (A t : List Itm) : List (List Itm) := if t = [] then rchS l A else [t ++ A]
theorem rdy_app (l : List Nd) (x : Itm) (r A : List Itm) : rdyS l (x :: (r ++ A)) = rdyS l (x :: r) := rfl
theorem opn_app (l : List Nd) (x : Itm) (r A : List Itm) : opnS l x (r ++ A) = (opnS l x r).map (· ++ A) := by
 unfold opnS
 simp only
 repeat' split
 all_goals simp
theorem hd_app {l : List Nd} {s A : List Itm} (hs : ∀ y ∈ s, HdF l y) (hA : ∀ y ∈ A, HdF l y) : ∀ y ∈ s ++ A, HdF l y := fun y hy => by
 rcases List.mem_append.1 hy with h | h
 ·exact hs y h
 ·exact hA y h
theorem flatMap_map' {α β γ : Type} (L : List α) (f : α -> β) (g : β -> List γ) : (L.map f).flatMap g = L.flatMap fun a => g (f a) := by
 induction L with
 | nil => rfl
 | cons a t ih => rw [List.map_cons, List.flatMap_cons, List.flatMap_cons, ih]
theorem rch_app {l : List Nd} (hR : Rgt l) {A : List Itm} (hA : ∀ y ∈ A, HdF l y) : ∀ (n : Nat) (s : List Itm), dpS l s <= n -> (∀ y ∈ s, HdF l y) -> rchS l (s ++ A) = (rchS l s).flatMap (appR l A) := fun n => by
 induction n with
 | zero =>
  intro s hn hs
  cases s with
  | nil => rw [rch_ready (l := l) (s := []) rfl, List.flatMap_singleton]; unfold appR; rw [if_pos rfl]; rfl
  | cons x r =>
   cases hd : rdyS l (x :: r) with
   | true =>
    rw [rch_ready hd, List.flatMap_singleton, List.cons_append, rch_ready (by rw [rdy_app]; exact hd)]
    unfold appR; rw [if_neg (by simp)]; rfl
   | false =>
    have h0 : opnS l x r = [] := List.eq_nil_iff_forall_not_mem.2 fun t ht => by
     have := opn_lt hR (hs x (List.mem_cons_self ..)) hd ht
     omega
    rw [rch_open hR hs hd, List.cons_append, rch_open hR (by rw [<- List.cons_append]; exact hd_app hs hA) (by rw [rdy_app]; exact hd), opn_app, h0]
    rfl
 | succ n ih =>
  intro s hn hs
  cases s with
  | nil => rw [rch_ready (l := l) (s := []) rfl, List.flatMap_singleton]; unfold appR; rw [if_pos rfl]; rfl
  | cons x r =>
   cases hd : rdyS l (x :: r) with
   | true =>
    rw [rch_ready hd, List.flatMap_singleton, List.cons_append, rch_ready (by rw [rdy_app]; exact hd)]
    unfold appR; rw [if_neg (by simp)]; rfl
   | false =>
    have hx := hs x (List.mem_cons_self ..)
    have hr : ∀ y ∈ r, HdF l y := fun y hy => hs y (List.mem_cons_of_mem _ hy)
    rw [rch_open hR hs hd, List.cons_append, rch_open hR (by rw [<- List.cons_append]; exact hd_app hs hA) (by rw [rdy_app]; exact hd), opn_app, flatMap_map', List.flatMap_assoc]
    refine flatMap_congr_mem fun t ht => ?_
    have hlt := opn_lt hR hx hd ht
    exact ih t (by omega) (opn_form hR.1 hx hr ht)
def hitF (R : List (List Itm)) (A t : List Itm) : Nat := ((R.filter fun u => decide (u ≠ [])).map (· ++ A)).count t
def nilF (R : List (List Itm)) : Nat := R.count []
theorem hit_nil (A t : List Itm) : hitF [] A t = 0 := rfl
theorem hit_app (R S : List (List Itm)) (A t : List Itm) : hitF (R ++ S) A t = hitF R A t + hitF S A t := by
 unfold hitF; rw [List.filter_append, List.map_append, List.count_append]
theorem nil_app (R S : List (List Itm)) : nilF (R ++ S) = nilF R + nilF S := by unfold nilF; rw [List.count_append]
theorem hit_cons (u : List Itm) (R : List (List Itm)) (A t : List Itm) : hitF (u :: R) A t = hitF [u] A t + hitF R A t := hit_app [u] R A t
theorem nil_cons (u : List Itm) (R : List (List Itm)) : nilF (u :: R) = nilF [u] + nilF R := nil_app [u] R
theorem hit_one (u A t : List Itm) : hitF [u] A t = if u = [] then 0 else if u ++ A = t then 1 else 0 := by
 unfold hitF
 by_cases h : u = []
 ·simp [h]
 ·simp [h, List.count_singleton]
theorem nil_one (u : List Itm) : nilF [u] = if u = [] then 1 else 0 := by
 unfold nilF; rw [List.count_singleton]
 by_cases h : u = [] <;> simp [h]
theorem hit_step {l : List Nd} (hR : Rgt l) {x : Itm} {r : List Itm} (hx : HdF l x) (hr : ∀ y ∈ r, HdF l y) (A t : List Itm) :
 hitF (rchS l (x :: r)) A t = hitF (rchS l [x]) (r ++ A) t + nilF (rchS l [x]) * hitF (rchS l r) A t /\ nilF (rchS l (x :: r)) = nilF (rchS l [x]) * nilF (rchS l r) := by
 have e := rch_app hR (A := r) hr _ [x] (Nat.le_refl _) (fun y hy => by rw [List.mem_singleton.1 hy]; exact hx)
 rw [List.singleton_append] at e
 rw [e]
 generalize rchS l [x] = R
 induction R with
 | nil => simp [hit_nil, nilF]
 | cons u R ih =>
  rw [List.flatMap_cons, hit_app, nil_app, ih.1, ih.2, hit_cons u R, nil_cons u R, hit_one, nil_one]
  unfold appR
  by_cases h : u = []
  ·rw [if_pos h, if_pos h, if_pos h, Nat.add_mul, Nat.add_mul, Nat.one_mul, Nat.one_mul]
   omega
  ·have hne : u ++ r ≠ [] := by simp [h]
   rw [if_neg h, if_neg h, if_neg h, hit_one, nil_one, if_neg hne, if_neg hne, List.append_assoc]
   simp only [Nat.zero_add]
   exact ⟨by omega, trivial⟩
theorem hit_end {l : List Nd} (A t : List Itm) : hitF (rchS l []) A t = 0 /\ nilF (rchS l []) = 1 := by
 rw [rch_ready (l := l) (s := []) rfl]
 exact ⟨by rw [hit_one, if_pos rfl], rfl⟩
theorem hit_ready {l : List Nd} {x : Itm} (h : rdyS l [x] = true) (A t : List Itm) : hitF (rchS l [x]) A t = (if x :: A = t then 1 else 0) /\ nilF (rchS l [x]) = 0 := by
 have hne : [x] ≠ [] := by simp
 rw [rch_ready h, hit_one, nil_one, if_neg hne, if_neg hne]
 exact ⟨rfl, rfl⟩
theorem hit_all (R : List (List Itm)) (t : List Itm) : hitF R [] t + (if t = [] then nilF R else 0) = R.count t := by
 induction R with
 | nil => simp [hit_nil, nilF]
 | cons u R ih =>
  rw [hit_cons, nil_cons, hit_one, nil_one, List.count_cons, <- ih, List.append_nil]
  have hb : ((u == t) = true) = (u = t) := by simp
  simp only [hb]
  by_cases h : u = [] <;> by_cases ht : t = []
  ·subst h; subst ht; simp; omega
  ·subst h; rw [if_pos rfl, if_pos rfl, if_neg ht, if_neg ht, if_neg (fun e => ht e.symm)]; omega
  ·subst ht; simp [h]
  ·rw [if_neg h, if_neg h, if_neg ht, if_neg ht]; omega
theorem hsat_mul (p q b : Nat) : min 2 (min 2 p + min 2 q * b) = min 2 (p + q * b) := by
 rcases Nat.eq_zero_or_pos b with rfl | hb
 ·simp
 ·by_cases hq : q <= 2
  ·rw [Nat.min_eq_right hq]
   by_cases hp : p <= 2
   ·rw [Nat.min_eq_right hp]
   ·rw [Nat.min_eq_left (by omega : 2 <= p)]; omega
  ·rw [Nat.min_eq_left (by omega : 2 <= q)]
   have h1 : q * b >= 2 * b := Nat.mul_le_mul_right b (by omega)
   omega
theorem sat_one (q b : Nat) : min 2 (min 2 q * b) = min 2 (q * b) := by have := hsat_mul 0 q b; simpa using this
theorem pass_round {l : List Nd} (hR : Rgt l) {x : Itm} {r : List Itm} (hx : HdF l x) (hr : ∀ y ∈ r, HdF l y) (A t : List Itm) {h w : Nat} :
 min 2 (min 2 (h + w * hitF (rchS l [x]) (r ++ A) t) + min 2 (w * nilF (rchS l [x])) * hitF (rchS l r) A t) = min 2 (h + w * hitF (rchS l (x :: r)) A t)
 /\ min 2 (min 2 (w * nilF (rchS l [x])) * nilF (rchS l r)) = min 2 (w * nilF (rchS l (x :: r))) := by
 obtain ⟨h1, h2⟩ := hit_step hR hx hr A t
 rw [hsat_mul, sat_one, h1, h2, Nat.mul_add, <- Nat.mul_assoc, <- Nat.mul_assoc, Nat.add_assoc]
 exact ⟨rfl, rfl⟩
def rwI (l : List Nd) (x : Itm) : List (List Itm) := opnS l x []
theorem rwI_opn (l : List Nd) (x : Itm) (r : List Itm) : opnS l x r = (rwI l x).map (· ++ r) := by
 have := opn_app l x [] r
 rwa [List.nil_append] at this
theorem rch_one {l : List Nd} (hR : Rgt l) {x : Itm} (hx : HdF l x) (h : rdyS l [x] = false) : rchS l [x] = (rwI l x).flatMap (rchS l) :=
 rch_open hR (fun y hy => by rw [List.mem_singleton.1 hy]; exact hx) h
theorem rw_form {l : List Nd} (hF : Form l) {x : Itm} (hx : HdF l x) {t : List Itm} (ht : t ∈ rwI l x) : ∀ y ∈ t, HdF l y := opn_form hF hx (fun y hy => by cases hy) ht
theorem hit_flat {l : List Nd} (u : List Itm) (T : List (List Itm)) (A t : List Itm) : hitF ((u :: T).flatMap (rchS l)) A t = hitF (rchS l u) A t + hitF (T.flatMap (rchS l)) A t /\ nilF ((u :: T).flatMap (rchS l)) = nilF (rchS l u) + nilF (T.flatMap (rchS l)) := by
 rw [List.flatMap_cons, hit_app, nil_app]; exact ⟨rfl, rfl⟩
theorem row_round {l : List Nd} (u : List Itm) (T : List (List Itm)) (A t : List Itm) {h w p : Nat} :
 min 2 (min 2 (h + w * hitF (rchS l u) A t) + w * hitF (T.flatMap (rchS l)) A t) = min 2 (h + w * hitF ((u :: T).flatMap (rchS l)) A t)
 /\ min 2 ((p + min 2 (w * nilF (rchS l u))) + w * nilF (T.flatMap (rchS l))) = min 2 (p + w * nilF ((u :: T).flatMap (rchS l))) := by
 obtain ⟨h1, h2⟩ := hit_flat (l := l) u T A t
 rw [h1, h2, Nat.mul_add, Nat.mul_add]
 constructor <;> omega
theorem rw_len (l : List Nd) (x : Itm) : (rwI l x).length <= 2 /\ ∀ t ∈ rwI l x, t.length <= 2 := by
 unfold rwI opnS
 simp only
 repeat' split
 all_goals simp
theorem nu_nil {l : List Nd} (hR : Rgt l) {x : Itm} (hx : HdF l x) (h : nilF (rchS l [x]) ≠ 0) : nuI l x = true := by
 have h1 := rch_nothing hR _ [x] (Nat.le_refl _) (fun y hy => by rw [List.mem_singleton.1 hy]; exact hx)
 have h2 : wyS l [x] = min 2 (wyI l x * 1) := rfl
 unfold nilF at h
 have h3 : wyI l x ≠ 0 := by rw [h2] at h1; intro e; rw [e] at h1; omega
 unfold wyI at h3
 unfold nuI
 by_cases k1 : x.kind = 1
 ·rw [if_pos k1] at h3 ⊢; simpa using h3
 ·rw [if_neg k1] at h3 ⊢
  by_cases k2 : x.kind = 2 \/ x.kind = 5
  ·rw [if_pos k2] at h3 ⊢
   by_cases h0 : x.lo = 0
   ·simp [h0]
   ·rw [if_neg h0] at h3; omega
  ·rw [if_neg k2] at h3; omega
def dpR (l : List Nd) (T : List (List Itm)) : Nat := (T.map (dpS l)).sum
theorem dpR_cons (l : List Nd) (u : List Itm) (T : List (List Itm)) : dpR l (u :: T) = dpS l u + dpR l T := by unfold dpR; rw [List.map_cons, List.sum_cons]
theorem opn_sum {l : List Nd} (hR : Rgt l) {x : Itm} (hx : HdF l x) (hrd : rdyS l [x] = false) : 1 + dpR l (rwI l x) <= csI l x := by
 obtain ⟨k, nd, lo, hi⟩ := x
 have hkd := hx.kind
 simp only at hkd
 have d0 : dpS l [] = 0 := rfl
 have dn : ∀ a : Int, dpS l [⟨1, a, 0, 0⟩] = 2 * hsz l a.toNat := fun a => by rw [dp_node, d0]; split <;> rfl
 unfold rwI opnS
 simp only
 by_cases k5 : k = 5
 ·rw [if_pos k5]
  subst k5
  have hc : csI l ⟨5, nd, lo, hi⟩ = 1 := by unfold csI; simp
  rw [hc]
  split <;> simp [dpR, d0]
 ·rw [if_neg k5]
  obtain ⟨n0, n1⟩ := hx.node k5
  simp only at n0 n1
  obtain ⟨i, rfl⟩ : ∃ i : Nat, nd = (i : Int) := ⟨nd.toNat, by omega⟩
  rw [Int.toNat_natCast]
  have hil : i < l.length := by omega
  by_cases k2 : k = 2
  ·rw [if_pos k2]
   subst k2
   obtain ⟨t7, -, -, -⟩ := hx.two rfl
   simp only [Int.toNat_natCast] at t7
   obtain ⟨m0, m1, m2, m3⟩ := hd_never hR hil (.inr t7)
   have hp := hsz_pos l (atN l i).a.toNat
   have hc : csI l ⟨2, (i : Int), lo, hi⟩ = 2 * hsz l i - 1 := by unfold csI; simp
   have ha : dpS l [⟨1, (atN l i).a, 0, 0⟩, ⟨2, (i : Int), max 0 (lo - 1), hi - 1⟩] = 2 * hsz l (atN l i).a.toNat := by rw [dp_node, if_neg (by omega), Nat.add_zero]
   rw [hc]
   by_cases h0 : lo = 0 <;> by_cases h1 : 0 < hi
   ·rw [if_pos h0, if_pos h1]; simp only [dpR, List.map_append, List.map_cons, List.map_nil, List.sum_append, List.sum_cons, List.sum_nil, d0, ha]; omega
   ·rw [if_pos h0, if_neg h1]; simp only [dpR, List.map_append, List.map_cons, List.map_nil, List.sum_append, List.sum_cons, List.sum_nil, d0]; omega
   ·rw [if_neg h0, if_pos h1]; simp only [dpR, List.map_append, List.map_cons, List.map_nil, List.sum_append, List.sum_cons, List.sum_nil, ha]; omega
   ·rw [if_neg h0, if_neg h1]; simp only [dpR, List.map_append, List.map_cons, List.map_nil, List.sum_append, List.sum_cons, List.sum_nil]; omega
  ·rw [if_neg k2]
   by_cases k1 : k = 1
   ·subst k1
    obtain ⟨l0, l1⟩ := hx.one rfl
    simp only at l0 l1
    subst l0; subst l1
    have hc : csI l ⟨1, (i : Int), 0, 0⟩ = 2 * hsz l i := by unfold csI; simp
    rw [hc]
    have hp := hsz_pos l i
    cases hcs : hd_cs hR.1 hil with
    | leaf h1 hf =>
     unfold leafK at h1
     by_cases a1 : (atN l i).kind = 1
     ·rw [if_pos a1]; simp [dpR, d0]; omega
     ·rw [if_neg a1]
      by_cases a3 : (atN l i).kind = 3
      ·rw [if_pos a3]; simp [dpR, dp_text]; omega
      ·rw [if_neg a3, if_neg (by omega), if_neg (by omega), if_neg (by omega), if_neg (by omega)]; simp [dpR]; omega
    | one h1 hi0 ha hb h7 hr hcl hf =>
     rw [if_neg (by omega), if_neg (by omega), if_neg (by omega), if_neg (by omega)]
     by_cases a6 : (atN l i).kind = 6
     ·rw [if_pos a6]
      obtain ⟨m0, m1, m2, m3⟩ := hd_never hR hil (.inl a6)
      have ha : dpS l [⟨1, (atN l i).a, 0, 0⟩, ⟨1, (i : Int), 0, 0⟩] = 2 * hsz l (atN l i).a.toNat := by rw [dp_node, if_neg (by omega), Nat.add_zero]
      simp only [dpR, List.map_cons, List.map_nil, List.sum_cons, List.sum_nil, d0, ha]; omega
     ·rw [if_neg a6]
      by_cases a7 : (atN l i).kind = 7
      ·rw [if_pos a7]
       have ha : dpS l [⟨2, (i : Int), (atN l i).lo, (atN l i).hi⟩] = 2 * hsz l i - 1 := by rw [dp_times, d0, Int.toNat_natCast]; split <;> rfl
       simp only [dpR, List.map_cons, List.map_nil, List.sum_cons, List.sum_nil, ha]; omega
      ·rw [if_neg a7]; simp [dpR]; omega
    | two h1 hi0 hb ha hf0 hl hcl hf =>
     obtain ⟨p, hp2⟩ : ∃ p : Nat, (atN l i).a = (p : Int) := ⟨(atN l i).a.toNat, by omega⟩
     have hfl := firstP_le l (i - 1)
     have hfp : firstP l i = firstP l p := by rw [hf]; congr 1; omega
     have hfq := firstP_le l p
     have hszi : hsz l i = hsz l p + hsz l (i - 1) + 1 := by unfold hsz; omega
     have hbn : (atN l i).b.toNat = i - 1 := by omega
     have ean : (atN l i).a.toNat = p := by omega
     rw [if_neg (by omega), if_neg (by omega)]
     rcases h1 with a4 | a5
     ·rw [if_pos a4]
      have ha : dpS l [⟨1, (atN l i).a, 0, 0⟩, ⟨1, (atN l i).b, 0, 0⟩] <= 2 * hsz l p + 2 * hsz l (i - 1) := by
       rw [dp_node, dn, hbn, ean]; split <;> omega
      simp only [dpR, List.map_cons, List.map_nil, List.sum_cons, List.sum_nil]; omega
     ·rw [if_neg (by omega), if_pos a5]
      simp only [dpR, List.map_cons, List.map_nil, List.sum_cons, List.sum_nil, dn, hbn, ean]; omega
   ·exfalso
    unfold rdyS at hrd
    simp only [Bool.or_eq_false_iff, decide_eq_false_iff_not] at hrd
    omega
theorem cs_le {l : List Nd} (h0 : 0 < l.length) {x : Itm} (hx : HdF l x) : csI l x <= 2 * l.length := by
 unfold csI
 by_cases k5 : x.kind = 5
 ·rw [if_neg (by omega), if_neg (by omega), if_pos k5]; omega
 ·obtain ⟨n0, n1⟩ := hx.node k5
  have : hsz l x.node.toNat <= l.length := by unfold hsz; omega
  repeat' split
  all_goals omega
end Go.Proofs.Ytidoofdofdhjpaa
