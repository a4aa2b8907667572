/- What HeadsReady, HeadsOpen and HeadsWays ask: the plain mathematics. -/
import Derived.Test.YtidoofdofdhjpaaM20
namespace Go.Proofs.Ytidoofdofdhjpaa
open Go
set_option linter.unusedVariables false
set_option linter.unusedSimpArgs false

theorem rchS_ok {l : List Nd} (hF : Form l) {s : List Itm} (hs : ∀ y ∈ s, HdF l y) {t : List Itm} (ht : t ∈ rchS l s) : rdyS l t = true ∧ (∀ y ∈ t, HdF l y) ∧ ((∀ y ∈ s, y.kind ≠ 5) → ∀ y ∈ t, y.kind ≠ 5) := rch_ok hF _ s hs t ht
/-- Each head is ready, and has its form. -/
theorem hds_ok {l : List Nd} (hF : Form l) {s : List Itm} (hs : ∀ y ∈ s, HdF l y) {a : List Itm × Nat} (ha : a ∈ hdsL l s) : rdyS l a.1 = true ∧ (∀ y ∈ a.1, HdF l y) ∧ 1 ≤ a.2 ∧ a.2 ≤ 2 := by
  have h1 : a.1 ∈ rchS l s := (brsL_keys _ _).1 (List.mem_map.2 ⟨a, ha, rfl⟩)
  have h2 := rchS_ok hF hs h1
  have h3 := hds_pos l s a ha
  exact ⟨h2.1, h2.2.1, h3.1, h3.2⟩
end Go.Proofs.Ytidoofdofdhjpaa
/- A state's heads are those of all that it opens to, their ways added. -/
namespace Go.Proofs.Ytidoofdofdhjpaa
open Go
set_option linter.unusedVariables false
set_option linter.unusedSimpArgs false

end Go.Proofs.Ytidoofdofdhjpaa
/- How many heads there may be: no more than nodes, for each item. -/
namespace Go.Proofs.Ytidoofdofdhjpaa
open Go
set_option linter.unusedVariables false
set_option linter.unusedSimpArgs false

/-- What is reached from an item ahead of others: one of so many beginnings ahead of them, or, if nothing may be read of it, what is reached from them. -/
def HdsOf (l : List Nd) (x : Itm) (n : Nat) : Prop := ∃ A : List (List Itm), A.length ≤ n ∧ ∀ f r t, t ∈ rchF l f (x :: r) → (∃ a ∈ A, t = a ++ r) ∨ (nuI l x = true ∧ ∃ g, t ∈ rchF l g r)
theorem rchF_cons {l : List Nd} {f : Nat} {x : Itm} {r t : List Itm} (h : t ∈ rchF l f (x :: r)) : (rdyS l (x :: r) = true ∧ t = x :: r) ∨ (rdyS l (x :: r) = false ∧ ∃ g, ∃ q ∈ opnS l x r, t ∈ rchF l g q) := by
  cases hd : rdyS l (x :: r) with
  | true =>
    left
    cases f with
    | zero => unfold rchF at h; rw [if_pos hd] at h; exact ⟨rfl, List.mem_singleton.1 h⟩
    | succ f => unfold rchF at h; rw [if_pos hd] at h; exact ⟨rfl, List.mem_singleton.1 h⟩
  | false =>
    right
    have hne : rdyS l (x :: r) ≠ true := by rw [hd]; simp
    cases f with
    | zero => unfold rchF at h; rw [if_neg hne] at h; cases h
    | succ f =>
      unfold rchF at h; rw [if_neg hne] at h
      obtain ⟨q, hq, ht⟩ := List.mem_flatMap.1 h
      exact ⟨rfl, f, q, hq, ht⟩
theorem hds_self {l : List Nd} {x : Itm} (h : ∀ r, rdyS l (x :: r) = true) {n : Nat} (hn : 0 < n) : HdsOf l x n := ⟨[[x]], hn, fun f r t ht => by
  rcases rchF_cons ht with ⟨-, e⟩ | ⟨h2, -⟩
  · exact .inl ⟨[x], List.mem_singleton.2 rfl, e⟩
  · rw [h r] at h2; cases h2⟩
theorem nu_node (l : List Nd) (i : Int) : nuI l ⟨1, i, 0, 0⟩ = decide (wyN l i.toNat ≠ 0) := by unfold nuI; simp
theorem nu_times (l : List Nd) (i lo hi : Int) : nuI l ⟨2, i, lo, hi⟩ = decide (lo = 0) := by unfold nuI; simp
/-- .. from times of a part. -/
theorem times_heads {l : List Nd} (hR : Rgt l) {i : Nat} (hi : i < l.length) (h7 : (atN l i).kind = 7) {n : Nat} (hA : HdsOf l ⟨1, (atN l i).a, 0, 0⟩ n) (lo hi_ : Int) : HdsOf l ⟨2, (i : Int), lo, hi_⟩ n := by
  obtain ⟨A, hn, hA⟩ := hA
  obtain ⟨m0, m1, m2, m3⟩ := hd_never hR hi (.inr h7)
  refine ⟨A.map (· ++ [⟨2, (i : Int), max 0 (lo - 1), hi_ - 1⟩]), by rw [List.length_map]; exact hn, fun f r t ht => ?_⟩
  rcases rchF_cons ht with ⟨h1, -⟩ | ⟨-, g, q, hq, htq⟩
  · unfold rdyS at h1; simp at h1
  · unfold opnS at hq
    simp at hq
    rcases hq with ⟨h0, e⟩ | ⟨h0, e⟩
    · subst e
      exact .inr ⟨by rw [nu_times, h0]; rfl, g, htq⟩
    · subst e
      rcases hA g _ t htq with ⟨a, ha, e⟩ | ⟨h2, -⟩
      · exact .inl ⟨a ++ [⟨2, (i : Int), max 0 (lo - 1), hi_ - 1⟩], List.mem_map.2 ⟨a, ha, rfl⟩, by rw [e]; simp⟩
      · rw [nu_node, m0] at h2; simp at h2
/-- .. from a node. -/
theorem node_heads {l : List Nd} (hR : Rgt l) : ∀ i : Nat, i < l.length → HdsOf l ⟨1, (i : Int), 0, 0⟩ (hsz l i) := fun i => by
  induction i using Nat.strongRecOn with
  | ind i ih =>
    intro hi
    have hp := hsz_pos l i
    have nr : ∀ r, rdyS l (⟨1, (i : Int), 0, 0⟩ :: r) = (decide ((atN l i).kind = 2) || decide ((atN l i).kind = 8) || decide ((atN l i).kind = 9)) := fun r => by unfold rdyS; simp
    have op : ∀ r, opnS l ⟨1, (i : Int), 0, 0⟩ r = if (atN l i).kind = 1 then [r] else if (atN l i).kind = 3 then [⟨3, (i : Int), 0, 0⟩ :: r] else if (atN l i).kind = 4 then [⟨1, (atN l i).a, 0, 0⟩ :: ⟨1, (atN l i).b, 0, 0⟩ :: r]
        else if (atN l i).kind = 5 then [⟨1, (atN l i).a, 0, 0⟩ :: r, ⟨1, (atN l i).b, 0, 0⟩ :: r] else if (atN l i).kind = 6 then [r, ⟨1, (atN l i).a, 0, 0⟩ :: ⟨1, (i : Int), 0, 0⟩ :: r] else if (atN l i).kind = 7 then [⟨2, (i : Int), (atN l i).lo, (atN l i).hi⟩ :: r] else [] := fun r => by unfold opnS; simp
    cases hd_cs hR.1 hi with
    | leaf h1 hf =>
      unfold leafK at h1
      have hw := wyN_leaf (l := l) (i := i) h1
      unfold leafW at hw
      by_cases a2 : (atN l i).kind = 2
      · exact hds_self (fun r => by rw [nr, a2]; rfl) hp
      · by_cases a1 : (atN l i).kind = 1
        · refine ⟨[], Nat.zero_le _, fun f r t ht => .inr ?_⟩
          rcases rchF_cons ht with ⟨h, -⟩ | ⟨-, g, q, hq, htq⟩
          · rw [nr, a1] at h; simp at h
          · rw [op, if_pos a1] at hq
            rw [List.mem_singleton.1 hq] at htq
            exact ⟨by rw [nu_node, Int.toNat_natCast, hw, if_pos a1]; rfl, g, htq⟩
        · have a3 : (atN l i).kind = 3 := by omega
          refine ⟨[[⟨3, (i : Int), 0, 0⟩]], hp, fun f r t ht => .inl ?_⟩
          rcases rchF_cons ht with ⟨h, -⟩ | ⟨-, g, q, hq, htq⟩
          · rw [nr, a3] at h; simp at h
          · rw [op, if_neg a1, if_pos a3] at hq
            rw [List.mem_singleton.1 hq] at htq
            rcases rchF_cons htq with ⟨-, e⟩ | ⟨h, -⟩
            · exact ⟨_, List.mem_singleton.2 rfl, e⟩
            · unfold rdyS at h; simp at h
    | one h1 hi0 ha hb h7 hr hcl hf =>
      have hw := wyN_one hi0 h1 ha
      by_cases a8 : (atN l i).kind = 8 ∨ (atN l i).kind = 9
      · exact hds_self (fun r => by rw [nr]; rcases a8 with h | h <;> rw [h] <;> rfl) hp
      · have a67 : (atN l i).kind = 6 ∨ (atN l i).kind = 7 := by omega
        obtain ⟨m0, m1, m2, m3⟩ := hd_never hR hi a67
        have hA := ih (atN l i).a.toNat (by omega) (by omega)
        rw [show (((atN l i).a.toNat : Nat) : Int) = (atN l i).a by omega] at hA
        rcases a67 with a6 | a7
        · obtain ⟨A, hn, hA⟩ := hA
          refine ⟨A.map (· ++ [⟨1, (i : Int), 0, 0⟩]), by rw [List.length_map]; omega, fun f r t ht => ?_⟩
          rcases rchF_cons ht with ⟨h, -⟩ | ⟨-, g, q, hq, htq⟩
          · rw [nr, a6] at h; simp at h
          · rw [op, if_neg (by omega), if_neg (by omega), if_neg (by omega), if_neg (by omega), if_pos a6] at hq
            have m0' : wyN l (i - 1) = 0 := by rw [show i - 1 = (atN l i).a.toNat by omega]; exact m0
            rcases List.mem_cons.1 hq with e | e
            · subst e
              exact .inr ⟨by rw [nu_node, Int.toNat_natCast, hw, m0']; unfold oneW; rw [if_pos a6]; rfl, g, htq⟩
            · rw [List.mem_singleton.1 e] at htq
              rcases hA g _ t htq with ⟨a, ha2, e2⟩ | ⟨h2, -⟩
              · exact .inl ⟨a ++ [⟨1, (i : Int), 0, 0⟩], List.mem_map.2 ⟨a, ha2, rfl⟩, by rw [e2]; simp⟩
              · rw [nu_node, m0] at h2; simp at h2
        · obtain ⟨A, hn, hA⟩ := times_heads hR hi a7 hA (atN l i).lo (atN l i).hi
          refine ⟨A, by omega, fun f r t ht => ?_⟩
          rcases rchF_cons ht with ⟨h, -⟩ | ⟨-, g, q, hq, htq⟩
          · rw [nr, a7] at h; simp at h
          · rw [op, if_neg (by omega), if_neg (by omega), if_neg (by omega), if_neg (by omega), if_neg (by omega), if_pos a7] at hq
            rw [List.mem_singleton.1 hq] at htq
            rcases hA g r t htq with h | ⟨h2, h3⟩
            · exact .inl h
            · refine .inr ⟨?_, h3⟩
              rw [nu_times, decide_eq_true_iff] at h2
              rw [nu_node, Int.toNat_natCast, decide_eq_true_iff, hw]
              unfold oneW
              rw [if_neg (by omega), if_pos a7]
              unfold tmsW powW
              rw [if_pos h2]; omega
    | two h1 hi0 hb ha hf0 hl hcl hf =>
      obtain ⟨p, hp2⟩ : ∃ p : Nat, (atN l i).a = (p : Int) := ⟨(atN l i).a.toNat, by omega⟩
      have hfl := firstP_le l (i - 1)
      have hw := wyN_two hi0 h1 hp2 (by omega) hb
      have hfp : firstP l i = firstP l p := by rw [hf]; congr 1; omega
      have hfq := firstP_le l p
      have hsz2 : hsz l i = hsz l p + hsz l (i - 1) + 1 := by unfold hsz; omega
      obtain ⟨A, hn1, hA⟩ := ih p (by omega) (by omega)
      obtain ⟨B, hn2, hB⟩ := ih (i - 1) (by omega) (by omega)
      have hbi : (atN l i).b = ((i - 1 : Nat) : Int) := by omega
      unfold twoW at hw
      rcases h1 with a4 | a5
      · refine ⟨A.map (· ++ [⟨1, ((i - 1 : Nat) : Int), 0, 0⟩]) ++ B, by rw [List.length_append, List.length_map]; omega, fun f r t ht => ?_⟩
        rcases rchF_cons ht with ⟨h, -⟩ | ⟨-, g, q, hq, htq⟩
        · rw [nr, a4] at h; simp at h
        · rw [op, if_neg (by omega), if_neg (by omega), if_pos a4, hp2, hbi] at hq
          rw [List.mem_singleton.1 hq] at htq
          rcases hA g _ t htq with ⟨a, ha2, e2⟩ | ⟨h2, g2, h3⟩
          · exact .inl ⟨a ++ [⟨1, ((i - 1 : Nat) : Int), 0, 0⟩], List.mem_append.2 (.inl (List.mem_map.2 ⟨a, ha2, rfl⟩)), by rw [e2]; simp⟩
          · rcases hB g2 r t h3 with ⟨b, hb2, e2⟩ | ⟨h4, h5⟩
            · exact .inl ⟨b, List.mem_append.2 (.inr hb2), e2⟩
            · refine .inr ⟨?_, h5⟩
              rw [nu_node, Int.toNat_natCast, decide_eq_true_iff] at h2 h4 ⊢
              rw [hw, if_pos a4]
              have : 0 < wyN l p * wyN l (i - 1) := Nat.mul_pos (by omega) (by omega)
              omega
      · refine ⟨A ++ B, by rw [List.length_append]; omega, fun f r t ht => ?_⟩
        rcases rchF_cons ht with ⟨h, -⟩ | ⟨-, g, q, hq, htq⟩
        · rw [nr, a5] at h; simp at h
        · rw [op, if_neg (by omega), if_neg (by omega), if_neg (by omega), if_pos a5, hp2, hbi] at hq
          rcases List.mem_cons.1 hq with e | e
          · rw [e] at htq
            rcases hA g _ t htq with ⟨a, ha2, e2⟩ | ⟨h2, h3⟩
            · exact .inl ⟨a, List.mem_append.2 (.inl ha2), e2⟩
            · refine .inr ⟨?_, h3⟩
              rw [nu_node, Int.toNat_natCast, decide_eq_true_iff] at h2 ⊢
              rw [hw, if_neg (by omega)]; omega
          · rw [List.mem_singleton.1 e] at htq
            rcases hB g _ t htq with ⟨a, ha2, e2⟩ | ⟨h2, h3⟩
            · exact .inl ⟨a, List.mem_append.2 (.inr ha2), e2⟩
            · refine .inr ⟨?_, h3⟩
              rw [nu_node, Int.toNat_natCast, decide_eq_true_iff] at h2 ⊢
              rw [hw, if_neg (by omega)]; omega
end Go.Proofs.Ytidoofdofdhjpaa
/- How many heads a state has. -/
namespace Go.Proofs.Ytidoofdofdhjpaa
open Go
set_option linter.unusedVariables false
set_option linter.unusedSimpArgs false

theorem nodup_among : ∀ {K A : List (List Itm)}, K.Nodup → (∀ t ∈ K, t ∈ A) → K.length ≤ A.length
  | [], A, _, _ => Nat.zero_le _
  | k :: K, A, h, hs => by
    obtain ⟨h1, h2⟩ := List.nodup_cons.1 h
    have hk := hs k (List.mem_cons_self ..)
    have := nodup_among (A := A.erase k) h2 fun t ht => by
      have hne : t ≠ k := fun e => h1 (e ▸ ht)
      exact (List.mem_erase_of_ne hne).2 (hs t (List.mem_cons_of_mem _ ht))
    rw [List.length_erase_of_mem hk] at this
    have := List.length_pos_of_mem hk
    rw [List.length_cons]; omega
theorem HdsOf.more {l : List Nd} {x : Itm} {n m : Nat} (h : HdsOf l x n) (hm : n ≤ m) : HdsOf l x m := by
  obtain ⟨A, h1, h2⟩ := h
  exact ⟨A, Nat.le_trans h1 hm, h2⟩
theorem hsz_le {l : List Nd} {i : Nat} (hi : i < l.length) : hsz l i ≤ l.length := by unfold hsz; omega
theorem item_heads {l : List Nd} (hR : Rgt l) {x : Itm} (hx : HdF l x) : HdsOf l x l.length := by
  obtain ⟨k, nd, lo, hi⟩ := x
  have hkd := hx.kind
  simp only at hkd
  have hpos := hR.1.1
  by_cases k5 : k = 5
  · subst k5
    refine ⟨[], Nat.zero_le _, fun f r t ht => .inr ?_⟩
    rcases rchF_cons ht with ⟨h, -⟩ | ⟨-, g, q, hq, htq⟩
    · unfold rdyS at h; simp at h
    · unfold opnS at hq
      simp at hq
      exact ⟨by unfold nuI; simp [hq.1], g, by rw [← hq.2]; exact htq⟩
  · obtain ⟨n0, n1⟩ := hx.node k5
    simp only at n0 n1
    obtain ⟨i, rfl⟩ : ∃ i : Nat, nd = (i : Int) := ⟨nd.toNat, by omega⟩
    have hil : i < l.length := by omega
    by_cases k1 : k = 1
    · subst k1
      obtain ⟨l0, l1⟩ := hx.one rfl
      simp only at l0 l1
      subst l0; subst l1
      exact (node_heads hR i hil).more (hsz_le hil)
    · by_cases k2 : k = 2
      · subst k2
        obtain ⟨t7, -, -, -⟩ := hx.two rfl
        simp only [Int.toNat_natCast] at t7
        obtain ⟨m0, m1, m2, m3⟩ := hd_never hR hil (.inr t7)
        have hA := node_heads hR (atN l i).a.toNat (by omega)
        rw [show (((atN l i).a.toNat : Nat) : Int) = (atN l i).a by omega] at hA
        exact (times_heads hR hil t7 hA lo hi).more (hsz_le (by omega))
      · refine hds_self (fun r => ?_) hpos
        unfold rdyS
        rcases (by omega : k = 3 ∨ k = 4) with rfl | rfl <;> simp
theorem state_heads {l : List Nd} (hR : Rgt l) : ∀ (s : List Itm), (∀ y ∈ s, HdF l y) → ∃ A : List (List Itm), A.length ≤ s.length * l.length + 1 ∧ ∀ f t, t ∈ rchF l f s → t ∈ A
  | [], _ => ⟨[[]], by simp, fun f t ht => by cases f <;> exact ht⟩
  | x :: r, hs => by
    obtain ⟨A, h1, h2⟩ := item_heads hR (hs x (List.mem_cons_self ..))
    obtain ⟨B, h3, h4⟩ := state_heads hR r fun y hy => hs y (List.mem_cons_of_mem _ hy)
    refine ⟨A.map (· ++ r) ++ B, ?_, fun f t ht => ?_⟩
    · rw [List.length_append, List.length_map, List.length_cons, Nat.succ_mul]; omega
    · rcases h2 f r t ht with ⟨a, ha, e⟩ | ⟨-, g, hg⟩
      · exact List.mem_append.2 (.inl (List.mem_map.2 ⟨a, ha, e.symm⟩))
      · exact List.mem_append.2 (.inr (h4 g t hg))
/-- .. no more than nodes for each of its items, and one. -/
theorem hds_len {l : List Nd} (hR : Rgt l) {s : List Itm} (hs : ∀ y ∈ s, HdF l y) : (hdsL l s).length ≤ s.length * l.length + 1 := by
  obtain ⟨A, h1, h2⟩ := state_heads hR s hs
  have h3 := nodup_among (srt_nodup (hds_srt l s)) (A := A) fun t ht => h2 _ t ((brsL_keys _ _).1 ht)
  rw [List.length_map] at h3
  omega
end Go.Proofs.Ytidoofdofdhjpaa
