/- How many heads: two lists' branches together, and moved ones. -/
import Derived.Test.YtgabifebcfgngaaM30
namespace Go.Proofs.Ytgabifebcfgngaa
open Go
set_option linter.unusedVariables false
set_option linter.unusedSimpArgs false

theorem mny_mem : ∀ {L : Brs}, HdSrt L → PosB L → ∀ t k, (t, k) ∈ L ↔ mnyB L t = k ∧ 1 ≤ k
  | [], _, _, t, k => by
    have h0 : mnyB [] t = 0 := rfl
    constructor
    · intro h; cases h
    · intro h; omega
  | (q, j) :: L, hs, hp, t, k => by
    obtain ⟨s1, s2⟩ := List.pairwise_cons.1 hs
    have hj := hp (q, j) (List.mem_cons_self ..)
    have ih := mny_mem s2 (fun a ha => hp a (List.mem_cons_of_mem _ ha)) t k
    have e : mnyB ((q, j) :: L) t = if t = q then j else mnyB L t := rfl
    rw [e, List.mem_cons]
    simp only at hj
    by_cases et : t = q
    · subst et
      rw [if_pos rfl]
      constructor
      · rintro (h | h)
        · injection h with _ h2; exact ⟨h2.symm, by omega⟩
        · have := s1 _ h
          simp only [stC_self] at this; omega
      · rintro ⟨h1, h2⟩; exact .inl (by rw [h1])
    · rw [if_neg et]
      constructor
      · rintro (h | h)
        · injection h with h1 _; exact absurd h1 et
        · exact ih.1 h
      · intro h; exact .inr (ih.2 h)
/-- The branches of a list of states. -/
def brsL (R : List (List Itm)) : Brs := brsF [] R
theorem brsL_all (R : List (List Itm)) : HdSrt (brsL R) ∧ PosB (brsL R) ∧ ∀ t, mnyB (brsL R) t = min 2 (R.count t) := by
  obtain ⟨h1, h2, h3⟩ := brs_all R (L := []) List.Pairwise.nil (fun a h => by cases h)
  refine ⟨h1, h2, fun t => ?_⟩
  unfold brsL
  rw [h3 t]
  have h0 : mnyB [] t = 0 := rfl
  rw [h0]
  split <;> omega
theorem brsL_mem (R : List (List Itm)) (t : List Itm) (k : Nat) : (t, k) ∈ brsL R ↔ min 2 (R.count t) = k ∧ 1 ≤ k := by
  obtain ⟨h1, h2, h3⟩ := brsL_all R
  rw [mny_mem h1 h2, h3]
theorem brsL_keys (R : List (List Itm)) (t : List Itm) : t ∈ (brsL R).map Prod.fst ↔ t ∈ R := by
  rw [List.mem_map]
  constructor
  · rintro ⟨⟨q, k⟩, h, rfl⟩
    have := (brsL_mem R q k).1 h
    refine List.count_pos_iff.1 ?_
    show 0 < R.count q
    omega
  · intro h
    have := List.count_pos_iff.2 h
    exact ⟨(t, min 2 (R.count t)), (brsL_mem R t _).2 ⟨rfl, by omega⟩, rfl⟩
theorem srt_nodup {L : Brs} (h : HdSrt L) : (L.map Prod.fst).Nodup := by
  unfold List.Nodup
  rw [List.pairwise_map]
  exact h.imp fun {a b} hab e => by rw [e, stC_self] at hab; omega
end Go.Proofs.Ytgabifebcfgngaa
/- The heads of an or: both's, together. -/
namespace Go.Proofs.Ytgabifebcfgngaa
open Go
set_option linter.unusedVariables false
set_option linter.unusedSimpArgs false

/-- Where a description starts. -/
def stL (l : List Nd) : List Itm := [⟨1, (l.length : Int) - 1, 0, 0⟩]
theorem st_form {l : List Nd} (h : 0 < l.length) : ∀ y ∈ stL l, HdF l y := fun y hy => by
  rw [List.mem_singleton.1 hy]
  exact ⟨fun h => by simp at h, fun _ => ⟨by simp only; omega, by simp only; omega⟩, ⟨by simp, by simp⟩, fun _ => ⟨rfl, rfl⟩, fun h => by simp at h, fun h => by simp at h, fun h => by simp at h⟩
theorem opn_five {l : List Nd} {x : Itm} {r t : List Itm} (hx : x.kind ≠ 5) (hr : ∀ y ∈ r, y.kind ≠ 5) (ht : t ∈ opnS l x r) : ∀ y ∈ t, y.kind ≠ 5 := by
  have cons : ∀ (a : Itm) (s : List Itm), a.kind ≠ 5 → (∀ y ∈ s, y.kind ≠ 5) → ∀ y ∈ a :: s, y.kind ≠ 5 := fun a s h1 h2 y hy => by
    rcases List.mem_cons.1 hy with rfl | h
    · exact h1
    · exact h2 y h
  have k1 : ∀ a b c : Int, (⟨1, a, b, c⟩ : Itm).kind ≠ 5 := fun a b c => by simp
  have k2 : ∀ a b c : Int, (⟨2, a, b, c⟩ : Itm).kind ≠ 5 := fun a b c => by simp
  have k3 : ∀ a b c : Int, (⟨3, a, b, c⟩ : Itm).kind ≠ 5 := fun a b c => by simp
  unfold opnS at ht
  simp only at ht
  rw [if_neg hx] at ht
  split at ht
  · rcases List.mem_append.1 ht with h | h
    · split at h
      · rw [List.mem_singleton.1 h]; exact hr
      · cases h
    · split at h
      · rw [List.mem_singleton.1 h]; exact cons _ _ (k1 _ _ _) (cons _ _ (k2 _ _ _) hr)
      · cases h
  · split at ht
    · rw [List.mem_singleton.1 ht]; exact hr
    · split at ht
      · rw [List.mem_singleton.1 ht]; exact cons _ _ (k3 _ _ _) hr
      · split at ht
        · rw [List.mem_singleton.1 ht]; exact cons _ _ (k1 _ _ _) (cons _ _ (k1 _ _ _) hr)
        · split at ht
          · rcases List.mem_cons.1 ht with h | h
            · rw [h]; exact cons _ _ (k1 _ _ _) hr
            · rw [List.mem_singleton.1 h]; exact cons _ _ (k1 _ _ _) hr
          · split at ht
            · rcases List.mem_cons.1 ht with h | h
              · rw [h]; exact hr
              · rw [List.mem_singleton.1 h]; exact cons _ _ (k1 _ _ _) (cons _ _ hx hr)
            · split at ht
              · rw [List.mem_singleton.1 ht]; exact cons _ _ (k2 _ _ _) hr
              · cases ht
/-- What is reached has its form, and is ready. -/
theorem rch_ok {l : List Nd} (hF : Form l) : ∀ (f : Nat) (s : List Itm), (∀ y ∈ s, HdF l y) → ∀ t ∈ rchF l f s, rdyS l t = true ∧ (∀ y ∈ t, HdF l y) ∧ ((∀ y ∈ s, y.kind ≠ 5) → ∀ y ∈ t, y.kind ≠ 5) := fun f => by
  induction f with
  | zero =>
    intro s hs t ht
    cases s with
    | nil =>
      rw [List.mem_singleton.1 (show t ∈ [[]] from ht)]
      exact ⟨rfl, hs, fun h => h⟩
    | cons x r =>
      unfold rchF at ht
      split at ht
      · rename_i h
        rw [List.mem_singleton.1 ht]
        exact ⟨h, hs, fun h => h⟩
      · cases ht
  | succ f ih =>
    intro s hs t ht
    cases s with
    | nil =>
      rw [List.mem_singleton.1 (show t ∈ [[]] from ht)]
      exact ⟨rfl, hs, fun h => h⟩
    | cons x r =>
      have hx := hs x (List.mem_cons_self ..)
      have hr : ∀ y ∈ r, HdF l y := fun y hy => hs y (List.mem_cons_of_mem _ hy)
      unfold rchF at ht
      split at ht
      · rename_i h
        rw [List.mem_singleton.1 ht]
        exact ⟨h, hs, fun h => h⟩
      · obtain ⟨q, hq, hqt⟩ := List.mem_flatMap.1 ht
        obtain ⟨a1, a2, a3⟩ := ih q (opn_form hF hx hr hq) t hqt
        exact ⟨a1, a2, fun h => a3 (opn_five (h x (List.mem_cons_self ..)) (fun y hy => h y (List.mem_cons_of_mem _ hy)) hq)⟩
end Go.Proofs.Ytgabifebcfgngaa
/- What HeadsReady, HeadsOpen and HeadsWays ask: the plain mathematics. -/
namespace Go.Proofs.Ytgabifebcfgngaa
open Go
set_option linter.unusedVariables false
set_option linter.unusedSimpArgs false

theorem wyS_start {l : List Nd} (h : 0 < l.length) : wyS l (stL l) = wyN l (l.length - 1) := by
  unfold stL
  rw [wyS_cons, wyI_node]
  have := wyN_le l (l.length - 1)
  rw [show ((l.length : Int) - 1).toNat = l.length - 1 by omega]
  show min 2 (wyN l (l.length - 1) * 1) = _
  omega
/-- A start comes to nothing in as many ways as the description has of it. -/
theorem start_nothing {l : List Nd} (hR : Rgt l) : mnyB (hdsL l (stL l)) [] = wyN l (l.length - 1) := by
  rw [hds_mny, rch_nothing hR _ _ (Nat.le_refl _) (st_form hR.1.1), wyS_start hR.1.1]
theorem rchS_ok {l : List Nd} (hF : Form l) {s : List Itm} (hs : ∀ y ∈ s, HdF l y) {t : List Itm} (ht : t ∈ rchS l s) : rdyS l t = true ∧ (∀ y ∈ t, HdF l y) ∧ ((∀ y ∈ s, y.kind ≠ 5) → ∀ y ∈ t, y.kind ≠ 5) := rch_ok hF _ s hs t ht
/-- Each head is ready, and has its form. -/
theorem hds_ok {l : List Nd} (hF : Form l) {s : List Itm} (hs : ∀ y ∈ s, HdF l y) {a : List Itm × Nat} (ha : a ∈ hdsL l s) : rdyS l a.1 = true ∧ (∀ y ∈ a.1, HdF l y) ∧ 1 ≤ a.2 ∧ a.2 ≤ 2 := by
  have h1 : a.1 ∈ rchS l s := (brsL_keys _ _).1 (List.mem_map.2 ⟨a, ha, rfl⟩)
  have h2 := rchS_ok hF hs h1
  have h3 := hds_pos l s a ha
  exact ⟨h2.1, h2.2.1, h3.1, h3.2⟩
end Go.Proofs.Ytgabifebcfgngaa
/- A state's heads are those of all that it opens to, their ways added. -/
namespace Go.Proofs.Ytgabifebcfgngaa
open Go
set_option linter.unusedVariables false
set_option linter.unusedSimpArgs false

end Go.Proofs.Ytgabifebcfgngaa
