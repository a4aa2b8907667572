/- How many heads: two lists' branches together, and moved ones. -/
import Derived.Test.YtgabifebcfgngaaM30
namespace Go.Proofs.Ytgabifebcfgngaa
open Go
set_option linter.unusedVariables false
set_option linter.unusedSimpArgs false

theorem mny_mem : ∀ {L : Brs}, HdSrt L → PosB L → ∀ t k, (t, k) ∈ L ↔ mnyB L t = k ∧ 1 ≤ k
  | [], _, _, t, k => by
    have h0 : mnyB [] t = 0 := rfl
    constructor
    · intro h; cases h
    · intro h; omega
  | (q, j) :: L, hs, hp, t, k => by
    obtain ⟨s1, s2⟩ := List.pairwise_cons.1 hs
    have hj := hp (q, j) (List.mem_cons_self ..)
    have ih := mny_mem s2 (fun a ha => hp a (List.mem_cons_of_mem _ ha)) t k
    have e : mnyB ((q, j) :: L) t = if t = q then j else mnyB L t := rfl
    rw [e, List.mem_cons]
    simp only at hj
    by_cases et : t = q
    · subst et
      rw [if_pos rfl]
      constructor
      · rintro (h | h)
        · injection h with _ h2; exact ⟨h2.symm, by omega⟩
        · have := s1 _ h
          simp only [stC_self] at this; omega
      · rintro ⟨h1, h2⟩; exact .inl (by rw [h1])
    · rw [if_neg et]
      constructor
      · rintro (h | h)
        · injection h with h1 _; exact absurd h1 et
        · exact ih.1 h
      · intro h; exact .inr (ih.2 h)
/-- The branches of a list of states. -/
def brsL (R : List (List Itm)) : Brs := brsF [] R
theorem brsL_all (R : List (List Itm)) : HdSrt (brsL R) ∧ PosB (brsL R) ∧ ∀ t, mnyB (brsL R) t = min 2 (R.count t) := by
  obtain ⟨h1, h2, h3⟩ := brs_all R (L := []) List.Pairwise.nil (fun a h => by cases h)
  refine ⟨h1, h2, fun t => ?_⟩
  unfold brsL
  rw [h3 t]
  have h0 : mnyB [] t = 0 := rfl
  rw [h0]
  split <;> omega
theorem brsL_mem (R : List (List Itm)) (t : List Itm) (k : Nat) : (t, k) ∈ brsL R ↔ min 2 (R.count t) = k ∧ 1 ≤ k := by
  obtain ⟨h1, h2, h3⟩ := brsL_all R
  rw [mny_mem h1 h2, h3]
theorem brsL_keys (R : List (List Itm)) (t : List Itm) : t ∈ (brsL R).map Prod.fst ↔ t ∈ R := by
  rw [List.mem_map]
  constructor
  · rintro ⟨⟨q, k⟩, h, rfl⟩
    have := (brsL_mem R q k).1 h
    refine List.count_pos_iff.1 ?_
    show 0 < R.count q
    omega
  · intro h
    have := List.count_pos_iff.2 h
    exact ⟨(t, min 2 (R.count t)), (brsL_mem R t _).2 ⟨rfl, by omega⟩, rfl⟩
theorem srt_nodup {L : Brs} (h : HdSrt L) : (L.map Prod.fst).Nodup := by
  unfold List.Nodup
  rw [List.pairwise_map]
  exact h.imp fun {a b} hab e => by rw [e, stC_self] at hab; omega
theorem brsL_nodup (R : List (List Itm)) : (brsL R).Nodup := by
  have := srt_nodup (brsL_all R).1
  unfold List.Nodup at this
  rw [List.pairwise_map] at this
  exact this.imp fun {a b} hab e => hab (by rw [e])
/-- Two lists without a common state. -/
theorem brsL_apart {R S : List (List Itm)} (h : ∀ t ∈ R, t ∉ S) : (brsL (R ++ S)).Perm (brsL R ++ brsL S) := by
  have hd : (brsL R ++ brsL S).Nodup := List.nodup_append.2 ⟨brsL_nodup R, brsL_nodup S, fun a ha b hb e => by
    subst e
    obtain ⟨t, k⟩ := a
    have h1 := (brsL_mem R t k).1 ha
    have h2 := (brsL_mem S t k).1 hb
    exact h t (List.count_pos_iff.1 (by omega)) (List.count_pos_iff.1 (by omega))⟩
  refine (List.perm_ext_iff_of_nodup (brsL_nodup _) hd).2 fun ⟨t, k⟩ => ?_
  rw [brsL_mem, List.mem_append, brsL_mem, brsL_mem, List.count_append]
  by_cases hr : t ∈ R
  · have : S.count t = 0 := List.count_eq_zero.2 (h t hr)
    omega
  · have : R.count t = 0 := List.count_eq_zero.2 hr
    omega
/-- Moved states: as many. -/
theorem brsL_map {f : List Itm → List Itm} (hf : ∀ a b, f a = f b → a = b) (R : List (List Itm)) : (brsL (R.map f)).Perm ((brsL R).map fun a => (f a.1, a.2)) := by
  have hcnt : ∀ t, (R.map f).count (f t) = R.count t := fun t => by
    induction R with
    | nil => rfl
    | cons q R ih =>
      rw [List.map_cons, List.count_cons, List.count_cons, ih]
      by_cases e : q = t
      · rw [e]; simp
      · have e2 : f q ≠ f t := fun h => e (hf _ _ h)
        rw [beq_eq_false_iff_ne.2 e, beq_eq_false_iff_ne.2 e2]
  have hd : ((brsL R).map fun a => (f a.1, a.2)).Nodup := by
    unfold List.Nodup
    rw [List.pairwise_map]
    exact (brsL_nodup R).imp fun {a b} hab e => hab (by injection e with e1 e2; exact Prod.ext (hf _ _ e1) e2)
  refine (List.perm_ext_iff_of_nodup (brsL_nodup _) hd).2 fun ⟨t, k⟩ => ?_
  rw [brsL_mem, List.mem_map]
  constructor
  · rintro ⟨h1, h2⟩
    have : t ∈ R.map f := List.count_pos_iff.1 (by omega)
    obtain ⟨q, hq, rfl⟩ := List.mem_map.1 this
    exact ⟨(q, k), (brsL_mem R q k).2 ⟨by rw [← hcnt]; exact h1, h2⟩, rfl⟩
  · rintro ⟨⟨q, j⟩, h1, h2⟩
    injection h2 with h2 h3
    simp only at h2 h3
    subst h2; subst h3
    rw [hcnt]
    exact (brsL_mem R q j).1 h1
/-- Two lists whose common states are nothing alone: how many there are together. -/
theorem brsL_common {R S : List (List Itm)} (h : ∀ t ∈ R, t ∈ S → t = []) : (brsL (R ++ S)).length + (if [] ∈ R ∧ [] ∈ S then 1 else 0) = (brsL R).length + (brsL S).length := by
  have n1 := srt_nodup (brsL_all R).1
  have n2 := srt_nodup (brsL_all S).1
  have n3 := srt_nodup (brsL_all (R ++ S)).1
  have hp : ((brsL (R ++ S)).map Prod.fst).Perm ((brsL R).map Prod.fst ++ ((brsL S).map Prod.fst).filter fun t => decide (t ∉ R)) := by
    refine (List.perm_ext_iff_of_nodup n3 (List.nodup_append.2 ⟨n1, n2.filter _, fun a ha b hb e => ?_⟩)).2 fun t => ?_
    · subst e
      have h1 := (brsL_keys R a).1 ha
      have h2 := (List.mem_filter.1 hb).2
      simp only [decide_eq_true_eq] at h2
      exact h2 h1
    · rw [brsL_keys, List.mem_append, List.mem_append, brsL_keys, List.mem_filter, brsL_keys]
      simp only [decide_eq_true_eq]
      by_cases h1 : t ∈ R
      · simp [h1]
      · simp [h1]
  have hl := hp.length_eq
  rw [List.length_append, List.length_map, List.length_map] at hl
  have hS : ∀ (K : List (List Itm)), K.Nodup → (∀ t, t ∈ K ↔ t ∈ S) → (K.filter fun t => decide (t ∉ R)).length + (if [] ∈ R ∧ [] ∈ S then 1 else 0) = K.length := fun K hK hm => by
    by_cases h0 : [] ∈ R ∧ [] ∈ S
    · rw [if_pos h0]
      have hk0 : [] ∈ K := (hm []).2 h0.2
      have e : (K.filter fun t => decide (t ∉ R)) = K.erase [] := by
        rw [hK.erase_eq_filter]
        refine List.filter_congr fun t ht => ?_
        rw [Bool.eq_iff_iff, decide_eq_true_iff, bne_iff_ne]
        constructor
        · intro h1 e; rw [e] at h1; exact h1 h0.1
        · intro h1 h2; exact h1 (h t h2 ((hm t).1 ht))
      rw [e, List.length_erase_of_mem hk0]
      have := List.length_pos_of_mem hk0
      omega
    · rw [if_neg h0]
      have e : (K.filter fun t => decide (t ∉ R)) = K := List.filter_eq_self.2 fun t ht => by
        rw [decide_eq_true_iff]
        intro h1
        have h2 := h t h1 ((hm t).1 ht)
        subst h2
        exact h0 ⟨h1, (hm []).1 ht⟩
      rw [e]; rfl
  have := hS ((brsL S).map Prod.fst) n2 (fun t => brsL_keys S t)
  rw [List.length_map] at this
  omega
end Go.Proofs.Ytgabifebcfgngaa
/- The heads of an or: both's, together. -/
namespace Go.Proofs.Ytgabifebcfgngaa
open Go
set_option linter.unusedVariables false
set_option linter.unusedSimpArgs false

/-- Where a description starts. -/
def stL (l : List Nd) : List Itm := [⟨1, (l.length : Int) - 1, 0, 0⟩]
theorem st_form {l : List Nd} (h : 0 < l.length) : ∀ y ∈ stL l, HdF l y := fun y hy => by
  rw [List.mem_singleton.1 hy]
  exact ⟨fun h => by simp at h, fun _ => ⟨by simp only; omega, by simp only; omega⟩, ⟨by simp, by simp⟩, fun _ => ⟨rfl, rfl⟩, fun h => by simp at h, fun h => by simp at h, fun h => by simp at h⟩
theorem opn_five {l : List Nd} {x : Itm} {r t : List Itm} (hx : x.kind ≠ 5) (hr : ∀ y ∈ r, y.kind ≠ 5) (ht : t ∈ opnS l x r) : ∀ y ∈ t, y.kind ≠ 5 := by
  have cons : ∀ (a : Itm) (s : List Itm), a.kind ≠ 5 → (∀ y ∈ s, y.kind ≠ 5) → ∀ y ∈ a :: s, y.kind ≠ 5 := fun a s h1 h2 y hy => by
    rcases List.mem_cons.1 hy with rfl | h
    · exact h1
    · exact h2 y h
  have k1 : ∀ a b c : Int, (⟨1, a, b, c⟩ : Itm).kind ≠ 5 := fun a b c => by simp
  have k2 : ∀ a b c : Int, (⟨2, a, b, c⟩ : Itm).kind ≠ 5 := fun a b c => by simp
  have k3 : ∀ a b c : Int, (⟨3, a, b, c⟩ : Itm).kind ≠ 5 := fun a b c => by simp
  unfold opnS at ht
  simp only at ht
  rw [if_neg hx] at ht
  split at ht
  · rcases List.mem_append.1 ht with h | h
    · split at h
      · rw [List.mem_singleton.1 h]; exact hr
      · cases h
    · split at h
      · rw [List.mem_singleton.1 h]; exact cons _ _ (k1 _ _ _) (cons _ _ (k2 _ _ _) hr)
      · cases h
  · split at ht
    · rw [List.mem_singleton.1 ht]; exact hr
    · split at ht
      · rw [List.mem_singleton.1 ht]; exact cons _ _ (k3 _ _ _) hr
      · split at ht
        · rw [List.mem_singleton.1 ht]; exact cons _ _ (k1 _ _ _) (cons _ _ (k1 _ _ _) hr)
        · split at ht
          · rcases List.mem_cons.1 ht with h | h
            · rw [h]; exact cons _ _ (k1 _ _ _) hr
            · rw [List.mem_singleton.1 h]; exact cons _ _ (k1 _ _ _) hr
          · split at ht
            · rcases List.mem_cons.1 ht with h | h
              · rw [h]; exact hr
              · rw [List.mem_singleton.1 h]; exact cons _ _ (k1 _ _ _) (cons _ _ hx hr)
            · split at ht
              · rw [List.mem_singleton.1 ht]; exact cons _ _ (k2 _ _ _) hr
              · cases ht
/-- What is reached has its form, and is ready. -/
theorem rch_ok {l : List Nd} (hF : Form l) : ∀ (f : Nat) (s : List Itm), (∀ y ∈ s, HdF l y) → ∀ t ∈ rchF l f s, rdyS l t = true ∧ (∀ y ∈ t, HdF l y) ∧ ((∀ y ∈ s, y.kind ≠ 5) → ∀ y ∈ t, y.kind ≠ 5) := fun f => by
  induction f with
  | zero =>
    intro s hs t ht
    cases s with
    | nil =>
      rw [List.mem_singleton.1 (show t ∈ [[]] from ht)]
      exact ⟨rfl, hs, fun h => h⟩
    | cons x r =>
      unfold rchF at ht
      split at ht
      · rename_i h
        rw [List.mem_singleton.1 ht]
        exact ⟨h, hs, fun h => h⟩
      · cases ht
  | succ f ih =>
    intro s hs t ht
    cases s with
    | nil =>
      rw [List.mem_singleton.1 (show t ∈ [[]] from ht)]
      exact ⟨rfl, hs, fun h => h⟩
    | cons x r =>
      have hx := hs x (List.mem_cons_self ..)
      have hr : ∀ y ∈ r, HdF l y := fun y hy => hs y (List.mem_cons_of_mem _ hy)
      unfold rchF at ht
      split at ht
      · rename_i h
        rw [List.mem_singleton.1 ht]
        exact ⟨h, hs, fun h => h⟩
      · obtain ⟨q, hq, hqt⟩ := List.mem_flatMap.1 ht
        obtain ⟨a1, a2, a3⟩ := ih q (opn_form hF hx hr hq) t hqt
        exact ⟨a1, a2, fun h => a3 (opn_five (h x (List.mem_cons_self ..)) (fun y hy => h y (List.mem_cons_of_mem _ hy)) hq)⟩
theorem mvd_left {l m : List Nd} {kind : Int} : MvdL 0 l (pairL kind l m) := ⟨fun j hj => by
  have := (pair_at (l := l) (m := m) (kind := kind)).1 j hj
  rw [Nat.add_zero, this]; exact (mvN_zero _).symm, by unfold pairL; simp⟩
theorem mvd_right {l m : List Nd} {kind : Int} : MvdL l.length m (pairL kind l m) := ⟨fun j hj => by
  rw [Nat.add_comm]; exact (pair_at (l := l) (m := m) (kind := kind)).2.1 j hj, by unfold pairL; simp; omega⟩
theorem or_rch {l m : List Nd} (hl : Rgt l) (hm : Rgt m) (hp : Rgt (pairL 5 l m)) : rchS (pairL 5 l m) (stL (pairL 5 l m)) = (rchS l (stL l)).map (List.map (mvI (0 : Nat))) ++ (rchS m (stL m)).map (List.map (mvI (l.length : Nat))) := by
  have h1 := hl.1.1
  have h2 := hm.1.1
  have hlen : (pairL 5 l m).length = l.length + m.length + 1 := by unfold pairL; simp; omega
  have hat := (pair_at (l := l) (m := m) (kind := 5)).2.2
  have hrt : ((pairL 5 l m).length : Int) - 1 = ((l.length + m.length : Nat) : Int) := by omega
  have hn : atN (pairL 5 l m) (((pairL 5 l m).length : Int) - 1).toNat = { kind := 5, a := (l.length : Int) - 1, b := (l.length : Int) + (m.length : Int) - 1 } := by rw [hrt, Int.toNat_natCast]; exact hat
  have hrd : rdyS (pairL 5 l m) (stL (pairL 5 l m)) = false := by
    unfold rdyS stL
    simp only
    rw [hn]; rfl
  have hop : opnS (pairL 5 l m) ⟨1, ((pairL 5 l m).length : Int) - 1, 0, 0⟩ [] = [(stL l).map (mvI (0 : Nat)), (stL m).map (mvI (l.length : Nat))] := by
    unfold opnS
    simp only
    rw [hn]
    unfold stL mvI
    simp
    omega
  have he : rchS (pairL 5 l m) (stL (pairL 5 l m)) = (opnS (pairL 5 l m) ⟨1, ((pairL 5 l m).length : Int) - 1, 0, 0⟩ []).flatMap (rchS (pairL 5 l m)) := rch_open hp (st_form (by omega)) hrd
  rw [he, hop]
  simp only [List.flatMap_cons, List.flatMap_nil, List.append_nil]
  rw [rch_moved hl hp mvd_left (st_form h1), rch_moved hm hp mvd_right (st_form h2)]
end Go.Proofs.Ytgabifebcfgngaa
/- What HeadsReady, HeadsOpen and HeadsWays ask: the plain mathematics. -/
namespace Go.Proofs.Ytgabifebcfgngaa
open Go
set_option linter.unusedVariables false
set_option linter.unusedSimpArgs false

/-- In how many ways one comes to branches, together. -/
def sumB (L : Brs) : Nat := (L.map Prod.snd).sum
theorem hds_brs (l : List Nd) (s : List Itm) : hdsL l s = brsL (rchS l s) := rfl
theorem wyS_start {l : List Nd} (h : 0 < l.length) : wyS l (stL l) = wyN l (l.length - 1) := by
  unfold stL
  rw [wyS_cons, wyI_node]
  have := wyN_le l (l.length - 1)
  rw [show ((l.length : Int) - 1).toNat = l.length - 1 by omega]
  show min 2 (wyN l (l.length - 1) * 1) = _
  omega
/-- A start comes to nothing in as many ways as the description has of it. -/
theorem start_nothing {l : List Nd} (hR : Rgt l) : mnyB (hdsL l (stL l)) [] = wyN l (l.length - 1) := by
  rw [hds_mny, rch_nothing hR _ _ (Nat.le_refl _) (st_form hR.1.1), wyS_start hR.1.1]
theorem start_in {l : List Nd} (hR : Rgt l) : [] ∈ rchS l (stL l) ↔ 0 < wyN l (l.length - 1) := by
  have := start_nothing hR
  rw [hds_mny] at this
  rw [← List.count_pos_iff]
  omega
theorem rchS_ok {l : List Nd} (hF : Form l) {s : List Itm} (hs : ∀ y ∈ s, HdF l y) {t : List Itm} (ht : t ∈ rchS l s) : rdyS l t = true ∧ (∀ y ∈ t, HdF l y) ∧ ((∀ y ∈ s, y.kind ≠ 5) → ∀ y ∈ t, y.kind ≠ 5) := rch_ok hF _ s hs t ht
theorem mvI_inj {d : Int} {x y : Itm} (h : mvI d x = mvI d y) : x = y := by
  have hk : x.kind = y.kind := by rw [← mvI_kind d x, ← mvI_kind d y, h]
  unfold mvI at h
  by_cases h5 : x.kind = 5
  · rwa [if_pos h5, if_pos (by omega)] at h
  · rw [if_neg h5, if_neg (by omega)] at h
    obtain ⟨a, b, c, e⟩ := x
    obtain ⟨p, q, r, s⟩ := y
    simp only [Itm.mk.injEq] at h ⊢
    omega
theorem mvS_inj {d : Int} : ∀ {a b : List Itm}, a.map (mvI d) = b.map (mvI d) → a = b
  | [], [], _ => rfl
  | [], _ :: _, h => by cases h
  | _ :: _, [], h => by cases h
  | x :: a, y :: b, h => by
    rw [List.map_cons, List.map_cons] at h
    injection h with h1 h2
    rw [mvI_inj h1, mvS_inj h2]
theorem brsL_moved (d : Int) (R : List (List Itm)) : (brsL (R.map (List.map (mvI d)))).length = (brsL R).length ∧ sumB (brsL (R.map (List.map (mvI d)))) = sumB (brsL R) := by
  have h := brsL_map (f := List.map (mvI d)) (fun a b => mvS_inj) R
  refine ⟨by rw [h.length_eq, List.length_map], ?_⟩
  unfold sumB
  rw [(h.map Prod.snd).sum_nat, List.map_map]
  rfl
/-- Both's starts have nothing alone in common. -/
theorem or_common {l m : List Nd} (hl : Rgt l) (hm : Rgt m) : ∀ t ∈ (rchS l (stL l)).map (List.map (mvI (0 : Nat))), t ∈ (rchS m (stL m)).map (List.map (mvI (l.length : Nat))) → t = [] := fun t h1 h2 => by
  obtain ⟨a, ha, rfl⟩ := List.mem_map.1 h1
  obtain ⟨b, hb, hab⟩ := List.mem_map.1 h2
  have fa := rchS_ok hl.1 (st_form hl.1.1) ha
  have fb := rchS_ok hm.1 (st_form hm.1.1) hb
  have na := fa.2.2 fun y hy => by rw [List.mem_singleton.1 hy]; simp
  have nb := fb.2.2 fun y hy => by rw [List.mem_singleton.1 hy]; simp
  cases a with
  | nil => rfl
  | cons x a =>
    exfalso
    cases b with
    | nil => cases hab
    | cons y b =>
      rw [List.map_cons, List.map_cons] at hab
      injection hab with e _
      have kx := na x (List.mem_cons_self ..)
      have ky := nb y (List.mem_cons_self ..)
      have ix := (fa.2.1 x (List.mem_cons_self ..)).node kx
      have iy := (fb.2.1 y (List.mem_cons_self ..)).node ky
      have e2 := congrArg Itm.node e
      unfold mvI at e2
      rw [if_neg kx, if_neg ky] at e2
      simp only at e2
      omega
/-- An or's heads are both's, together. -/
theorem or_heads {l m : List Nd} (hl : Rgt l) (hm : Rgt m) (hp : Rgt (pairL 5 l m)) :
    (hdsL (pairL 5 l m) (stL (pairL 5 l m))).length + (if 0 < wyN l (l.length - 1) ∧ 0 < wyN m (m.length - 1) then 1 else 0) = (hdsL l (stL l)).length + (hdsL m (stL m)).length ∧
    (¬ (0 < wyN l (l.length - 1) ∧ 0 < wyN m (m.length - 1)) → sumB (hdsL (pairL 5 l m) (stL (pairL 5 l m))) = sumB (hdsL l (stL l)) + sumB (hdsL m (stL m))) := by
  have hc := or_common hl hm
  have h1 := brsL_moved (0 : Nat) (rchS l (stL l))
  have h2 := brsL_moved (l.length : Nat) (rchS m (stL m))
  have nil_in : ∀ (d : Int) (R : List (List Itm)), [] ∈ R.map (List.map (mvI d)) ↔ [] ∈ R := fun d R => by
    rw [List.mem_map]
    exact ⟨fun ⟨a, ha, e⟩ => by rw [List.map_eq_nil_iff] at e; rwa [← e], fun h => ⟨[], h, rfl⟩⟩
  have hn : ([] ∈ (rchS l (stL l)).map (List.map (mvI (0 : Nat))) ∧ [] ∈ (rchS m (stL m)).map (List.map (mvI (l.length : Nat)))) ↔ (0 < wyN l (l.length - 1) ∧ 0 < wyN m (m.length - 1)) := by
    rw [nil_in, nil_in, start_in hl, start_in hm]
  rw [hds_brs, hds_brs, hds_brs, or_rch hl hm hp]
  constructor
  · have := brsL_common hc
    rw [h1.1, h2.1] at this
    rw [← this]
    by_cases e : 0 < wyN l (l.length - 1) ∧ 0 < wyN m (m.length - 1)
    · rw [if_pos e, if_pos (hn.2 e)]
    · rw [if_neg e, if_neg fun h => e (hn.1 h)]
  · intro h0
    have ha : ∀ t ∈ (rchS l (stL l)).map (List.map (mvI (0 : Nat))), t ∉ (rchS m (stL m)).map (List.map (mvI (l.length : Nat))) := fun t h3 h4 => by
      have := hc t h3 h4
      subst this
      exact h0 (hn.1 ⟨h3, h4⟩)
    have hp2 := brsL_apart ha
    unfold sumB at h1 h2 ⊢
    rw [(hp2.map Prod.snd).sum_nat, List.map_append, List.sum_append, h1.2, h2.2]
/-- A frame's head is itself alone. -/
theorem frame_heads {l : List Nd} : hdsL (wrapL 8 0 0 l) (stL (wrapL 8 0 0 l)) = [(stL (wrapL 8 0 0 l), 1)] := by
  refine hds_ready ?_
  have hat := (wrap_at (l := l) (kind := 8) (lo := 0) (hi := 0)).2
  have hlen : (wrapL 8 0 0 l).length = l.length + 1 := by unfold wrapL; simp
  unfold rdyS stL
  simp only
  rw [show (((wrapL 8 0 0 l).length : Int) - 1).toNat = l.length by omega, hat]
  rfl
/-- With nothing ahead, a row has as many heads as without it. -/
theorem row_heads {l : List Nd} (hl : Rgt l) (hp : Rgt (pairL 4 [{ kind := 1 }] l)) :
    (hdsL (pairL 4 [{ kind := 1 }] l) (stL (pairL 4 [{ kind := 1 }] l))).length = (hdsL l (stL l)).length ∧ sumB (hdsL (pairL 4 [{ kind := 1 }] l) (stL (pairL 4 [{ kind := 1 }] l))) = sumB (hdsL l (stL l)) := by
  have h1 := hl.1.1
  have hlen : (pairL 4 [{ kind := 1 }] l).length = 1 + l.length + 1 := by unfold pairL; simp; omega
  have hat := (pair_at (l := [{ kind := 1 }]) (m := l) (kind := 4)).2.2
  have h0 := (pair_at (l := [{ kind := 1 }]) (m := l) (kind := 4)).1 0 (by simp)
  generalize hq : pairL 4 [{ kind := 1 }] l = p at *
  have hn : atN p ((p.length : Int) - 1).toNat = { kind := 4, a := 0, b := (l.length : Int) } := by
    rw [show ((p.length : Int) - 1).toNat = 1 + l.length by omega]
    have : atN p (1 + l.length) = _ := hat
    rw [this]; simp; omega
  have hn0 : atN p 0 = { kind := 1 } := h0
  have hrd : rdyS p (stL p) = false := by
    unfold rdyS stL
    simp only
    rw [hn]; rfl
  have hop : opnS p ⟨1, (p.length : Int) - 1, 0, 0⟩ [] = [[⟨1, 0, 0, 0⟩, ⟨1, (l.length : Int), 0, 0⟩]] := by
    unfold opnS
    simp only
    rw [hn]
    simp
  have he : rchS p (stL p) = (opnS p ⟨1, (p.length : Int) - 1, 0, 0⟩ []).flatMap (rchS p) := rch_open hp (st_form (by omega)) hrd
  have hfo := opn_form hp.1 (st_form (l := p) (by omega) _ (List.mem_singleton.2 rfl)) (fun y hy => by cases hy) (show [⟨1, 0, 0, 0⟩, ⟨1, (l.length : Int), 0, 0⟩] ∈ opnS p ⟨1, (p.length : Int) - 1, 0, 0⟩ [] by rw [hop]; exact List.mem_singleton.2 rfl)
  have hrd2 : rdyS p [⟨1, 0, 0, 0⟩, ⟨1, (l.length : Int), 0, 0⟩] = false := by
    unfold rdyS
    simp [hn0]
  have hop2 : opnS p ⟨1, 0, 0, 0⟩ [⟨1, (l.length : Int), 0, 0⟩] = [[⟨1, (l.length : Int), 0, 0⟩]] := by
    unfold opnS
    simp only [Int.toNat_zero]
    rw [hn0]
    simp
  have he2 : rchS p [⟨1, 0, 0, 0⟩, ⟨1, (l.length : Int), 0, 0⟩] = (opnS p ⟨1, 0, 0, 0⟩ [⟨1, (l.length : Int), 0, 0⟩]).flatMap (rchS p) := rch_open hp hfo hrd2
  have hmv : ([⟨1, (l.length : Int), 0, 0⟩] : List Itm) = (stL l).map (mvI (1 : Nat)) := by
    unfold stL mvI
    simp
  have hmd : MvdL 1 l p := by
    have := mvd_right (l := [{ kind := 1 }]) (m := l) (kind := 4)
    rw [hq] at this
    exact this
  rw [hop] at he
  rw [hop2] at he2
  simp only [List.flatMap_cons, List.flatMap_nil, List.append_nil] at he he2
  rw [hds_brs, hds_brs, he, he2, hmv, rch_moved hl hp hmd (st_form h1)]
  exact brsL_moved _ _
end Go.Proofs.Ytgabifebcfgngaa
/- A state's heads are those of all that it opens to, their ways added. -/
namespace Go.Proofs.Ytgabifebcfgngaa
open Go
set_option linter.unusedVariables false
set_option linter.unusedSimpArgs false

end Go.Proofs.Ytgabifebcfgngaa
