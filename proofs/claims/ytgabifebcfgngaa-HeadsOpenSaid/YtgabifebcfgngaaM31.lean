/- How many heads: two lists' branches together, and moved ones. -/
import Derived.Test.YtgabifebcfgngaaM30
namespace Go.Proofs.Ytgabifebcfgngaa
open Go
set_option linter.unusedVariables false
set_option linter.unusedSimpArgs false

theorem mny_mem : ∀ {L : Brs}, HdSrt L → PosB L → ∀ t k, (t, k) ∈ L ↔ mnyB L t = k ∧ 1 ≤ k
  | [], _, _, t, k => by
    have h0 : mnyB [] t = 0 := rfl
    constructor
    · intro h; cases h
    · intro h; omega
  | (q, j) :: L, hs, hp, t, k => by
    obtain ⟨s1, s2⟩ := List.pairwise_cons.1 hs
    have hj := hp (q, j) (List.mem_cons_self ..)
    have ih := mny_mem s2 (fun a ha => hp a (List.mem_cons_of_mem _ ha)) t k
    have e : mnyB ((q, j) :: L) t = if t = q then j else mnyB L t := rfl
    rw [e, List.mem_cons]
    simp only at hj
    by_cases et : t = q
    · subst et
      rw [if_pos rfl]
      constructor
      · rintro (h | h)
        · injection h with _ h2; exact ⟨h2.symm, by omega⟩
        · have := s1 _ h
          simp only [stC_self] at this; omega
      · rintro ⟨h1, h2⟩; exact .inl (by rw [h1])
    · rw [if_neg et]
      constructor
      · rintro (h | h)
        · injection h with h1 _; exact absurd h1 et
        · exact ih.1 h
      · intro h; exact .inr (ih.2 h)
/-- The branches of a list of states. -/
def brsL (R : List (List Itm)) : Brs := brsF [] R
theorem brsL_all (R : List (List Itm)) : HdSrt (brsL R) ∧ PosB (brsL R) ∧ ∀ t, mnyB (brsL R) t = min 2 (R.count t) := by
  obtain ⟨h1, h2, h3⟩ := brs_all R (L := []) List.Pairwise.nil (fun a h => by cases h)
  refine ⟨h1, h2, fun t => ?_⟩
  unfold brsL
  rw [h3 t]
  have h0 : mnyB [] t = 0 := rfl
  rw [h0]
  split <;> omega
theorem brsL_mem (R : List (List Itm)) (t : List Itm) (k : Nat) : (t, k) ∈ brsL R ↔ min 2 (R.count t) = k ∧ 1 ≤ k := by
  obtain ⟨h1, h2, h3⟩ := brsL_all R
  rw [mny_mem h1 h2, h3]
theorem brsL_keys (R : List (List Itm)) (t : List Itm) : t ∈ (brsL R).map Prod.fst ↔ t ∈ R := by
  rw [List.mem_map]
  constructor
  · rintro ⟨⟨q, k⟩, h, rfl⟩
    have := (brsL_mem R q k).1 h
    refine List.count_pos_iff.1 ?_
    show 0 < R.count q
    omega
  · intro h
    have := List.count_pos_iff.2 h
    exact ⟨(t, min 2 (R.count t)), (brsL_mem R t _).2 ⟨rfl, by omega⟩, rfl⟩
theorem srt_nodup {L : Brs} (h : HdSrt L) : (L.map Prod.fst).Nodup := by
  unfold List.Nodup
  rw [List.pairwise_map]
  exact h.imp fun {a b} hab e => by rw [e, stC_self] at hab; omega
end Go.Proofs.Ytgabifebcfgngaa
/- The heads of an or: both's, together. -/
namespace Go.Proofs.Ytgabifebcfgngaa
open Go
set_option linter.unusedVariables false
set_option linter.unusedSimpArgs false

/-- Where a description starts. -/
def stL (l : List Nd) : List Itm := [⟨1, (l.length : Int) - 1, 0, 0⟩]
theorem st_form {l : List Nd} (h : 0 < l.length) : ∀ y ∈ stL l, HdF l y := fun y hy => by
  rw [List.mem_singleton.1 hy]
  exact ⟨fun h => by simp at h, fun _ => ⟨by simp only; omega, by simp only; omega⟩, ⟨by simp, by simp⟩, fun _ => ⟨rfl, rfl⟩, fun h => by simp at h, fun h => by simp at h, fun h => by simp at h⟩
end Go.Proofs.Ytgabifebcfgngaa
/- What HeadsReady, HeadsOpen and HeadsWays ask: the plain mathematics. -/
namespace Go.Proofs.Ytgabifebcfgngaa
open Go
set_option linter.unusedVariables false
set_option linter.unusedSimpArgs false

theorem hds_brs (l : List Nd) (s : List Itm) : hdsL l s = brsL (rchS l s) := rfl
end Go.Proofs.Ytgabifebcfgngaa
/- A state's heads are those of all that it opens to, their ways added. -/
namespace Go.Proofs.Ytgabifebcfgngaa
open Go
set_option linter.unusedVariables false
set_option linter.unusedSimpArgs false

/-- Branches, and others added, each in its ways. -/
def fldB (L G : Brs) : Brs := G.foldl (fun M a => addB M a.1 a.2) L
theorem fldB_all : ∀ {G L : Brs}, HdSrt G → PosB G → HdSrt L → PosB L → HdSrt (fldB L G) ∧ PosB (fldB L G) ∧ ∀ t, mnyB (fldB L G) t = if mnyB G t = 0 then mnyB L t else min 2 (mnyB L t + mnyB G t)
  | [], L, _, _, h1, h2 => ⟨h1, h2, fun t => rfl⟩
  | (q, k) :: G, L, g1, g2, h1, h2 => by
    obtain ⟨s1, s2⟩ := List.pairwise_cons.1 g1
    have hk := g2 (q, k) (List.mem_cons_self ..)
    simp only at hk
    obtain ⟨k1, k2, k3⟩ := fldB_all s2 (fun a ha => g2 a (List.mem_cons_of_mem _ ha)) (srt_add (s := q) (m := k) h1) (pos_add (s := q) hk.1 hk.2 h2)
    refine ⟨k1, k2, fun t => ?_⟩
    have e : fldB L ((q, k) :: G) = fldB (addB L q k) G := rfl
    have e2 : mnyB ((q, k) :: G) t = if t = q then k else mnyB G t := rfl
    rw [e, k3 t, mny_add hk.2 h1 t, e2]
    by_cases et : t = q
    · subst et
      rw [mny_low s1, if_pos rfl, if_pos rfl, if_pos rfl, if_neg (by omega)]
    · rw [if_neg et, if_neg et]
/-- The branches of a list, added: as its states, one behind the other. -/
theorem fldB_brs {L : Brs} (h1 : HdSrt L) (h2 : PosB L) (R : List (List Itm)) : fldB L (brsL R) = brsF L R := by
  obtain ⟨b1, b2, b3⟩ := brsL_all R
  obtain ⟨k1, k2, k3⟩ := fldB_all b1 b2 h1 h2
  obtain ⟨m1, m2, m3⟩ := brs_all R h1 h2
  refine brs_ext k1 m1 k2 m2 fun t => ?_
  rw [k3, m3, b3]
  by_cases h0 : R.count t = 0
  · rw [if_pos h0, if_pos (by omega)]
  · rw [if_neg h0, if_neg (by omega)]; omega
theorem fld_open (l : List Nd) : ∀ (T : List (List Itm)) {L : Brs}, HdSrt L → PosB L → T.foldl (fun M t => fldB M (hdsL l t)) L = T.foldl (fun M t => brsF M (rchS l t)) L
  | [], L, _, _ => rfl
  | t :: T, L, h1, h2 => by
    rw [List.foldl_cons, List.foldl_cons, hds_brs, fldB_brs h1 h2]
    obtain ⟨m1, m2, -⟩ := brs_all (rchS l t) h1 h2
    exact fld_open l T m1 m2
/-- The heads of a state that isn't ready. -/
theorem hds_open {l : List Nd} (hR : Rgt l) {x : Itm} {r : List Itm} (hs : ∀ y ∈ x :: r, HdF l y) (h : rdyS l (x :: r) = false) : (opnS l x r).foldl (fun M t => fldB M (hdsL l t)) [] = hdsL l (x :: r) := by
  rw [fld_open l _ List.Pairwise.nil (fun a h => by cases h)]
  unfold hdsL
  rw [brsF_open hR hs h]
end Go.Proofs.Ytgabifebcfgngaa
