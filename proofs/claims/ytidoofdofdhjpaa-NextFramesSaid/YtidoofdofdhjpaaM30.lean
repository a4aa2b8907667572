/- What one goes on to by a byte, told head by head: the same branches. -/
import Derived.Test.YtidoofdofdhjpaaM29
import Derived.Test.YtidoofdofdhjpaaM23
import Derived.Test.YtidoofdofdhjpaaM03
import Derived.Test.YtidoofdofdhjpaaM07
import Derived.RangeFuncNested
import Derived.RangeFuncBound
import Derived.RangeFuncCalls
import Derived.RangeFuncLeaves
import Derived.RangeFuncBox
import Derived.Shelf.Abstract
import Derived.WalkKit
import Derived.OwnWalkIn
import Derived.TacticsInMore
import Derived.LoopNIn
import Derived.LoopIn
namespace Go.Proofs.Ytidoofdofdhjpaa
open Go
set_option linter.unusedVariables false
set_option linter.unusedSimpArgs false
def wtB (φ : List Itm -> Nat) (L : Brs) : Nat := (L.map fun a => a.2 * φ a.1).sum
theorem wt_cons (φ : List Itm -> Nat) (a : List Itm × Nat) (L : Brs) : wtB φ (a :: L) = a.2 * φ a.1 + wtB φ L := by unfold wtB; rw [List.map_cons, List.sum_cons]
theorem wt_add {φ : List Itm -> Nat} {s : List Itm} {m : Nat} : ∀ L : Brs, min 2 (wtB φ (addB L s m)) = min 2 (wtB φ L + m * φ s)
 | [] => by
  unfold addB
  rw [wt_cons]
  have : wtB φ [] = 0 := rfl
  rw [this, Nat.zero_add, Nat.add_zero]
 | (t, k) :: L => by
  have ih := wt_add (φ := φ) (s := s) (m := m) L
  unfold addB
  by_cases e : s = t
  ·subst e
   rw [if_pos rfl, wt_cons, wt_cons]
   simp only
   have h1 := min_mulB (k + m) (φ s)
   rw [Nat.add_mul] at h1
   omega
  ·rw [if_neg e]
   by_cases g : stC s t = -1
   ·rw [if_pos g, wt_cons]
    simp only
    rw [Nat.add_comm]
   ·rw [if_neg g, wt_cons, wt_cons]
    simp only
    omega
theorem wt_brs {φ : List Itm -> Nat} : ∀ (R : List (List Itm)) (L : Brs), min 2 (wtB φ (brsF L R)) = min 2 (wtB φ L + (R.map φ).sum)
 | [], L => by unfold brsF; simp
 | q :: R, L => by
  have e : brsF L (q :: R) = brsF (addB L q 1) R := rfl
  rw [e, wt_brs R, List.map_cons, List.sum_cons]
  have h1 := wt_add (φ := φ) (s := q) (m := 1) L
  rw [Nat.one_mul] at h1
  omega
def onF (l : List Nd) (c : UInt8) (L : Brs) (M : Brs) : Brs := L.foldl (fun M a => (rdS l a.1 c).elim M fun q => addB M q a.2) M
theorem onF_cons (l : List Nd) (c : UInt8) (a : List Itm × Nat) (L M : Brs) : onF l c (a :: L) M = onF l c L ((rdS l a.1 c).elim M fun q => addB M q a.2) := rfl
def phR (l : List Nd) (c : UInt8) (t : List Itm) (s : List Itm) : Nat := if rdS l s c = some t then 1 else 0
theorem onF_all {l : List Nd} {c : UInt8} : ∀ (L M : Brs), PosB L -> HdSrt M -> PosB M -> HdSrt (onF l c L M) /\ PosB (onF l c L M) /\ ∀ t, min 2 (mnyB (onF l c L M) t) = min 2 (mnyB M t + wtB (phR l c t) L)
 | [], M, _, h1, h2 => ⟨h1, h2, fun t => by rw [show wtB (phR l c t) [] = 0 from rfl]; rfl⟩
 | a :: L, M, g, h1, h2 => by
  have ha := g a (List.mem_cons_self ..)
  rw [onF_cons]
  cases hr : rdS l a.1 c with
  | none =>
   obtain ⟨k1, k2, k3⟩ := onF_all L M (fun b hb => g b (List.mem_cons_of_mem _ hb)) h1 h2
   refine ⟨k1, k2, fun t => ?_⟩
   have h3 := k3 t
   simp only [Option.elim_none]
   rw [h3, wt_cons]
   have : phR l c t a.1 = 0 := by unfold phR; rw [hr, if_neg (by simp)]
   rw [this, Nat.mul_zero, Nat.zero_add]
  | some q =>
   simp only [Option.elim_some]
   obtain ⟨k1, k2, k3⟩ := onF_all L (addB M q a.2) (fun b hb => g b (List.mem_cons_of_mem _ hb)) (srt_add h1) (pos_add ha.1 ha.2 h2)
   refine ⟨k1, k2, fun t => ?_⟩
   rw [k3 t, wt_cons, mny_add ha.2 h1 t]
   by_cases e : t = q
   ·subst e
    have : phR l c t a.1 = 1 := by unfold phR; rw [hr, if_pos rfl]
    rw [if_pos rfl, this, Nat.mul_one]
    omega
   ·have : phR l c t a.1 = 0 := by unfold phR; rw [hr, if_neg (fun h => e (Option.some.inj h).symm)]
    rw [if_neg e, this, Nat.mul_zero, Nat.zero_add]
theorem ph_sum {l : List Nd} {c : UInt8} {t : List Itm} : ∀ R : List (List Itm), (R.map (phR l c t)).sum = (R.filterMap fun s => rdS l s c).count t
 | [] => rfl
 | s :: R => by
  rw [List.map_cons, List.sum_cons, ph_sum R, List.filterMap_cons]
  unfold phR
  cases hr : rdS l s c with
  | none => simp
  | some q =>
   rw [List.count_cons]
   by_cases e : q = t
   ·subst e; simp; omega
   ·rw [if_neg (fun h => e (Option.some.inj h))]; simp [e]
theorem mny_two {L : Brs} (h : PosB L) (t : List Itm) : mnyB L t <= 2 := by
 induction L with
 | nil => exact Nat.zero_le _
 | cons a L ih =>
  obtain ⟨s, k⟩ := a
  unfold mnyB
  by_cases e : t = s
  ·rw [if_pos e]; exact (h (s, k) (List.mem_cons_self ..)).2
  ·rw [if_neg e]; exact ih fun b hb => h b (List.mem_cons_of_mem _ hb)
theorem on_heads {l : List Nd} {s : List Itm} {c : UInt8} : onF l c (hdsL l s) [] = brsL (onL l s c) := by
 obtain ⟨k1, k2, k3⟩ := onF_all (l := l) (c := c) (hdsL l s) [] (hds_pos l s) List.Pairwise.nil (fun a h => by cases h)
 obtain ⟨b1, b2, b3⟩ := brsL_all (onL l s c)
 refine brs_ext k1 b1 k2 b2 fun t => ?_
 have h1 := k3 t
 have h2 := mny_two k2 t
 have h3 := wt_brs (φ := phR l c t) (rchS l s) []
 rw [ph_sum] at h3
 rw [b3 t]
 have h4 : wtB (phR l c t) [] = 0 := rfl
 have h5 : mnyB [] t = 0 := rfl
 have h6 : wtB (phR l c t) (hdsL l s) = wtB (phR l c t) (brsF [] (rchS l s)) := rfl
 unfold onL
 rw [h6] at h1
 omega
def gtB (L M : Brs) : Brs := L.foldl (fun M a => addB M a.1 a.2) M
def phT (t s : List Itm) : Nat := if s = t then 1 else 0
theorem gt_cons (a : List Itm × Nat) (L M : Brs) : gtB (a :: L) M = gtB L (addB M a.1 a.2) := rfl
theorem gt_app (L : Brs) (a : List Itm × Nat) (M : Brs) : gtB (L ++ [a]) M = addB (gtB L M) a.1 a.2 := by unfold gtB; rw [List.foldl_append]; rfl
theorem gt_all : ∀ (L M : Brs), PosB L -> HdSrt M -> PosB M -> HdSrt (gtB L M) /\ PosB (gtB L M) /\ ∀ t, min 2 (mnyB (gtB L M) t) = min 2 (mnyB M t + wtB (phT t) L)
 | [], M, _, h1, h2 => ⟨h1, h2, fun t => by rw [show wtB (phT t) [] = 0 from rfl]; rfl⟩
 | a :: L, M, g, h1, h2 => by
  have ha := g a (List.mem_cons_self ..)
  rw [gt_cons]
  obtain ⟨k1, k2, k3⟩ := gt_all L (addB M a.1 a.2) (fun b hb => g b (List.mem_cons_of_mem _ hb)) (srt_add h1) (pos_add ha.1 ha.2 h2)
  refine ⟨k1, k2, fun t => ?_⟩
  rw [k3 t, wt_cons, mny_add ha.2 h1 t]
  by_cases e : t = a.1
  ·subst e
   have : phT a.1 a.1 = 1 := by unfold phT; rw [if_pos rfl]
   rw [if_pos rfl, this, Nat.mul_one]
   omega
  ·have : phT t a.1 = 0 := by unfold phT; rw [if_neg (fun h => e h.symm)]
   rw [if_neg e, this, Nat.mul_zero, Nat.zero_add]
theorem wt_perm {φ : List Itm -> Nat} {L M : Brs} (h : L.Perm M) : wtB φ L = wtB φ M := by
 induction h with
 | nil => rfl
 | cons x h ih => rw [wt_cons, wt_cons, ih]
 | swap x y L => rw [wt_cons, wt_cons, wt_cons, wt_cons]; omega
 | trans h1 h2 i1 i2 => rw [i1, i2]
theorem gt_perm {L M : Brs} (h : L.Perm M) (hp : PosB L) : gtB L [] = gtB M [] := by
 have hp2 : PosB M := fun a ha => hp a (h.mem_iff.2 ha)
 obtain ⟨a1, a2, a3⟩ := gt_all L [] hp List.Pairwise.nil (fun a h => by cases h)
 obtain ⟨b1, b2, b3⟩ := gt_all M [] hp2 List.Pairwise.nil (fun a h => by cases h)
 refine brs_ext a1 b1 a2 b2 fun t => ?_
 have h1 := a3 t
 have h2 := b3 t
 rw [wt_perm h] at h1
 have h3 := mny_two a2 t
 have h4 := mny_two b2 t
 omega
def rdB (l : List Nd) (c : UInt8) (L : Brs) : Brs := L.filterMap fun a => (rdS l a.1 c).map fun q => (q, a.2)
theorem rd_gt {l : List Nd} {c : UInt8} : ∀ L M : Brs, gtB (rdB l c L) M = onF l c L M
 | [], M => rfl
 | a :: L, M => by
  rw [onF_cons, <- rd_gt L]
  unfold rdB
  rw [List.filterMap_cons]
  cases rdS l a.1 c <;> rfl
theorem rd_on {l : List Nd} {s : List Itm} {c : UInt8} : gtB (rdB l c (hdsL l s)) [] = brsL (onL l s c) := by rw [rd_gt, on_heads]
theorem rd_app {l : List Nd} {c : UInt8} (L : Brs) (a : List Itm × Nat) : rdB l c (L ++ [a]) = rdB l c L ++ ((rdS l a.1 c).map fun q => (q, a.2)).toList := by
 unfold rdB
 rw [List.filterMap_append]
 cases h : rdS l a.1 c <;> simp [h]
theorem add_end {s : List Itm} {m : Nat} : ∀ {K : Brs}, (∀ a ∈ K, stC a.1 s = -1) -> addB K s m = K ++ [(s, m)]
 | [], _ => rfl
 | (t, k) :: K, h => by
  have h1 : stC t s = -1 := h (t, k) (List.mem_cons_self ..)
  have h2 := stC_neg t s
  unfold addB
  rw [if_neg (fun e => by subst e; rw [stC_self] at h1; cases h1), if_neg (by omega), add_end fun a ha => h a (List.mem_cons_of_mem _ ha)]; rfl
theorem add_last {t : List Itm} {k m : Nat} : ∀ {K : Brs}, (∀ a ∈ K, stC a.1 t = -1) -> addB (K ++ [(t, k)]) t m = K ++ [(t, min 2 (k + m))]
 | [], _ => by
  show addB [(t, k)] t m = _
  unfold addB
  rw [if_pos rfl]; rfl
 | (q, j) :: K, h => by
  have h1 : stC q t = -1 := h (q, j) (List.mem_cons_self ..)
  have h2 := stC_neg q t
  show addB ((q, j) :: (K ++ [(t, k)])) t m = _
  unfold addB
  rw [if_neg (fun e => by subst e; rw [stC_self] at h1; cases h1), if_neg (by omega), add_last fun a ha => h a (List.mem_cons_of_mem _ ha)]; rfl
theorem add_keys {s : List Itm} {m : Nat} : ∀ {L : Brs} {a : List Itm × Nat}, a ∈ addB L s m -> a.1 = s \/ a.1 ∈ L.map Prod.fst
 | [], a, h => by unfold addB at h; rw [List.mem_singleton.1 h]; exact .inl rfl
 | (t, k) :: L, a, h => by
  unfold addB at h
  split at h
  ·rcases List.mem_cons.1 h with h | h
   ·rw [h]; exact .inl rfl
   ·exact .inr (List.mem_map_of_mem (List.mem_cons_of_mem _ h))
  ·split at h
   ·rcases List.mem_cons.1 h with h | h
    ·rw [h]; exact .inl rfl
    ·exact .inr (List.mem_map_of_mem h)
   ·rcases List.mem_cons.1 h with h | h
    ·rw [h]; exact .inr (by simp)
    ·rcases add_keys h with h | h
     ·exact .inl h
     ·exact .inr (by rw [List.map_cons]; exact List.mem_cons_of_mem _ h)
theorem gt_keys : ∀ {P M : Brs} {a : List Itm × Nat}, a ∈ gtB P M -> a.1 ∈ P.map Prod.fst \/ a.1 ∈ M.map Prod.fst
 | [], M, a, h => .inr (List.mem_map_of_mem h)
 | b :: P, M, a, h => by
  rw [gt_cons] at h
  rcases gt_keys h with h | h
  ·exact .inl (by rw [List.map_cons]; exact List.mem_cons_of_mem _ h)
  ·obtain ⟨x, hx, e⟩ := List.mem_map.1 h
   rcases add_keys hx with h | h
   ·exact .inl (by rw [<- e, h]; simp)
   ·exact .inr (by rw [<- e]; exact h)
theorem gt_next {P : Brs} {b : List Itm × Nat} (hs : ∀ a ∈ P, stC a.1 b.1 <= 0) (hp : PosB P) :
 (gtB P [] = [] /\ gtB (P ++ [b]) [] = [b]) \/ ∃ K t k, gtB P [] = K ++ [(t, k)] /\ ((t = b.1 /\ gtB (P ++ [b]) [] = K ++ [(t, min 2 (k + b.2))]) \/ (t ≠ b.1 /\ gtB (P ++ [b]) [] = K ++ [(t, k)] ++ [b])) := by
 rw [gt_app]
 obtain ⟨h1, h2, -⟩ := gt_all P [] hp List.Pairwise.nil (fun a h => by cases h)
 have hk : ∀ a ∈ gtB P [], stC a.1 b.1 <= 0 := fun a ha => by
  rcases gt_keys ha with h | h
  ·obtain ⟨x, hx, e⟩ := List.mem_map.1 h
   rw [<- e]; exact hs x hx
  ·cases h
 rcases List.eq_nil_or_concat (gtB P []) with e | ⟨K, tk, e⟩
 ·rw [e]; exact .inl ⟨rfl, rfl⟩
 ·obtain ⟨t, k⟩ := tk
  rw [List.concat_eq_append] at e
  rw [e] at h1 hk ⊢
  refine .inr ⟨K, t, k, rfl, ?_⟩
  unfold HdSrt at h1
  rw [List.pairwise_append] at h1
  have hK : ∀ a ∈ K, stC a.1 t = -1 := fun a ha => h1.2.2 a ha (t, k) (List.mem_singleton.2 rfl)
  by_cases et : t = b.1
  ·subst et
   exact .inl ⟨rfl, add_last hK⟩
  ·refine .inr ⟨et, add_end fun a ha => ?_⟩
   have h5 : stC t b.1 = -1 := by
    have h6 := hk (t, k) (by simp)
    have h7 := stC_three t b.1
    have h8 := (stC_zero t b.1).1
    rcases h7 with h | h | h
    ·exact h
    ·exact absurd (h8 h) et
    ·simp only at h6; omega
   rcases List.mem_append.1 ha with h | h
   ·exact stC_trans (hK a h) h5
   ·rw [List.mem_singleton.1 h]; exact h5
end Go.Proofs.Ytidoofdofdhjpaa
namespace Go.Proofs.Ytidoofdofdhjpaa
open Go Go.RowKit
set_option linter.unusedVariables false
set_option linter.unusedSimpArgs false
set_option maxRecDepth 100000
def YieldsI (P : Program) (g : Nat) (lb : Array Value) (N : Nat) (ag : Nat -> Array Value) (I : Nat -> World -> Prop) : Prop :=
 ∀ (l : Nat) (J : Nat -> World -> Prop) (W : World), (∀ k W, J k W -> I k W) ->
   (∀ k W1, k < N -> J k W1 -> YieldAt Fence.wide 1 P l (ag k) W1 fun e W' => e = .returned (.bool true) /\ J (k + 1) W') -> J 0 W ->
   CallsIn Fence.wide 2 P g (#[.func (.yield l) #[] #[]] ++ lb) W fun e W' => (∃ v, e = .returned v) /\ J N W'
theorem range_boxedI {P : Program} {g : Operand} {ps : Array Tmp} {assign body : Code} {Q : Exit -> Act -> World -> Prop} {a : Act} {w : World}
 {gf : Nat} {lb : Array Value} (hg : a.eval g = .func (.func gf) #[] lb) (eg : ∀ args w, (callFunc gf args).run P w = .ok (.enter gf args) w)
 {N : Nat} {ag : Nat -> Array Value} {I : Nat -> World -> Prop} {I1 : Nat -> Act -> World -> Prop} (hseq : YieldsI P gf lb N ag I) (hps : ∀ k, (ag k).size = ps.size)
 (hI : ∀ k W l o o', I k W -> w.heap.size <= l -> W.heap[l]? = some o -> o.isCells = false -> I k (W.putObj l o'))
 (hI1 : ∀ k a W l o o', I1 k a W -> w.heap.size <= l -> W.heap[l]? = some o -> o.isCells = false -> I1 k a (W.putObj l o'))
 (h0 : ∀ o o', I 0 ((w.alloc o).alloc o'))
 (hassign : ∀ (l k : Nat) (W : World), k < N -> I k W ->
   assign.wpIn (Fence.wide.inRound l) 1 P (Exit.then (fun a1 W1 => I1 k a1 W1 /\ KeepsFrom w.heap.size W W1) (fun _ _ _ => False)) { tmps := (ps.zip (ag k)).foldl (fun t (p, v) => t.setIfInBounds p v) a.tmps, defers := [] } W)
 (hbody : ∀ (l k : Nat) (a1 : Act) (W1 : World), k < N -> I1 k a1 W1 -> body.wpIn (Fence.wide.inRound l) 1 P (fun e _ W' => e = .normal /\ KeepsFrom w.heap.size W1 W' /\ I (k + 1) W') a1 W1)
 (hdone : ∀ (W : World), I N W -> W.heap[w.heap.size]? = some (.deferred (some [])) -> Q .normal { a with defers := { target := .collected w.heap.size, args := #[] } :: a.defers } W) :
 (Code.rangeFunc g ps assign body).wpIn Fence.wide 3 P Q a w := by
 refine wpIn_rangeFunc fun fn hfn => ?_
 let rc : LoopState -> Loop := fun st => { state := st, pending := none, fn, tmps := a.tmps, params := ps, assign, body, defers := w.heap.size }
 let W1 : World := (w.alloc (.deferred (some []))).alloc (.loop (rc .ready))
 let J : Nat -> World -> Prop := fun k W => I k W /\ W.heap[w.heap.size + 1]? = some (.loop (rc .ready)) /\ W.heap[w.heap.size]? = some (.deferred (some []))
 have hL1 : W1.heap[w.heap.size + 1]? = some (.loop (rc .ready)) := by
  have := World.alloc_heap_new (w.alloc (.deferred (some []))) (.loop (rc .ready))
  rwa [World.size_alloc] at this
 have hK1 : W1.heap[w.heap.size]? = some (.deferred (some [])) := (Below.heap_alloc _ _ _ (by simp)).trans (World.alloc_heap_new w _)
 refine ⟨w.heap.size + 1, [{ target := .collected w.heap.size, args := #[] }], W1, { target := .fn (.func gf) lb, args := #[.func (.yield (w.heap.size + 1)) #[] #[]] }, W1, gf, #[.func (.yield (w.heap.size + 1)) #[] #[]] ++ lb, W1, run_enterLoop_outer _ _ _ _ _, ?_, ?_, ?_, fun _ => by decide, ?_⟩
 ·simp only [resolve, hg]
  simp [go_sem]
 ·intro f' hf'; trivial
 ·simp [invoke, go_sem, eg]
 refine (hseq (w.heap.size + 1) J W1 (fun k W h => h.1) (fun k W hk hJ => ?_) ⟨h0 _ _, hL1, hK1⟩).mono ?_
 ·obtain ⟨hi, hl, hd⟩ := hJ
  refine ⟨fn, _, assign, body, run_yield (P := P) (args := ag k) hl (hps k), roundIn_of_wpIn hfn (wpIn_mono (hassign _ k W hk hi) ?_)⟩
  intro e a1 Wa ha
  cases e with
  | normal =>
   obtain ⟨hi1, hka⟩ := ha
   have hla := hka.same _ _ (by omega) hl rfl
   have hda := hka.same _ _ (Nat.le_refl _) hd rfl
   have hlt : w.heap.size + 1 < Wa.heap.size := (Array.getElem?_eq_some_iff.1 hla).1
   refine ⟨_, run_beginRound hla rfl, ?_⟩
   have hl2 : (Wa.putObj (w.heap.size + 1) (.loop { rc .ready with state := .busy })).heap[w.heap.size + 1]? = some (.loop { rc .ready with state := .busy }) := World.putObj_heap_same hlt
   have hd2 : (Wa.putObj (w.heap.size + 1) (.loop { rc .ready with state := .busy })).heap[w.heap.size]? = some (.deferred (some [])) := (World.putObj_heap_other (by omega)).trans hda
   refine wpIn_mono (hbody _ k a1 _ hk (hI1 k a1 Wa _ _ _ hi1 (by omega) hla rfl)) ?_
   rintro e a3 W3 ⟨rfl, hk3, hi3⟩
   have hl3 := hk3.same _ _ (by omega) hl2 rfl
   have hd3 := hk3.same _ _ (Nat.le_refl _) hd2 rfl
   exact ⟨_, _, run_endRound (P := P) none hl3, rfl, hI _ _ _ _ _ hi3 (by omega) hl3 rfl, World.putObj_heap_same (Array.getElem?_eq_some_iff.1 hl3).1, (World.putObj_heap_other (by omega)).trans hd3⟩
  | _ => exact ha.elim
 ·rintro e W2 ⟨⟨v, rfl⟩, hi, hl, hd⟩
  exact ⟨none, _, run_endLoop (P := P) hl (by simp [rc]), hdone _ (hI _ _ _ _ _ hi (by omega) hl rfl) ((World.putObj_heap_other (by omega)).trans hd)⟩
attribute [local go_sem] Oper.semAt_some
def bwI (N : Nat) (vs : List Itm) (k : Nat) : Array Value := #[.int .i64 ((N - k : Nat) - 1 : Int), .agg (itV (vs.getD (N - k - 1) it0))]
set_option maxHeartbeats 4000000 in
theorem backI_yields (Bs N c : Nat) (A : Option Addr) (vs : List Itm) (I : Nat -> World -> Prop) (hN : N <= 1000000)
 (hI : ∀ k W, I k W -> W.cell? ⟨Bs, 0, none⟩ = some (.slice A N c) /\ ∀ j, j < N -> ∃ b off, A = some ⟨b, off, none⟩ /\ At4 W b (off + j * 4) (vs.getD j it0)) :
 YieldsI Try.prog 84 #[.pointer (some ⟨Bs, 0, none⟩)] N (bwI N vs) I := fun l J W hJI hY h0 => by
 have hc0 := (hI _ _ (hJI _ _ h0)).1
 refine callsIn_of_wp Try.func84 rfl trivial ?_
 simp only [Try.ntmps84, List.size_toArray, List.length_cons, List.length_nil, Nat.reduceAdd, Nat.reduceSub, Array.replicate_succ, Array.replicate_zero, List.push_toArray, List.append_toArray, List.nil_append, List.cons_append]
 have hNz : (N : Int) <= 1000000 := by omega
 gi_wp2
 gi_loopw [3] (fun i wr => ∃ k : Nat, k <= N /\ i = .int .i64 ((N - k : Nat) - 1 : Int) /\ J k wr) (fun i _ => (intOf i + 1).toNat)
 case atStart => exact ⟨0, Nat.zero_le _, rfl, h0⟩
 case round =>
  obtain ⟨k, hk, rfl, hJs⟩ := hrel
  obtain ⟨hc, hcs⟩ := hI k wr (hJI _ _ hJs)
  by_cases hlt : k < N
  ·obtain ⟨j, hj⟩ : ∃ j, N - k = j + 1 := ⟨N - k - 1, by omega⟩
   have hjN : j < N := by omega
   obtain ⟨b, off, rfl, hcell⟩ := hcs j hjN
   obtain ⟨fn, tmps, assign, body, hy, hR⟩ := hY k wr hlt hJs
   have hag : bwI N vs k = #[.int .i64 (j : Int), .agg (itV (vs.getD j it0))] := by
    unfold bwI; rw [hj, show j + 1 - 1 = j by omega, show ((j + 1 : Nat) : Int) - 1 = (j : Int) by omega]
   have e : ((N - k : Nat) : Int) - 1 = (j : Int) := by omega
   rw [e]
   rw [hag] at hy
   generalize vs.getD j it0 = vj at *
   obtain ⟨x0, x1, x2, x3⟩ := hcell
   unfold itV at hy
   have hj0 : ¬ (j : Int) < 0 := by omega
   have hj1 : (0 : Int) <= (j : Int) := by omega
   have hjz : (j : Int) < (N : Int) := by omega
   clear hcs hI hJI hY h0 hag e hc0
   gi_wp2
   refine hR.mono ?_
   rintro e W3 ⟨rfl, hJ3⟩
   gi_wp2
   go_roundw
   case rel => exact ⟨k + 1, by omega, by rw [show N - (k + 1) = j by omega], hJ3⟩
   case measure => simp [intOf]
  ·obtain rfl : k = N := by omega
   have e : ((k - k : Nat) : Int) - 1 = -1 := by omega
   rw [e]
   clear hcs
   gi_wp2
   go_end0
   exact ⟨⟨_, rfl⟩, hJs⟩
set_option maxHeartbeats 4000000 in
theorem backwardI_any (N c : Nat) (A : Option Addr) (w : World) :
 Calls Try.prog 64 #[.slice A N c] w (fun e w' => e = .returned (.func (.func 84) #[] #[.pointer (some ⟨w.heap.size, 0, none⟩)]) /\ w' = w.alloc (.cells #[.slice A N c] 25)) := by
 go_enter Try.func64, Try.ntmps64
 go_wp2
 go_ret
 exact ⟨rfl, rfl⟩
end Go.Proofs.Ytidoofdofdhjpaa
namespace Go.Proofs.Ytidoofdofdhjpaa
open Go Go.RowKit
set_option linter.unusedVariables false
set_option linter.unusedSimpArgs false
set_option maxRecDepth 100000
theorem upon_round {l n : Nat} {P : Program} {o : Oper} {a : Act} {next next' : Act -> World -> Prop} {Q : Exit -> Act -> World -> Prop} (hno : ¬ LetsOut Q) (hn : ∀ a w, next a w -> next' a w) {r : Result Next} (h : o.upon P a next Q r) : o.uponIn (Fence.wide.inRound l) n P a next' Q r := by
 unfold Oper.upon at h
 split at h
 ·exact hn _ _ h
 ·exact hn _ _ h
 ·exact hn _ _ h
 ·refine ⟨fun hd => (by cases hd), CallsIn.inRound l (callsIn_wide.2 (h.mono ?_))⟩
  intro e w' hr
  cases e with
  | returned v => exact hn _ _ hr
  | panicked c => exact hr
  | outgrown => exact absurd hr hno
 ·refine ⟨fun hd => (by cases hd), fun c cs _ => ?_⟩
  obtain ⟨v, w', hr, hs⟩ := h c cs
  exact ⟨v, w', hn _ _ hr, stepsIn_wide.2 hs⟩
 ·exact h
 ·exact h.elim
theorem ops_round {l n : Nat} {P : Program} {ops : Array Oper} {Q : Exit -> Act -> World -> Prop} (hno : ¬ LetsOut Q) (hnd : ∀ (i : Nat) (o : Oper), ops[i]? = some o -> ∀ c, o.op ≠ .defer c) : ∀ (sched : List Nat) (a : Act) (w : World), wpOps P ops Q sched a w -> wpOpsIn (Fence.wide.inRound l) n P ops Q sched a w
 | [], a, w, h => h
 | i :: rest, a, w, h => by
  unfold wpOps at h
  unfold wpOpsIn
  cases ho : ops[i]? with
  | none => rw [ho] at h; exact ops_round hno hnd rest a w h
  | some o =>
   rw [ho] at h
   simp only at h ⊢
   split at h
   ·rename_i hw
    rw [if_pos hw]
    refine ⟨fun _ _ => trivial, ?_⟩
    rcases h with h | ⟨-, h⟩
    ·unfold Oper.wp at h
     rw [Oper.semAt_eq _ _ _ (hnd i o ho)]
     exact upon_round hno (fun a w => ops_round hno hnd rest a w) h
    ·exact absurd h hno
   ·rename_i hw
    rw [if_neg hw]
    exact ⟨fun _ _ => trivial, ops_round hno hnd rest _ w h⟩
def noDefer (ops : Array Oper) : Bool := ops.toList.all fun o => match o.op with
 | .defer _ => false
 | _ => true
theorem noDefer_of {ops : Array Oper} (h : noDefer ops = true) : ∀ (i : Nat) (o : Oper), ops[i]? = some o -> ∀ c, o.op ≠ .defer c := fun i o ho c e => by
 unfold noDefer at h
 have hm : o ∈ ops.toList := List.mem_of_getElem? (by rw [Array.getElem?_toList]; exact ho)
 have := List.all_eq_true.1 h o hm
 rw [e] at this
 cases this
end Go.Proofs.Ytidoofdofdhjpaa
namespace Go.Proofs.Ytidoofdofdhjpaa.G
open Go Go.RowKit
set_option linter.unusedVariables false
set_option linter.unusedSimpArgs false
set_option maxRecDepth 100000
theorem round_region_last {P : Program} {Q : Exit -> Act -> World -> Prop} {ops : Array Oper} {a0 : Act} {R : World -> World -> Prop} {l n : Nat} {id : Nat} {w : World} (hR : ∀ w w', Below w.heap.size w w' -> R w w') (S : World -> Prop) (hSt : ∀ w w', S w -> R w w' -> S w') (plan : List (List (Tmp × Option Nat))) {o : Oper} (hops : ops.toList.getLast? = some o)
 (hm : P.follows .mixedOrders = true) (hck : okRegion ops a0.tmps.size = true) (hlast : lastOk ops = true) (hnd : noDefer ops = true) (hno : ¬ LetsOut Q)
 (hplan : ops.toList.dropLast.map (readsOf ops) = plan) (hS : S w) (h : Chain R P Q (fun a w => o.wp P a w (fun a w => Q .normal a w) Q) a0 S ops.toList.dropLast (ops.toList.dropLast.zip plan) 0 []) : (Code.region id ops true).wpIn (Fence.wide.inRound l) n P Q a0 w := by
 subst hplan
 obtain ⟨front, hf⟩ : ∃ front, ops.toList = front ++ [o] := by
  rw [List.getLast?_eq_some_iff] at hops
  exact hops
 have hdl : ops.toList.dropLast = front := by rw [hf]; simp
 rw [hdl] at h
 have hsz : ops.size = front.length + 1 := by rw [<- Array.length_toList, hf]; simp
 have ht : ops.toList.take front.length = front := by rw [hf]; simp
 have ho : ops[front.length]? = some o := by
  rw [<- Array.getElem?_toList, hf]; simp
 have hany : ∀ w, S w -> wpAny P .any ops Q ops.size (Array.replicate ops.size false) a0 w := fun w hS => by
  refine any_of_chain hR (K := fun a w => o.wp P a w (fun a w => Q .normal a w) Q) (nf := front.length) hSt hck (by omega) (.inr (.inl ⟨hsz.symm, o, ho, ?_, ?_, fun _ _ h => h⟩)) hS (by rw [ht]; exact h)
  ·unfold lastOk at hlast
   rw [show ops.size - 1 = front.length by omega, ho] at hlast
   simp only [Bool.and_eq_true] at hlast
   simpa using hlast.1
  ·intro j hj
   unfold lastOk at hlast
   rw [show ops.size - 1 = front.length by omega, ho] at hlast
   simp only [Bool.and_eq_true] at hlast
   exact all_range hlast.2 hj
 exact wpIn_region_draw fun t => by
  simp only [Region.schedule, hm, Bool.true_or, if_true]
  exact ops_round hno (noDefer_of hnd) _ _ _ (wpAny_sound ops.size t _ a0 _ (hany w.drew (hSt w _ hS (hR _ _ (Below.refl _ _).drew))))
end Go.Proofs.Ytidoofdofdhjpaa.G
