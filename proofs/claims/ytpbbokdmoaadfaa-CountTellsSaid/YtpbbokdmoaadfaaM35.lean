/- Counting: a repeat's rows, one Kid after another. Mathematics. -/
import Derived.Test.YtpbbokdmoaadfaaM32
import Derived.Test.YtpbbokdmoaadfaaM34
import Derived.Test.YtpbbokdmoaadfaaM03
import Derived.Test.YtpbbokdmoaadfaaM14
import Derived.Test.YtpbbokdmoaadfaaM10
import Derived.Test.YtpbbokdmoaadfaaM07
import Derived.RangeFuncNested
import Derived.RangeFuncBound
import Derived.RangeFuncCalls
import Derived.RangeFuncLeaves
import Derived.RangeFuncBox
import Derived.Shelf.Abstract
import Derived.WalkKit
import Derived.OwnWalkIn
import Derived.TacticsInMore
import Derived.LoopNIn
import Derived.LoopIn
namespace Go.Proofs.Ytpbbokdmoaadfaa
open Go Go.RowKit
set_option linter.unusedVariables false
set_option linter.unusedSimpArgs false
set_option maxRecDepth 100000
theorem tV_more {l : List Nd} {i : Nat} {W : Wd} {a b t : Nat} (hF : Form l) (hi : i < l.length) (h : a <= b) (hb : b <= W.length) : tV l i (t + 1) W a b = sg b fun p => tV l i t W a p * cV l i W p b := by
  conv => lhs; unfold tV
  rw [if_pos h, cntT_more hF hi, sgW_len hb]
  unfold sg
  refine Eq.trans ?_ (sum_mid (a := a) (m := b - a) (by omega) ?_).symm
  · congr 1
    refine List.map_congr_left fun k hk => ?_
    have hk := List.mem_range.1 hk
    unfold tV cV
    rw [if_pos (by omega), if_pos (by omega), sgW_take (by omega), sgW_drop]
  · intro k hk h'
    unfold tV cV
    rcases h' with h' | h'
    · rw [if_neg (c := a <= k) (by omega), Nat.zero_mul]
    · omega
theorem tV_now {l : List Nd} {i : Nat} {W : Wd} {a b t : Nat} : min 2 (tV l i t W a b) = nowV l i W a t b := by
  unfold tV nowV; split <;> rfl
theorem rp_len {l : List Nd} {i : Nat} {W : Wd} {a b t : Nat} (hF : Form l) (hi : i < l.length) (h : a <= b) : (rtE (EN l i) t (sgW W a b)).length = tV l i t W a b := by
  rw [rtE_length hF hi (EN_length hF hi)]; unfold tV; rw [if_pos h]
theorem rp_step {l : List Nd} {i : Nat} {W : Wd} {fr tt t rk : Nat} (hF : Form l) (hi : i < l.length) (ht : fr <= tt) (htt : tt <= W.length) {ys : List Vl} (h : (rtE (EN l i) (t + 1) (sgW W fr tt))[rk]? = some ys) :
    rk < sg tt (kdf l i W tt (tV l i t W fr)) /\ ∀ q r s v, q < tt -> r < tV l i t W fr q -> rk = upS q tt (kdf l i W tt (tV l i t W fr)) + (r * cV l i W q tt + s) -> (EN l i (sgW W q tt))[s]? = some v -> fr <= q /\ ∃ ys', (rtE (EN l i) t (sgW W fr q))[r]? = some ys' /\ ys = ys' ++ [v] := by
  constructor
  · have h1 : rk < tV l i (t + 1) W fr tt := by rw [<- rp_len hF hi ht]; exact (List.getElem?_eq_some_iff.1 h).1
    rw [tV_more hF hi ht htt] at h1
    simpa [kdf] using h1
  · intro q r s v hq hr hrk hv
    have hfq : fr <= q := by
      by_cases h2 : fr <= q
      · exact h2
      · exfalso; unfold tV at hr; rw [if_neg h2] at hr; omega
    have hr2 : r < (rtE (EN l i) t (sgW W fr q)).length := by rw [rp_len hF hi hfq]; exact hr
    refine ⟨hfq, _, List.getElem?_eq_getElem hr2, ?_⟩
    have := idx_times hF hi hfq hq htt (List.getElem?_eq_getElem hr2) hv
    rw [show upS q tt (fun q => tV l i t W fr q * cV l i W q tt) = upS q tt (kdf l i W tt (tV l i t W fr)) from rfl, <- hrk, h] at this
    exact Option.some.inj this
theorem rp_ends {l : List Nd} {i : Nat} {W : Wd} {fr tt rk : Nat} (ht : fr <= tt) (htt : tt <= W.length) {ys : List Vl} (h : (rtE (EN l i) 0 (sgW W fr tt))[rk]? = some ys) : ys = [] /\ tt = fr := by
  change (if sgW W fr tt = [] then [[]] else [])[rk]? = some ys at h
  split at h
  case isTrue e =>
    refine ⟨?_, (sgW_nil htt ht).1 e⟩
    cases rk with
    | zero => exact (Option.some.inj h).symm
    | succ r => cases h
  case isFalse e => cases h
theorem rp_less {l : List Nd} {i : Nat} {W : Wd} {fr : Nat} (hF : Form l) (hi : i < l.length) (k : Nat) : ∀ (d tt rk : Nat) (ys : List Vl), fr <= tt -> tt <= W.length -> (rtE (EN l i) (k + d) (sgW W fr tt))[rk]? = some ys -> ∃ p, fr <= p /\ p <= tt /\ tV l i k W fr p ≠ 0
  | 0, tt, rk, ys, ht, htt, h => ⟨tt, ht, Nat.le_refl _, by rw [<- rp_len hF hi ht]; have := (List.getElem?_eq_some_iff.1 h).1; rw [Nat.add_zero] at this; omega⟩
  | d + 1, tt, rk, ys, ht, htt, h => by
    obtain ⟨h1, -⟩ := rp_step (t := k + d) hF hi ht htt h
    have hne : ∃ q, q < tt /\ tV l i (k + d) W fr q ≠ 0 := by
      apply Classical.byContradiction
      intro hc
      have : sg tt (kdf l i W tt (tV l i (k + d) W fr)) = 0 := sg_nil fun q hq => by
        have h0 : tV l i (k + d) W fr q = 0 := Classical.byContradiction fun h2 => hc ⟨q, hq, h2⟩
        unfold kdf; rw [h0, Nat.zero_mul]
      omega
    obtain ⟨q, hq, hqn⟩ := hne
    have hfq : fr <= q := Classical.byContradiction fun h2 => hqn (by unfold tV; rw [if_neg h2])
    have hl : 0 < (rtE (EN l i) (k + d) (sgW W fr q)).length := by rw [rp_len hF hi hfq]; omega
    obtain ⟨p, h3, h4, h5⟩ := rp_less hF hi k d q 0 _ hfq (by omega) (List.getElem?_eq_getElem hl)
    exact ⟨p, h3, by omega, h5⟩
theorem rp_some {l : List Nd} {i : Nat} {W : Wd} {fr tt k d rk : Nat} {ys : List Vl} (hF : Form l) (hi : i < l.length) (ht : fr <= tt) (htt : tt <= W.length) (h : (rtE (EN l i) (k + d) (sgW W fr tt))[rk]? = some ys) : plF (W.length + 1) (nowV l i W fr k) ≠ [] := fun e => by
  obtain ⟨p, h1, h2, h3⟩ := rp_less hF hi k d tt rk ys ht htt h
  have hm : (p, nowV l i W fr k p) ∈ plF (W.length + 1) (nowV l i W fr k) := mem_plF.2 ⟨by show p < W.length + 1; omega, rfl, by show nowV l i W fr k p ≠ 0; rw [<- tV_now]; omega⟩
  rw [e] at hm; cases hm
theorem rp_more {l : List Nd} {i : Nat} {W : Wd} {fr t : Nat} (hF : Form l) (hi : i < l.length) : plF (W.length + 1) (fun b => min 2 (sg (W.length + 1) fun p => nowV l i W fr t p * if p < b then rowV l i W p b else 0)) = plF (W.length + 1) (nowV l i W fr (t + 1)) := plF_congr fun b hb => by
  rw [<- now_more hF hi (by omega)]
  congr 1
  refine sg_congr fun p hp => ?_
  congr 1
  by_cases h1 : p < b
  · rw [if_pos h1, if_neg (by omega)]
  · rw [if_neg h1]
    by_cases h2 : b = p
    · rw [if_pos h2]
    · rw [if_neg h2]; unfold rowV; rw [if_neg (by omega)]
def rpL (G : Nat -> List (List Vl)) (k n : Nat) : List (List Vl) := ((List.range n).map fun t => k + t).flatMap G
theorem rpL_succ {G : Nat -> List (List Vl)} {k n : Nat} : rpL G k (n + 1) = G k ++ rpL G (k + 1) n := by
  unfold rpL
  rw [List.range_succ_eq_map, List.map_cons, List.flatMap_cons, List.map_map]
  congr 2
  refine List.map_congr_left fun t _ => ?_
  simp; omega
theorem rpL_of {G : Nat -> List (List Vl)} {k n : Nat} : ((List.range n).flatMap fun t => G (k + t)) = rpL G k n := by
  unfold rpL; rw [List.flatMap_map]
theorem rpL_step {G : Nat -> List (List Vl)} {k n r : Nat} {xs : List Vl} (h : (rpL G k n)[r]? = some xs) : ∃ n', n = n' + 1 /\ ((r < (G k).length /\ (G k)[r]? = some xs) \/ ((G k).length <= r /\ (rpL G (k + 1) n')[r - (G k).length]? = some xs)) := by
  cases n with
  | zero => unfold rpL at h; simp at h
  | succ n =>
    refine ⟨n, rfl, ?_⟩
    rw [rpL_succ] at h
    by_cases hr : r < (G k).length
    · rw [List.getElem?_append_left hr] at h; exact .inl ⟨hr, h⟩
    · rw [List.getElem?_append_right (by omega)] at h; exact .inr ⟨by omega, h⟩
theorem rpL_some {G : Nat -> List (List Vl)} : ∀ {n k r : Nat} {xs : List Vl}, (rpL G k n)[r]? = some xs -> ∃ (d r' : Nat), d < n /\ (G (k + d))[r']? = some xs
  | 0, k, r, xs, h => by unfold rpL at h; simp at h
  | n + 1, k, r, xs, h => by
    obtain ⟨n', e, ⟨-, h2⟩ | ⟨-, h2⟩⟩ := rpL_step h
    · exact ⟨0, r, by omega, h2⟩
    · cases e
      obtain ⟨d, r', h3, h4⟩ := rpL_some h2
      exact ⟨d + 1, r', by omega, by rw [show k + (d + 1) = k + 1 + d by omega]; exact h4⟩
theorem Kc.putObj {W : World} {B k : Nat} {o o' : Obj} (h : W.heap[k]? = some o) (hn : o.isCells = false) : Kc B W (W.putObj k o') := by
  have hs : (W.putObj k o').heap.size = W.heap.size := by simp [World.putObj]
  refine ⟨by rw [hs]; exact Nat.le_refl _, fun j _ vs t hb => ?_, fun p v _ hc => ?_⟩
  · refine Eq.trans (World.putObj_heap_other fun e => ?_) hb
    subst e
    unfold Blk at hb
    rw [h] at hb
    have e := Option.some.inj hb
    subst e
    cases hn
  · have hne : p.block ≠ k := fun e => by
      unfold World.cell? at hc
      rw [e, h] at hc
      cases o with
      | cells vs t f => cases hn
      | _ => cases hc
    rw [World.cell?_of_block (World.putObj_heap_other hne)]
    exact hc
theorem Rk.putObj {m : Nat} {l : List Nd} {V : Wd} {B k : Nat} {o o' : Obj} {w0 W : World} (h : Rk m l V B [] w0 W) (hB : B <= k) (h0 : w0.heap.size <= k) (hm : m < B) (hk : W.heap[k]? = some o) (hn : o.isCells = false) : Rk m l V B [] w0 (W.putObj k o') := by
  have hs : (W.putObj k o').heap.size = W.heap.size := by simp [World.putObj]
  refine ⟨h.os, h.tape, h.output, by rw [hs]; exact h.size, fun b hb hne => (World.putObj_heap_other (by omega)).trans (h.block b hb hne), (fun g hg => by cases hg), fun X hX hK => ?_, fun b o2 hb ho h2 => (World.putObj_heap_other fun e => ?_).trans (h.nc b o2 hb ho h2)⟩
  · refine ((h.map X hX hK).keep (fun es hme => (World.putObj_heap_other (by omega)).trans hme) fun b cur _ hb => (Kc.putObj (B := b + 1) hk hn).block b (Nat.lt_succ_self _) _ _ hb).less fun g hg => .inl hg
  · subst e
    have := (Array.getElem?_eq_some_iff.1 ho).1
    omega
def rpR (l : List Nd) (a : Nat) (W : Wd) (fr k : Nat) : List (List (Nat × Nat)) := (List.range k).map fun t => plF (W.length + 1) (nowV l a W fr t)
theorem rpR_length {l : List Nd} {a : Nat} {W : Wd} {fr k : Nat} : (rpR l a W fr k).length = k := by simp [rpR]
theorem rpR_succ {l : List Nd} {a : Nat} {W : Wd} {fr k : Nat} : rpR l a W fr (k + 1) = rpR l a W fr k ++ [plF (W.length + 1) (nowV l a W fr k)] := by unfold rpR; rw [List.range_succ, List.map_append]; rfl
theorem rpR_get {l : List Nd} {a : Nat} {W : Wd} {fr k j : Nat} (hj : j < k) : (rpR l a W fr k).getD j [] = plF (W.length + 1) (nowV l a W fr j) := by
  unfold rpR
  rw [List.getD_eq_getElem?_getD, List.getElem?_map, List.getElem?_range hj]; rfl
structure RkidS (m : Nat) (A : Option Addr) (l : List Nd) (c : Nat) (u : Value) (W V : Wd) (rb a fr k j hb : Nat) (nd : Value) (list v : Value) (vs : List Value) (w1 w : World) : Prop where
  rk : Rk m l V w1.heap.size [] w1 w
  rd : Rdr rb A l c u W V m w
  box : Blk w hb #[nd] 80
  own : OwnLs w w1.heap.size v vs
  ls : LsR w vs (rpR l a W fr k)
  cur : IsR w list (plF (W.length + 1) (nowV l a W fr j))
section
variable {m : Nat} {A : Option Addr} {l : List Nd} {c : Nat} {u : Value} {W V : Wd} {rb a fr k j hb : Nat} {nd list v : Value} {vs : List Value} {w1 w w' : World}
theorem RkidS.later (h : RkidS m A l c u W V rb a fr k j hb nd list v vs w1 w) (hb' : Below w.heap.size w w') : RkidS m A l c u W V rb a fr k j hb nd list v vs w1 w' :=
  ⟨h.rk.later h.rk.size hb', h.rd.later hb', h.box.later hb', h.own.later hb', h.ls.keep fun b cur k => k.later hb', by
    obtain ⟨A', c', h1, h2, h3⟩ := h.cur
    exact ⟨A', c', h1, h2, h3.later hb'⟩⟩
theorem RkidS.grow (h : RkidS m A l c u W V rb a fr k k hb nd list v vs w1 w) (hr1 : Rdr rb A l c u W V m w1) {v' : Value} {A2 : Option Addr} {n2 c2 : Nat} (hl : list = .slice A2 n2 c2) (ho : OwnLs w' w1.heap.size v' (vs ++ [.slice A2 n2 c2])) (hg : w.grownBy w' v.ownBlock) :
    RkidS m A l c u W V rb a fr (k + 1) k hb nd list v' (vs ++ [.slice A2 n2 c2]) w1 w' := by
  have hkp : ∀ b cur, Blk w b cur 92 -> Blk w' b cur 92 := fun b cur hb => (hg.block b hb.lt (fun e => own_typedU h.own hb (by decide) b e.symm rfl)).trans hb
  have rk' : Rk m l V w1.heap.size [] w1 w' := h.rk.growT h.rk.size h.own (by decide) hg
  have hcur : IsR w' list (plF (W.length + 1) (nowV l a W fr k)) := by
    obtain ⟨A', c', h1, h2, h3⟩ := h.cur
    exact ⟨A', c', h1, h2, h3.keep hkp⟩
  refine ⟨rk', hr1.at_ (Nat.le_refl _) rk', (hg.block hb h.box.lt (fun e => own_typedU h.own h.box (by decide) hb e.symm rfl)).trans h.box, ho, ?_, hcur⟩
  rw [rpR_succ]
  rw [hl] at hcur
  exact (h.ls.keep hkp).snoc hcur
theorem RkidS.next (h : RkidS m A l c u W V rb a fr (k + 1) k hb nd list v vs w1 w) {v9 : Value} (hi : IsR w' v9 (plF (W.length + 1) (nowV l a W fr (k + 1)))) (hk : Rk m l V w.heap.size [] w w') : RkidS m A l c u W V rb a fr (k + 1) (k + 1) hb nd v9 v vs w1 w' :=
  have kc := hk.kc ⟨_, h.rd.kept⟩
  ⟨h.rk.call h.rk.size hk, h.rd.rk hk, kc.block _ h.box.lt _ _ h.box, kc.owns h.own, h.ls.kc kc, hi⟩
end
abbrev RpG (l : List Nd) (a : Nat) (W : Wd) (fr to_ : Nat) (t : Nat) : List (List Vl) := rtE (EN l a) t (sgW W fr to_)
def RpC (l : List Nd) (a : Nat) (W : Wd) (fr to_ lo N k r : Nat) (xs : List Vl) : Prop := (rpL (RpG l a W fr to_) (max k lo) (lo + N - max k lo))[r]? = some xs
def RkidL (m : Nat) (A : Option Addr) (l : List Nd) (c : Nat) (u : Value) (W V : Wd) (rb a fr to_ lo N hb : Nat) (nd : Value) (xs : List Vl) (w1 : World) (x4 x11 x12 x13 : Value) (w : World) : Prop :=
  ∃ (k r : Nat) (vs : List Value), k <= lo + N /\ r <= 1 /\ x4 = .int .i64 (r : Int) /\ x13 = .int .i64 (k : Int) /\ RpC l a W fr to_ lo N k r xs /\ RkidS m A l c u W V rb a fr k k hb nd x11 x12 vs w1 w
theorem RpC.next {l : List Nd} {a : Nat} {W : Wd} {fr to_ lo N k r : Nat} {xs : List Vl} (h : RpC l a W fr to_ lo N k r xs) (hk : k < lo) : RpC l a W fr to_ lo N (k + 1) r xs := by
  unfold RpC at h ⊢
  rw [show max (k + 1) lo = max k lo by omega]; exact h
theorem RpC.step {l : List Nd} {a : Nat} {W : Wd} {fr to_ lo N k r : Nat} {xs : List Vl} (hF : Form l) (ha : a < l.length) (ht : fr <= to_) (hr : r <= 1) (h : RpC l a W fr to_ lo N k r xs) (hk : lo <= k) : k < lo + N /\ (r < nowV l a W fr k to_ -> (rtE (EN l a) k (sgW W fr to_))[r]? = some xs) /\ (¬ r < nowV l a W fr k to_ -> nowV l a W fr k to_ <= r /\ RpC l a W fr to_ lo N (k + 1) (r - nowV l a W fr k to_) xs) := by
  unfold RpC at h
  rw [show max k lo = k by omega] at h
  obtain ⟨n, hn, h2⟩ := rpL_step h
  have hl : (RpG l a W fr to_ k).length = tV l a k W fr to_ := rp_len hF ha ht
  have hw : nowV l a W fr k to_ = min 2 (tV l a k W fr to_) := tV_now.symm
  rw [hl] at h2
  refine ⟨by omega, fun hlt => ?_, fun hge => ?_⟩
  · rcases h2 with ⟨-, h3⟩ | ⟨h3, -⟩
    · exact h3
    · omega
  · rcases h2 with ⟨h3, -⟩ | ⟨h3, h4⟩
    · omega
    · have e : nowV l a W fr k to_ = tV l a k W fr to_ := by omega
      refine ⟨by omega, ?_⟩
      unfold RpC
      rw [show max (k + 1) lo = k + 1 by omega, show lo + N - (k + 1) = n by omega, e]
      exact h4
theorem RpC.some {l : List Nd} {a : Nat} {W : Wd} {fr to_ lo N k r : Nat} {xs : List Vl} (hF : Form l) (ha : a < l.length) (ht : fr <= to_) (htt : to_ <= W.length) {j : Nat} (hj : j <= k) (h : RpC l a W fr to_ lo N k r xs) : plF (W.length + 1) (nowV l a W fr j) ≠ [] /\ k < lo + N := by
  unfold RpC at h
  obtain ⟨d, r', h1, h2⟩ := rpL_some h
  refine ⟨rp_some (d := max k lo - j + d) hF ha ht htt (rk := r') (ys := xs) ?_, by omega⟩
  rw [show j + (max k lo - j + d) = max k lo + d by omega]
  exact h2
structure RkbS (m : Nat) (l : List Nd) (V : Wd) (rb N c : Nat) (A : Option Addr) (tt rk : Nat) (tv : Value) (L : List VCl) (w4 w : World) : Prop where
  kp : Rk m l V w4.heap.size [] w4 w
  wk : Wk w4.heap.size w4.heap.size rb tt rk tv L w
  bx : Blk w (w4.heap.size + 1) #[.pointer (some ⟨w4.heap.size, 0, none⟩)] 100
  bs : Blk w (w4.heap.size + 2) #[.slice A N c] 99
theorem RkbS.later {m : Nat} {l : List Nd} {V : Wd} {rb N c : Nat} {A : Option Addr} {tt rk : Nat} {tv : Value} {L : List VCl} {w4 w w' : World} (h : RkbS m l V rb N c A tt rk tv L w4 w) (hb : Below w.heap.size w w') : RkbS m l V rb N c A tt rk tv L w4 w' :=
  ⟨h.kp.later h.kp.size hb, h.wk.later hb, h.bx.later hb, h.bs.later hb⟩
theorem RkbS.putObj {m : Nat} {l : List Nd} {V : Wd} {rb N c : Nat} {A : Option Addr} {tt rk : Nat} {tv : Value} {L : List VCl} {w4 w : World} (h : RkbS m l V rb N c A tt rk tv L w4 w) {k : Nat} {o o' : Obj} (hB : w4.heap.size <= k) (hm : m < w4.heap.size) (hk : w.heap[k]? = some o) (hn : o.isCells = false) : RkbS m l V rb N c A tt rk tv L w4 (w.putObj k o') :=
  have kc : Kc w.heap.size w (w.putObj k o') := Kc.putObj hk hn
  ⟨h.kp.putObj hB hB hm hk hn, h.wk.kc kc, kc.block _ h.bx.lt _ _ h.bx, kc.block _ h.bs.lt _ _ h.bs⟩
def RkbI (m : Nat) (l : List Nd) (V : Wd) (ai : Nat) (W : Wd) (rb K c : Nat) (A : Option Addr) (fr to_ : Nat) (xs : List Vl) (w4 : World) (k : Nat) (w : World) : Prop :=
  ∃ (tt rk : Nat) (tv : Value) (L : List VCl) (ys : List Vl), k <= K /\ fr <= tt /\ tt <= to_ /\ rk <= 1 /\ L.length = k /\ (rtE (EN l ai) (K - k) (sgW W fr tt))[rk]? = some ys /\ xs = ys ++ (L.map (·.v)).reverse /\ RkbS m l V rb K c A tt rk tv L w4 w
theorem RkbI.later {m : Nat} {l : List Nd} {V : Wd} {ai : Nat} {W : Wd} {rb K c : Nat} {A : Option Addr} {fr to_ : Nat} {xs : List Vl} {w4 : World} {k : Nat} {w w' : World} (h : RkbI m l V ai W rb K c A fr to_ xs w4 k w) (hb : Below w.heap.size w w') : RkbI m l V ai W rb K c A fr to_ xs w4 k w' := by
  obtain ⟨t1, r1, tv, L, ys, q1, q2, q3, q4, q5, q6, q7, hs⟩ := h
  exact ⟨t1, r1, tv, L, ys, q1, q2, q3, q4, q5, q6, q7, hs.later hb⟩
theorem upon_round {l n : Nat} {P : Program} {o : Oper} {a : Act} {next next' : Act -> World -> Prop} {Q : Exit -> Act -> World -> Prop} (hno : ¬ LetsOut Q) (hn : ∀ a w, next a w -> next' a w) {r : Result Next} (h : o.upon P a next Q r) : o.uponIn (Fence.wide.inRound l) n P a next' Q r := by
  unfold Oper.upon at h
  split at h
  · exact hn _ _ h
  · exact hn _ _ h
  · exact hn _ _ h
  · refine ⟨fun hd => (by cases hd), CallsIn.inRound l (callsIn_wide.2 (h.mono ?_))⟩
    intro e w' hr
    cases e with
    | returned v => exact hn _ _ hr
    | panicked c => exact hr
    | outgrown => exact absurd hr hno
  · refine ⟨fun hd => (by cases hd), fun c cs _ => ?_⟩
    obtain ⟨v, w', hr, hs⟩ := h c cs
    exact ⟨v, w', hn _ _ hr, stepsIn_wide.2 hs⟩
  · exact h
  · exact h.elim
theorem ops_round {l n : Nat} {P : Program} {ops : Array Oper} {Q : Exit -> Act -> World -> Prop} (hno : ¬ LetsOut Q) (hnd : ∀ (i : Nat) (o : Oper), ops[i]? = some o -> ∀ c, o.op ≠ .defer c) : ∀ (sched : List Nat) (a : Act) (w : World), wpOps P ops Q sched a w -> wpOpsIn (Fence.wide.inRound l) n P ops Q sched a w
  | [], a, w, h => h
  | i :: rest, a, w, h => by
    unfold wpOps at h
    unfold wpOpsIn
    cases ho : ops[i]? with
    | none => rw [ho] at h; exact ops_round hno hnd rest a w h
    | some o =>
      rw [ho] at h
      simp only at h ⊢
      split at h
      · rename_i hw
        rw [if_pos hw]
        refine ⟨fun _ _ => trivial, ?_⟩
        rcases h with h | ⟨-, h⟩
        · unfold Oper.wp at h
          rw [Oper.semAt_eq _ _ _ (hnd i o ho)]
          exact upon_round hno (fun a w => ops_round hno hnd rest a w) h
        · exact absurd h hno
      · rename_i hw
        rw [if_neg hw]
        exact ⟨fun _ _ => trivial, ops_round hno hnd rest _ w h⟩
def noDefer (ops : Array Oper) : Bool := ops.toList.all fun o => match o.op with
  | .defer _ => false
  | _ => true
theorem noDefer_of {ops : Array Oper} (h : noDefer ops = true) : ∀ (i : Nat) (o : Oper), ops[i]? = some o -> ∀ c, o.op ≠ .defer c := fun i o ho c e => by
  unfold noDefer at h
  have hm : o ∈ ops.toList := List.mem_of_getElem? (by rw [Array.getElem?_toList]; exact ho)
  have := List.all_eq_true.1 h o hm
  rw [e] at this
  cases this
theorem round_region_tail {P : Program} {Q : Exit -> Act -> World -> Prop} {ops : Array Oper} {a0 : Act} {l n : Nat} {id : Nat} {w : World} (nf : Nat) (S : World -> Prop) (hSt : ∀ w w', S w -> Below w.heap.size w w' -> S w') (plan : List (List (Tmp × Option Nat))) {fr tl : List Oper} (hfr : ops.toList.take nf = fr) (htl : ops.toList.drop nf = tl)
    (hm : P.follows .mixedOrders = true) (hck : okRegion ops a0.tmps.size = true) (hlast : tailOk ops nf = true) (hnd : noDefer ops = true)
    (hplan : fr.map (readsOf ops) = plan) (hno : ¬ LetsOut Q) (hS : S w) (h : Chain P Q (fun a w => wpList P ops Q tl a w) a0 S fr (fr.zip plan) 0 []) : (Code.region id ops true).wpIn (Fence.wide.inRound l) n P Q a0 w := by
  subst hfr; subst htl; subst hplan
  unfold tailOk at hlast
  simp only [Bool.and_eq_true, decide_eq_true_eq] at hlast
  obtain ⟨hnf, hall⟩ := hlast
  have hdep : ∀ i, nf <= i -> i < ops.size -> ∀ j, j < i -> depB ops ops.size i j = true := fun i h1 h2 j hj => by
    have := all_range hall h2
    simp only [Bool.or_eq_true, decide_eq_true_eq] at this
    rcases this with h | h
    · omega
    · exact all_range h hj
  have hany : ∀ w, S w -> wpAny P .any ops Q ops.size (Array.replicate ops.size false) a0 w := fun w hS =>
    any_of_chain (K := fun a w => wpList P ops Q (ops.toList.drop nf) a w) (nf := nf) hSt hck hnf (.inr (.inr (.inr ⟨hnf, hdep, fun _ _ h => h⟩))) hS h
  exact wpIn_region_draw fun t => by
    simp only [Region.schedule, hm, Bool.true_or, if_true]
    exact ops_round hno (noDefer_of hnd) _ _ _ (wpAny_sound ops.size t _ a0 _ (hany w.drew (hSt w _ hS (Below.refl _ _).drew)))
attribute [local go_sem] Oper.semAt_some
theorem rkb_kid {l : List Nd} {c m ba oa : Nat} {V : Wd} {ai : Nat} (hF : Form l) (hai : ai < l.length) (hn : V.length <= 900) (hE : EndsC (some ⟨ba, oa, none⟩) l c m V ai) (hV : ValC (some ⟨ba, oa, none⟩) l c m V ai)
    {rb : Nat} {u : Value} {W : Wd} {fr tt K hb : Nat} {nd list v : Value} {vs : List Value} {xs : List Vl} {aS : Option Addr} {cS : Nat} {w1 w4 : World} (hW : W <+: V) (htt : tt <= W.length) (hK : K <= 256)
    (h4 : RkidS m (some ⟨ba, oa, none⟩) l c u W V rb ai fr K K hb nd list v vs w1 w4) {k : Nat} {w : World} (hk : k < K) (h : RkbI m l V ai W rb K cS aS fr tt xs w4 k w) :
    Calls Try.prog 62 #[.pointer (some ⟨w4.heap.size, 0, none⟩), .int .i64 (ai : Int), vs.getD (K - k - 1) (.int .i64 0)] w (fun e w' => e = .returned (.tuple #[]) /\ Rk m l V w4.heap.size [] w w' /\ RkbI m l V ai W rb K cS aS fr tt xs w4 (k + 1) w') := by
  obtain ⟨t1, r1, tv, L, ys, h1, h2, h3, h4', hL, h5, h6, hs⟩ := h
  have hkc := hs.kp.kc ⟨_, h4.rd.kept⟩
  have hvl : vs.length = K := by have := h4.ls.1; rw [rpR_length] at this; exact this
  have hls := (h4.ls.kc hkc).2 (K - k - 1) (by omega)
  rw [rpR_get (by omega)] at hls
  have hfe : (fun p => min 2 (tV l ai (K - k - 1) W fr p)) = nowV l ai W fr (K - k - 1) := by funext p; rw [tV_now]
  rw [<- hfe] at hls
  have hKk : K - k = K - k - 1 + 1 := by omega
  rw [hKk] at h5
  obtain ⟨hs1, hs2⟩ := rp_step hF hai h2 (by omega) h5
  refine (cwkid2_any hF hai hE hV rb u W w4.heap.size w4.heap.size t1 r1 tv L (tV l ai (K - k - 1) W fr) _ w4 w h4.rd (Nat.le_refl _) hs.kp hW hn hs.kp.size hs.wk (by omega) h4' (by omega) hls hs1).mono ?_
  rintro e w' ⟨⟨q, r, s, x, j1, j2, j3, j4, j5, tv', x', rfl, j6, j7, j8⟩, j9⟩
  obtain ⟨j10, ys', j11, j12⟩ := hs2 q r s x j1 j3 j4 j5
  refine ⟨rfl, j8, q, r, tv', L ++ [x'], ys', hk, j10, by omega, j2, by simp; omega, ?_, by rw [h6, j12, List.map_append, List.reverse_append]; simp [j6], hs.kp.then j8, j7, j9 _ _ _ (by decide) (by omega) hs.bx, j9 _ _ _ (by decide) (by omega) hs.bs⟩
  rw [show K - (k + 1) = K - k - 1 by omega]
  exact j11
set_option maxHeartbeats 16000000 in
theorem crepKids_any {l : List Nd} {c m ba oa : Nat} {V : Wd} {i : Nat} (hF : Form l) (hi : i < l.length) (hk7 : (atN l i).kind = 7) (hn : V.length <= 900) (hE : EndsC (some ⟨ba, oa, none⟩) l c m V (atN l i).a.toNat) (hV : ValC (some ⟨ba, oa, none⟩) l c m V (atN l i).a.toNat) : RepC (some ⟨ba, oa, none⟩) l c m ba oa V i := fun rb u W fr tt rk xs w hr hW hft ht hrk hx => by
  have hWn : W.length <= 900 := by obtain ⟨t, rfl⟩ := hW; simp at hn; omega
  have ha := cnt_kidA hF hi (by omega)
  have hal : (atN l i).a.toNat < l.length := by omega
  have haz : (((atN l i).a.toNat : Nat) : Int) = (atN l i).a := by
    have hcs := (hF.2.1 i hi).cs rfl
    cases hcs with
    | leaf h1 hf => unfold leafK at h1; omega
    | one h1 hi0 ha hb h7 hr hcl hf => omega
    | two h1 hi0 hb ha hf0 hl hcl hf => omega
  have h0b := rep_lo hF hi hk7
  obtain ⟨lo, hlo⟩ : ∃ lo, (atN l i).lo.toNat = lo := ⟨_, rfl⟩
  obtain ⟨N, hN⟩ : ∃ N, ((atN l i).hi + 1 - (atN l i).lo).toNat = N := ⟨_, rfl⟩
  have hloz : (lo : Int) = (atN l i).lo := by omega
  have hlN : lo + N <= 256 := by omega
  have HX : Hid (RpC l (atN l i).a.toNat W fr tt lo N 0 rk xs) := by
    unfold Hid RpC
    rw [show max 0 lo = lo by omega, show lo + N - lo = N by omega, <- rpL_of]
    rw [hlo, hN] at hx
    exact hx
  have HAT : Hid (∀ w', NRow w' (some ⟨ba, oa, none⟩) l -> At10 w' ba (oa + i * 10) (atN l i)) := Lib.hid fun w' h => h.at hi rfl
  unfold At10 at HAT
  have HR0 := Lib.hid hr
  have HWW := Lib.hid hW
  have HE := Lib.hid hE
  have HV := Lib.hid hV
  have HFI : Hid (Form l /\ (atN l i).a.toNat < l.length) := ⟨hF, hal⟩
  clear hr hW hE hV hF hi hx ha hal hk7 h0b hlo hN
  rw [<- hloz] at HAT
  clear hloz
  generalize (atN l i).a.toNat = ai at *
  have HAZ := Lib.hid haz
  clear haz
  have hb1 := ((Below.refl w.heap.size w).alloc (Nat.le_refl _) (.cells #[.pointer (some ⟨ba, oa + i * 10, none⟩)] 80))
  have hz1 := Blk.new w #[.pointer (some ⟨ba, oa + i * 10, none⟩)] 80
  have hb2 := ((Below.refl (w.alloc (.cells #[.pointer (some ⟨ba, oa + i * 10, none⟩)] 80)).heap.size _).alloc (Nat.le_refl _) (.cells #[.int .i64 (fr : Int), .int .i64 1] 92))
  have hz2 := Blk.new (w.alloc (.cells #[.pointer (some ⟨ba, oa + i * 10, none⟩)] 80)) #[.int .i64 (fr : Int), .int .i64 1] 92
  have hs1 : (w.alloc (.cells #[.pointer (some ⟨ba, oa + i * 10, none⟩)] 80)).heap.size = w.heap.size + 1 := World.size_alloc _ _
  have HB1 := Lib.hid (hb1.trans (hb2.mono hb1.size))
  have HZ1 := Lib.hid (hz1.later hb2)
  rw [hs1] at hz2
  have HZ2 := Lib.hid hz2
  clear hb1 hz1 hb2 hz2 hs1
  refine (callsIn_wide (n := 3)).1 ?_
  refine callsIn_of_wp_marks Try.func50 rfl trivial ?_
  refine wpIn_wide.2 ?_
  simp only [Try.ntmps50, List.size_toArray, List.length_cons, List.length_nil, Nat.reduceAdd, Nat.reduceSub, Array.replicate_succ, Array.replicate_zero, List.push_toArray, List.append_toArray, List.nil_append, List.cons_append]
  go_upto_region 3 with (fail)
  generalize (w.alloc (.cells #[.pointer (some ⟨ba, oa + i * 10, none⟩)] 80)).alloc (.cells #[.int .i64 (fr : Int), .int .i64 1] 92) = w1 at *
  have HR1 := Lib.hid (HR0.out.later HB1.out)
  have HS0 : Hid (RkidL m (some ⟨ba, oa, none⟩) l c u W V rb ai fr tt lo N w.heap.size (.pointer (some ⟨ba, oa + i * 10, none⟩)) xs w1 (.int .i64 (rk : Int)) (.slice (some ⟨w.heap.size + 1, 0, none⟩) 1 1) (.slice none 0 0) (.int .i64 0) w1) := by
    refine ⟨0, rk, [], Nat.zero_le _, hrk, rfl, rfl, HX.out, ⟨.refl _ _, HR1.out, HZ1.out, .nil _ _, .nil _, ?_⟩⟩
    rw [plF_congr (G := fun b => if b = fr then 1 else 0) fun b hb => now_zero HFI.out.1 HFI.out.2 (by omega), plF_one (by omega) (by decide)]
    exact ⟨_, _, rfl, Nat.le_refl _, RcRow.one HZ2.out⟩
  clear HX HZ1 HZ2 hrk
  go_wp2
  go_loopw [4, 11, 12, 13] (RkidL m (some ⟨ba, oa, none⟩) l c u W V rb ai fr tt lo N w.heap.size (.pointer (some ⟨ba, oa + i * 10, none⟩)) xs w1) (fun _ _ _ x _ => lo + N + 1 - (intOf x).toNat)
  case atStart => exact HS0.out
  case round =>
    obtain ⟨k, r, vs, hk, hr1, rfl, rfl, hc, hs⟩ := hrel
    obtain ⟨A2, c2, hx11, -, -⟩ := hs.cur
    subst hx11
    have HS := Lib.hid hs
    have HC := Lib.hid hc
    have HVL : Hid (vs.length = k) := by have := hs.ls.1; rw [rpR_length] at this; exact this
    have HWY := Lib.hid (cwaysTo_any (W.length + 1) (nowV l ai W fr k) _ tt (by omega) (by omega) wr hs.cur)
    generalize (plF (W.length + 1) (nowV l ai W fr k)).length = n2 at *
    have d0 := hs.box.cell 0
    simp at d0
    obtain ⟨-, -, -, g3, -⟩ := HAT.out _ hs.rd.rd.row
    clear hs hc HS0
    by_cases hlt : k < lo
    · have hge : ¬ (k : Int) >= (lo : Int) := by omega
      have HSX := HS
      have HCX := Lib.hid (HC.out.next hlt)
      clear HC HS
      have HNE := Lib.hid (RpC.some HFI.out.1 HFI.out.2 hft ht (Nat.le_succ k) HCX.out).1
      have hb6 := (Below.refl wr.heap.size wr).alloc (Nat.le_refl _) (.cells #[.slice A2 n2 c2] 78)
      have HX6 := Lib.hid (Blk.new wr #[.slice A2 n2 c2] 78)
      have HS6 := Lib.hid (HSX.out.later hb6)
      have HVB : Hid (vs.length < 1073741000) := by unfold Hid; rw [HVL.out]; omega
      clear hb6 HSX
      go_upto_region 10 with (at_builtin; refine wpList_plain rfl fun K hK => ?_; refine wp_append_ls _ _ rfl w1.heap.size _ vs rfl HS6.out.own wr.heap.size A2 n2 c2 rfl HX6.out HVB.out HS6.out.rk.size ?_; intro v' w7 h1 h2; have HS7 := Lib.hid (HS6.out.grow HR1.out rfl h1 h2); have d0 := HS7.out.box.cell 0; simp at d0; obtain ⟨-, g1, -⟩ := HAT.out _ HS7.out.rd.rd.row; rw [<- HAZ.out] at g1; refine hK _ _ ?_; clear h1 h2 hK K)
      go_wp2_with fail
      have HMO := Lib.hid (cmore_any HE.out rb u W (nowV l ai W fr k) (.slice A2 n2 c2) w7 HS7.out.rd HWW.out hn (fun b => nowV_le) HS7.out.cur HNE.out)
      rw [rp_more HFI.out.1 HFI.out.2] at HMO
      refine HMO.out.mono ?_; rintro e w9 ⟨v9, rfl, hi9, hk9, -⟩
      have HS9 := Lib.hid (HS7.out.next hi9 hk9)
      obtain ⟨A9, c9, rfl, -, -⟩ := hi9
      clear hk9 HMO HS7 HX6 HS6 HVB
      generalize (plF (W.length + 1) (nowV l ai W fr (k + 1))).length = n9 at HS9 ⊢
      go_wp2
      go_roundw
      case rel => exact ⟨k + 1, r, _, by have := (RpC.some HFI.out.1 HFI.out.2 hft ht (Nat.le_refl _) HCX.out).2; omega, by omega, rfl, by go_num, HCX.out, HS9.out⟩
      case measure => have := (RpC.some HFI.out.1 HFI.out.2 hft ht (Nat.le_refl _) HCX.out).2; simp [intOf] <;> omega
    · have hge : (k : Int) >= (lo : Int) := by omega
      obtain ⟨hkN, hbr, hgo⟩ := HC.out.step HFI.out.1 HFI.out.2 hft hr1 (by omega)
      go_wp2_with fail
      refine HWY.out.mono ?_; rintro e w4 ⟨rfl, hb4⟩
      have HS4 := Lib.hid (HS.out.later hb4)
      clear hb4 HWY HS d0 g3 HC
      have HBR := Lib.hid hbr
      have HGO := Lib.hid hgo
      clear hbr hgo
      have hwl : nowV l ai W fr k tt <= 2 := nowV_le
      generalize nowV l ai W fr k tt = wy at *
      by_cases hcmp : r < wy
      · have hcz : (r : Int) < (wy : Int) := by omega
        have HQ := Lib.hid (HBR.out hcmp)
        clear HBR HGO
        obtain ⟨aS, cS, hvS, hls⟩ := HS4.out.own.lsRow
        rw [HVL.out] at hvS
        subst hvS
        have HLS := Lib.hid hls
        clear hls
        have hbA := (Below.refl w4.heap.size w4).alloc (Nat.le_refl _) (.cells #[.pointer (some ⟨rb, 0, none⟩), .int .i64 (tt : Int), .int .i64 (r : Int), .slice none 0 0] 102)
        have hzA := Blk.new w4 #[.pointer (some ⟨rb, 0, none⟩), .int .i64 (tt : Int), .int .i64 (r : Int), .slice none 0 0] 102
        have hsA : (w4.alloc (.cells #[.pointer (some ⟨rb, 0, none⟩), .int .i64 (tt : Int), .int .i64 (r : Int), .slice none 0 0] 102)).heap.size = w4.heap.size + 1 := World.size_alloc _ _
        go_upto_region 12 with (fail)
        generalize w4.alloc (.cells #[.pointer (some ⟨rb, 0, none⟩), .int .i64 (tt : Int), .int .i64 (r : Int), .slice none 0 0] 102) = wA at *
        have hbB := (Below.refl wA.heap.size wA).alloc (Nat.le_refl _) (.cells #[.pointer (some ⟨w4.heap.size, 0, none⟩)] 100)
        have hzB := Blk.new wA #[.pointer (some ⟨w4.heap.size, 0, none⟩)] 100
        have hsB : (wA.alloc (.cells #[.pointer (some ⟨w4.heap.size, 0, none⟩)] 100)).heap.size = w4.heap.size + 2 := by rw [World.size_alloc, hsA]
        generalize wA.alloc (.cells #[.pointer (some ⟨w4.heap.size, 0, none⟩)] 100) = wB at *
        have hbC := (Below.refl wB.heap.size wB).alloc (Nat.le_refl _) (.cells #[.slice aS k cS] 99)
        have hzC := Blk.new wB #[.slice aS k cS] 99
        rw [hsB] at hzC
        rw [hsA] at hzB
        have HS6 : Hid (RkbS m l V rb k cS aS tt r (.slice none 0 0) [] w4 (wB.alloc (.cells #[.slice aS k cS] 99))) := ⟨.of_below ((hbA.trans (hbB.mono hbA.size)).trans (hbC.mono (hbA.trans (hbB.mono hbA.size)).size)), ⟨(hzA.later hbB).later hbC, Nat.le_refl _, ⟨by simp [flatV], .inl ⟨rfl, rfl⟩⟩, fun y hy => by cases hy⟩, hzB.later hbC, hzC⟩
        have HSB := Lib.hid hsB
        have HBC := Lib.hid ((hbA.trans (hbB.mono hbA.size)).trans (hbC.mono (hbA.trans (hbB.mono hbA.size)).size))
        clear hbA hzA hsA hbB hzB hbC hzC hsB
        go_wp2_with fail
        refine (backward_any k cS aS wB).mono ?_; rintro e w6 ⟨rfl, hw6⟩
        subst hw6
        generalize wB.alloc (.cells #[.slice aS k cS] 99) = w6 at *
        go_wp2
        have HI0 : Hid (∀ k' W', RkbI m l V ai W rb k cS aS fr tt xs w4 k' W' -> W'.cell? ⟨w4.heap.size + 2, 0, none⟩ = some (.slice aS k cS) /\ ∀ j, j < k -> ∃ b off, aS = some ⟨b, off, none⟩ /\ W'.cell? ⟨b, off + j, none⟩ = some (vs.getD j (.int .i64 0))) := fun k' W' h => by
          obtain ⟨t1, r1, tv, L, ys, -, -, -, -, -, -, -, hs⟩ := h
          refine ⟨by rw [hs.bs.cell]; rfl, fun j hj => ?_⟩
          obtain ⟨g, e1, -, e2⟩ := HLS.out.kc (hs.kp.kc ⟨_, HS4.out.rd.kept⟩) j (by rw [HVL.out]; exact hj)
          exact ⟨g, 0, e1, by rw [Nat.zero_add]; exact e2⟩
        have HMB : Hid (m < w4.heap.size) := by
          obtain ⟨es, hm, -⟩ := HS4.out.rd.kept
          exact hm.lt
        have HIP : Hid (∀ k' W' l' o o', RkbI m l V ai W rb k cS aS fr tt xs w4 k' W' -> w6.heap.size <= l' -> W'.heap[l']? = some o -> o.isCells = false -> RkbI m l V ai W rb k cS aS fr tt xs w4 k' (W'.putObj l' o')) := fun k' W' l' o o' h hl ho hc => by
          obtain ⟨t1, r1, tv, L, ys, q1, q2, q3, q4, q5, q6, q7, hs⟩ := h
          exact ⟨t1, r1, tv, L, ys, q1, q2, q3, q4, q5, q6, q7, hs.putObj (Nat.le_trans HBC.out.size hl) HMB.out ho hc⟩
        have HI6 : Hid (∀ o o', RkbI m l V ai W rb k cS aS fr tt xs w4 0 ((w6.alloc o).alloc o')) := fun o o' => by
          have hb := (Below.refl w6.heap.size w6).alloc (Nat.le_refl _) o
          have hb2 := hb.alloc hb.size o'
          exact ⟨tt, r, .slice none 0 0, [], xs, Nat.zero_le _, hft, Nat.le_refl _, hr1, rfl, HQ.out, by simp, HS6.out.later hb2⟩
        have HKD : Hid (∀ k' W', k' < k -> RkbI m l V ai W rb k cS aS fr tt xs w4 k' W' -> _) := fun k' W' hk' h => rkb_kid HFI.out.1 HFI.out.2 hn HE.out HV.out HWW.out ht (by omega) HS4.out hk' h
        have HCL : Hid (∀ k' W', RkbI m l V ai W rb k cS aS fr tt xs w4 k' W' -> W'.cell? ⟨w4.heap.size + 1, 0, none⟩ = some (.pointer (some ⟨w4.heap.size, 0, none⟩)) /\ W'.cell? ⟨w.heap.size, 0, none⟩ = some (.pointer (some ⟨ba, oa + i * 10, none⟩)) /\ W'.cell? ⟨ba, oa + i * 10 + 1, none⟩ = some (.int .i64 (ai : Int))) := fun k' W' h => by
          obtain ⟨t1, r1, tv, L, ys, -, -, -, -, -, -, -, hs⟩ := h
          have kc := hs.kp.kc ⟨_, HS4.out.rd.kept⟩
          obtain ⟨-, g1, -⟩ := HAT.out _ (kc.nrow HS4.out.rd.rd.row)
          rw [<- HAZ.out] at g1
          refine ⟨by rw [hs.bx.cell]; rfl, by rw [(kc.block _ HS4.out.box.lt _ _ HS4.out.box).cell]; rfl, g1⟩
        rw [HSB.out]
        refine (wpIn_wide (n := 3)).1 ?_
        refine range_known (gf := 78) (lb := #[.pointer (some ⟨w4.heap.size + 2, 0, none⟩)]) (N := k) (ag := bwA k vs) (I := RkbI m l V ai W rb k cS aS fr tt xs w4) rfl (enters_of Try.func78 (by kernel_rfl) rfl) (back_yields (w4.heap.size + 2) k cS aS vs _ (by omega) HI0.out) (fun _ => rfl) HIP.out HI6.out ?a1 ?assign ?body ?done
        case assign =>
          intro l' k' W' K' hk' hK'
          unfold bwA
          simp
          gi_wp2
          exact hK'
        case body =>
          intro l' k' W' hk' hI'
          have HI1 := Lib.hid hI'
          have HK1 := Lib.hid hk'
          clear hI' hk' HI0 HIP HI6 HLS HS6
          gi_wp2
          refine round_region_tail 6 (S := fun wx => RkbI m l V ai W rb k cS aS fr tt xs w4 k' wx /\ Below W'.heap.size W' wx) (hSt := fun _ _ h hb => ⟨h.1.later hb, h.2.trans (hb.mono h.2.size)⟩) (plan := [[(15, none)], [(6, none)], [(59, some 1)], [(60, some 2)], [(61, some 3)], [(17, none)]]) rfl rfl (by kernel_rfl) (by kernel_rfl) (by kernel_rfl) (by kernel_rfl) (by kernel_rfl) (by rintro ⟨a9, w9, h9⟩; exact absurd h9.1 (by simp)) ?hS ?_
          rotate_left
          iterate 6 first
            | (refine chain_skip (by rfl) (by rfl) ?_)
            | (apply chain_want (by rfl)
               · intro act wx hS hr
                 simp at hr
                 obtain ⟨e1, e2, e3⟩ := HCL.out _ _ hS.1
                 go_simp
                 (try go_ints)
                 first
                   | exact Done.same
              )
          show ∀ w', _ -> _
          intro wz hz
          simp [Act.put]
          case hS => exact ⟨HI1.out, Below.refl _ _⟩
          have HKK := Lib.hid (HKD.out k' wz HK1.out hz.1)
          have HSZ := Lib.hid hz.2
          clear hz HI1 HKD HCL
          go_wp2_with fail
          refine HKK.out.mono ?_; rintro e W3 ⟨rfl, hk3, hi3⟩
          have HKF : Hid (KeepsFrom w6.heap.size W' W3) := ⟨Nat.le_trans HSZ.out.size hk3.size, fun k9 o9 hB ho hc => hk3.nc k9 o9 (by have := HMB.out; have := HBC.out.size; omega) ((HSZ.out.block k9 (Array.getElem?_eq_some_iff.1 ho).1).trans ho) (fun vs t e => by subst e; cases hc)⟩
          have HI3 := Lib.hid hi3
          clear hk3 hi3 HKK
          go_wp2
          exact ⟨HKF.out, HI3.out⟩
        case done =>
          intro W' hI' hK'
          obtain ⟨t1, r1, tv, L, ys, q1, q2, q3, q4, q5, q6, q7, hs⟩ := hI'
          rw [Nat.sub_self] at q6
          obtain ⟨hys, -⟩ := rp_ends q2 (by omega) q6
          have hxs : xs = (L.map (·.v)).reverse := by rw [q7, hys]; rfl
          have d1 := hs.bx.cell 0
          simp at d1
          have HI := Lib.hid (cinOrder_any (l := l) (V := V) (m := m) (L := L) (by omega) W' hs.wk hs.kp.size HMB.out)
          have HSS := Lib.hid hs
          have HXS := Lib.hid hxs
          have HKD' := Lib.hid hK'
          clear hs hxs hys hK' q7 q6 HKD HCL HI0 HIP HI6 HLS HS6
          go_wp2_with fail
          refine HI.out.mono ?_; rintro e w9 ⟨v9, rfl, j1, j2⟩
          have hK9 : w9.heap[w6.heap.size]? = some (.deferred (some [])) := j2.nc w6.heap.size _ (by have := HMB.out; have := HBC.out.size; omega) HKD'.out (fun vs t e => by cases e)
          have HP : Hid (KsP m l V xs w (.returned v9) (w9.putObj w6.heap.size (.deferred none))) := by
            have k1 : Rk m l V w.heap.size [] w w4 := (Rk.of_below HB1.out).call HB1.out.size HS4.out.rk
            have k2 : Rk m l V w.heap.size [] w w9 := k1.call k1.size (HSS.out.kp.then j2)
            have hmw : m < w.heap.size := by
              obtain ⟨es, hm, -⟩ := HR0.out.kept
              exact hm.lt
            refine ⟨v9, rfl, ?_, k2.putObj (Nat.le_trans k1.size HBC.out.size) (Nat.le_trans k1.size HBC.out.size) hmw hK9 rfl⟩
            rw [HXS.out]
            obtain ⟨A9, c9, k4, k5, k6⟩ := j1
            exact ⟨A9, c9, k4, k5, (k6.mono fun b _ hb => Nat.le_trans k1.size hb).kc (Kc.putObj hK9 rfl)⟩
          obtain ⟨A9, c9, hv9, -⟩ := j1
          rw [List.length_reverse, List.length_map, q5] at hv9
          subst hv9
          have HK9 := Lib.hid hK9
          clear j2 HI hK9
          go_wp2
          refine ⟨by simp, .inl ⟨_, _, rfl, run_takeDeferred HK9.out, ?_⟩⟩
          refine ⟨_, results_tmp rfl _ _ _, ?_⟩
          exact HP.out
      · have hcz : ¬ (r : Int) < (wy : Int) := by omega
        have hsz : (r : Int) - (wy : Int) = ((r - wy : Nat) : Int) := by omega
        have HSX := HS4
        have HCX := Lib.hid (HGO.out hcmp).2
        clear HGO HBR HS4
        have HNE := Lib.hid (RpC.some HFI.out.1 HFI.out.2 hft ht (Nat.le_succ k) HCX.out).1
        have hb6 := (Below.refl w4.heap.size w4).alloc (Nat.le_refl _) (.cells #[.slice A2 n2 c2] 78)
        have HX6 := Lib.hid (Blk.new w4 #[.slice A2 n2 c2] 78)
        have HS6 := Lib.hid (HSX.out.later hb6)
        have HVB : Hid (vs.length < 1073741000) := by unfold Hid; rw [HVL.out]; omega
        clear hb6 HSX
        go_upto_region 10 with (at_builtin; refine wpList_plain rfl fun K hK => ?_; refine wp_append_ls _ _ rfl w1.heap.size _ vs rfl HS6.out.own w4.heap.size A2 n2 c2 rfl HX6.out HVB.out HS6.out.rk.size ?_; intro v' w7 h1 h2; have HS7 := Lib.hid (HS6.out.grow HR1.out rfl h1 h2); have d0 := HS7.out.box.cell 0; simp at d0; obtain ⟨-, g1, -⟩ := HAT.out _ HS7.out.rd.rd.row; rw [<- HAZ.out] at g1; refine hK _ _ ?_; clear h1 h2 hK K)
        go_wp2_with fail
        have HMO := Lib.hid (cmore_any HE.out rb u W (nowV l ai W fr k) (.slice A2 n2 c2) w7 HS7.out.rd HWW.out hn (fun b => nowV_le) HS7.out.cur HNE.out)
        rw [rp_more HFI.out.1 HFI.out.2] at HMO
        refine HMO.out.mono ?_; rintro e w9 ⟨v9, rfl, hi9, hk9, -⟩
        have HS9 := Lib.hid (HS7.out.next hi9 hk9)
        obtain ⟨A9, c9, rfl, -, -⟩ := hi9
        clear hk9 HMO HS7 HX6 HS6 HVB
        generalize (plF (W.length + 1) (nowV l ai W fr (k + 1))).length = n9 at HS9 ⊢
        go_wp2
        go_roundw
        case rel => exact ⟨k + 1, (r - wy), _, by have := (RpC.some HFI.out.1 HFI.out.2 hft ht (Nat.le_refl _) HCX.out).2; omega, by omega, rfl, by go_num, HCX.out, HS9.out⟩
        case measure => have := (RpC.some HFI.out.1 HFI.out.2 hft ht (Nat.le_refl _) HCX.out).2; simp [intOf] <;> omega
end Go.Proofs.Ytpbbokdmoaadfaa
namespace Go.Proofs.Ytpbbokdmoaadfaa
open Go Go.RowKit
set_option linter.unusedVariables false
theorem repA_any {l : List Nd} {V : Wd} (hF : Form l) (hn : V.length <= 900) : RepA l V := fun c m ba oa i hi h7 hE hV => crepKids_any hF hi h7 hn hE hV
theorem cvalues_any {A : Option Addr} {l : List Nd} {c : Nat} {u : Value} {W : Wd} (hF : Form l) (hl : l.length <= 4096) (hT : ∀ n ∈ l, n.text.length <= 1073741824) (hn : W.length <= 900) (w : World) (hrow : NRow w A l) (hw : IsW W u w) :
    Calls Try.prog 16 #[.agg #[.slice A l.length c], u] w (VusP w ((EN l (l.length - 1) W).take 2)) := cValues_any (repA_any hF hn) hF hl hT hn w hrow hw
set_option linter.unusedSimpArgs false
set_option maxRecDepth 100000
def RwN (L : List Int) (w : World) (e : Ending) (w' : World) : Prop := ∃ v, e = .returned v /\ OwnI w' w.heap.size v L /\ Below w.heap.size w w'
def RdI (n : Nat) (L : List Int) (v : Value) (w : World) : Prop := ∃ A c, v = .slice A n c /\ IRow w A L
theorem RdI.later (n : Nat) (L : List Int) : ∀ v w w', RdI n L v w -> Below w.heap.size w w' -> RdI n L v w' := fun v w w' ⟨A, c, h1, h2⟩ hb => ⟨A, c, h1, h2.later hb⟩
theorem OwnI.rd {w : World} {base : Nat} {v : Value} {L : List Int} (h : OwnI w base v L) : RdI L.length L v w := by
  obtain ⟨A, c, h1, h2⟩ := h.row
  exact ⟨A, c, h1, h2⟩
theorem OwnI.mono {w : World} {b b' : Nat} {v : Value} {l : List Int} (h : OwnI w b v l) (hb : b' <= b) : OwnI w b' v l := by
  obtain ⟨h0, ⟨hv, hn⟩ | ⟨g, cap, cur, hv, hbg, hr⟩⟩ := h
  · exact ⟨h0, .inl ⟨hv, hn⟩⟩
  · exact ⟨h0, .inr ⟨g, cap, cur, hv, Nat.le_trans hb hbg, hr⟩⟩
theorem OwnI.put {w : World} {base : Nat} {v : Value} {l : List Int} (h : OwnI w base v l) {k : Nat} (hk : k < l.length) (x : Int) : ∃ g cap, v = .slice (some ⟨g, 0, none⟩) l.length cap /\ base <= g /\ g < w.heap.size /\ OwnI (w.setCell ⟨g, k, none⟩ (.int .i64 x)) base v (l.set k x) /\
    w.cell? ⟨g, k, none⟩ = some (.int .i64 (l.getD k 0)) /\ w.frozen? ⟨g, k, none⟩ = false := by
  obtain ⟨h0, ⟨hv, hn⟩ | ⟨g, cap, cur, hv, hb, hg, hc, hm, hs, ht⟩⟩ := h
  · omega
  · have hk2 : Blk w g cur 3 := hg
    have hs2 := hk2.setCell k (.int .i64 x)
    refine ⟨g, cap, hv, hb, hk2.lt, ⟨by rw [intsV_length, List.length_set]; omega, .inr ⟨g, cap, _, by rw [List.length_set]; exact hv, hb, hs2, by rw [List.length_set]; exact hc, hm, by rw [Array.size_setIfInBounds]; exact hs, ?_⟩⟩, ?_, hk2.frozen _⟩
    · have e : intsV (l.set k x) = (intsV l).set k (.int .i64 x) := by unfold intsV; rw [List.map_set]
      rw [List.length_set, e, <- ht, Array.toList_setIfInBounds, List.take_set]
    · rw [hk2.cell, <- Array.getElem?_toList]
      have e3 : (intsV l)[k]? = some (.int .i64 (l.getD k 0)) := by unfold intsV; simp [hk]
      rw [<- e3, <- ht, List.getElem?_take, if_pos (by omega)]
theorem underRow : Try.prog.underlying 55 = Try.prog.underlying 54 := by kernel_rfl
theorem wp_append_row {w : World} {o : Oper} {a : Act} {K : Act -> World -> Prop} {Q : Exit -> Act -> World -> Prop} (s x : Operand)
    (ho : o.op = .call { callee := .builtin .append, args := #[s, x], argTypes := #[55, 55] })
    (base : Nat) (v : Value) (hs : a.eval s = v) (hown : OwnI w base v [])
    (b oo n c : Nat) (L : List Int) (hx : a.eval x = .slice (some ⟨b, oo, none⟩) n c) (hr0 : IRow w (some ⟨b, oo, none⟩) L) (hn : L.length = n) (hlen : L.length < 536870912) (hbase : base <= w.heap.size)
    (h : ∀ v' w', OwnI w' base v' L -> Below base w w' -> K (a.put o.dst v') w') : o.wp Try.prog a w K Q := by
  obtain ⟨ib, hib, hz0, hz1, hz2⟩ := info_parts infoI
  subst hn
  obtain ⟨v', w', hrun, h2, h3, _⟩ := run_append_own (P := Try.prog) w base 55 o.type 3 ib _ 1 8 (by rw [underRow]; exact Try.underlying54) hib hz0 hz1 hz2 rfl (by decide) v 0 [] hown ⟨b, oo, none⟩ L.length c (intsV L) (by rw [intsV_length, Nat.mul_one]) hr0.news (intsV_ones L) (by unfold maxLen; omega) (by omega) hbase
  have h2' : OwnI w' base v' L := by
    have e : (0 : Nat) + L.length = L.length := Nat.zero_add _
    rw [e, List.nil_append] at h2
    exact h2
  unfold Oper.wp execOp
  simp only [ho, resolve, invoke, builtin, Sem.run_bind, Sem.run_pure, Result.andThen_ok, List.map_toArray, List.map_cons, List.map_nil, hs, hx, hrun]
  exact h v' w' h2' ((Below.refl base w).grown h3 hbase (fun k hk => (World.ownsRow.lt hown k hk).1))
theorem rowL_at {n k : Nat} {F : Nat -> Nat} (h : k < n) : (rowL n F).getD k 0 = ((F k : Nat) : Int) := by
  rw [List.getD_eq_getElem?_getD, rowL_get h]; rfl
theorem made_int (n : Nat) : madeCells #[Value.int .i64 0] n = (intsV (List.replicate n 0)).toArray := by
  unfold madeCells intsV
  simp only [Array.size, List.length_cons, List.length_nil]
  refine Array.toList_inj.1 (List.ext_getElem? fun i => ?_)
  by_cases h : i < n
  · simp [h, Nat.mod_one]
  · simp [h]
theorem IsW.sl {W : List UInt8} {v : Value} {w : World} (h : IsW W v w) : ∃ A c, v = .slice A W.length c /\ W.length <= c := by
  rcases h with ⟨h1, h2⟩ | ⟨b, off, cap, h1, h2, -⟩
  · subst h2; exact ⟨none, 0, h1, Nat.le_refl _⟩
  · exact ⟨_, cap, h1, h2⟩
theorem rzero_any (uw : Value) (W : Wd) (w : World) (hw : IsW W uw w) (hn : W.length <= 1000) : Calls Try.prog 38 #[uw] w (RwN (rowL (W.length + 1) fun _ => 0) w) := by
  obtain ⟨A, c, rfl, -⟩ := hw.sl
  have hmk : ∀ W' : World, (Instr.makeSlice 55 (.int .i64 ((W.length : Int) + 1)) (.int .i64 ((W.length : Int) + 1))).run Try.prog W' = .ok (.slice (some ⟨W'.heap.size, 0, none⟩) (W.length + 1) (W.length + 1)) (W'.alloc (.cells (intsV (List.replicate (W.length + 1) 0)).toArray 3)) := fun W' => by
    rw [<- made_int, show ((W.length : Int) + 1) = ((W.length + 1 : Nat) : Int) by omega]
    exact run_make_row' 55 _ _ 8 (by rw [underRow]; exact Try.underlying54) (by kernel_rfl) rfl .i64 .i64 (W.length + 1) (by omega) (by omega) W'
  have HP : Hid (RwN (rowL (W.length + 1) fun _ => 0) w (.returned (.slice (some ⟨w.heap.size, 0, none⟩) (W.length + 1) (W.length + 1))) (w.alloc (.cells (intsV (List.replicate (W.length + 1) 0)).toArray 3))) := by
    refine ⟨_, rfl, ?_, (Below.refl w.heap.size w).alloc (Nat.le_refl _) _⟩
    rw [rowL_zero]
    refine ⟨by rw [intsV_length]; omega, .inr ⟨w.heap.size, W.length + 1, _, by rw [List.length_replicate], Nat.le_refl _, Blk.new w _ _, by rw [List.length_replicate]; exact Nat.le_refl _, by unfold maxLen; omega, by simp [intsV], ?_⟩⟩
    rw [List.length_replicate, List.toList_toArray]
    exact List.take_of_length_le (by rw [intsV_length, List.length_replicate]; omega)
  have hnz : (W.length : Int) <= 1000 := by omega
  clear hw hn
  generalize (intsV (List.replicate (W.length + 1) 0)).toArray = zs at *
  generalize W.length = n at *
  go_enter Try.func38, Try.ntmps38
  go_wp2
  go_ret
  exact HP.out
structure RplS (F G : Nat -> Nat) (t n base k : Nat) (v : Value) (B : Option Addr) (w0 w : World) : Prop where
  own : OwnI w base v (rowL n (plusK F G t k))
  bel : Below base w0 w
  low : base <= w.heap.size
  row : IRow w B (rowL n G)
theorem RplS.later {F G : Nat -> Nat} {t n base k : Nat} {v : Value} {B : Option Addr} {w0 w w' : World} (h : RplS F G t n base k v B w0 w) (hb : Below w.heap.size w w') : RplS F G t n base k v B w0 w' := ⟨h.own.later hb, h.bel.trans (hb.mono h.low), Nat.le_trans h.low hb.size, h.row.later hb⟩
def RplL (F G : Nat -> Nat) (t n base : Nat) (v : Value) (B : Option Addr) (w0 : World) (x : Value) (w : World) : Prop := ∃ k : Nat, k <= n /\ x = .int .i64 (k : Int) /\ RplS F G t n base k v B w0 w
set_option maxHeartbeats 16000000 in
theorem rplus_any (n t : Nat) (F G : Nat -> Nat) (va vb : Value) (w : World) (hn0 : 0 < n) (hn : n <= 2000) (hF : ∀ b, F b <= 2) (hG : ∀ b, G b <= 2) (ht : t <= 2) (hA : RdI n (rowL n F) va w) (hB : RdI n (rowL n G) vb w) :
    Calls Try.prog 41 #[va, vb, .int .i64 (t : Int)] w (RwN (rowL n (plusF F G t)) w) := by
  obtain ⟨A, ca, rfl, hA⟩ := hA
  obtain ⟨B, cb, rfl, hB⟩ := hB
  have hl : (rowL n F).length = n := rowL_length
  have hl2 : (rowL n G).length = n := rowL_length
  obtain ⟨bb, ob, rfl, -, -⟩ := hB 0 (by omega)
  obtain ⟨ba, oa, rfl, -, -⟩ := hA 0 (by omega)
  have hb1 := (Below.refl w.heap.size w).alloc (Nat.le_refl _) (.cells #[] 3)
  have HA1 := Lib.hid (hA.later hb1)
  have HO1 : Hid (OwnI (w.alloc (.cells #[] 3)) w.heap.size (.slice (some ⟨w.heap.size, 0, none⟩) 0 0) []) := by
    have := OwnI.empty (Blk.new w #[] 3) (Nat.le_refl _) (rowL n F)
    rwa [List.take_zero] at this
  have HB1 := Lib.hid hb1
  have HBR := Lib.hid hB
  have HBR0 := Lib.hid hB
  have HF := Lib.hid hF
  have HG := Lib.hid hG
  have HL := Lib.hid hl
  have HL2 := Lib.hid hl2
  have hnz : (n : Int) <= 2000 := by omega
  clear hA hB hb1 hF hG hl hl2
  go_enter Try.func41, Try.ntmps41
  go_wp2_with (at_builtin; refine wpList_plain rfl fun K hK => ?_; refine wp_append_row _ _ rfl w.heap.size _ rfl HO1.out ba oa n ca (rowL n F) rfl HA1.out HL.out (by have := HL.out; omega) HB1.out.size ?_; intro v' w7 h1 h2; have HO7 := Lib.hid h1; have HB7 := Lib.hid (HB1.out.trans h2); refine hK _ _ ?_; clear h1 h2 hK K HO1 HA1 HB1)
  obtain ⟨a7, c7, hv7, -⟩ := HO7.out.row
  rw [HL.out] at hv7
  subst hv7
  have HS0 : Hid (RplL F G t n w.heap.size (.slice a7 n c7) (some ⟨bb, ob, none⟩) w (.int .i64 0) w7) := ⟨0, Nat.zero_le _, rfl, by rw [plusK_zero]; exact HO7.out, HB7.out, HB7.out.size, HBR.out.later HB7.out⟩
  clear HO7 HB7 HBR
  go_wp2
  go_loopw [8] (RplL F G t n w.heap.size (.slice a7 n c7) (some ⟨bb, ob, none⟩) w) (fun x _ => n - (intOf x).toNat)
  case atStart => exact HS0.out
  case round =>
    obtain ⟨k, hk, rfl, hs⟩ := hrel
    have HS := Lib.hid hs
    clear HS0
    by_cases hlt : k < n
    · have hltz : (k : Int) < (n : Int) := by omega
      have hK : plusK F G t k k = F k := by unfold plusK; rw [if_neg (Nat.lt_irrefl _)]
      obtain ⟨g, cap, hvv, hbg, -, -, -, -⟩ := hs.own.put (k := k) (by rw [rowL_length]; exact hlt) 0
      rw [rowL_length] at hvv
      obtain ⟨rfl, -, rfl⟩ := Value.slice.inj hvv
      have HCL : Hid (∀ w', RplS F G t n w.heap.size k (.slice (some ⟨g, 0, none⟩) n c7) (some ⟨bb, ob, none⟩) w w' -> w'.cell? ⟨g, k, none⟩ = some (.int .i64 ((F k : Nat) : Int)) /\ w'.cell? ⟨bb, ob + k, none⟩ = some (.int .i64 ((G k : Nat) : Int))) := fun w' h => by
        obtain ⟨g', cap', hv', -, -, -, hcl, -⟩ := h.own.put (k := k) (by rw [rowL_length]; exact hlt) 0
        rw [rowL_length] at hv'
        obtain ⟨e1, -, -⟩ := Value.slice.inj hv'
        cases e1
        rw [rowL_at hlt, hK] at hcl
        obtain ⟨b2, o2, hae, -, hc2⟩ := h.row k (by rw [HL2.out]; exact hlt)
        cases hae
        rw [rowL_at hlt] at hc2
        exact ⟨hcl, hc2⟩
      have h1 := HF.out k
      have h2 := HG.out k
      have h3 : plusF F G t k = min 2 (F k + t * G k) := rfl
      have HPU : Hid (∀ w', RplS F G t n w.heap.size k (.slice (some ⟨g, 0, none⟩) n c7) (some ⟨bb, ob, none⟩) w w' -> w'.frozen? ⟨g, k, none⟩ = false /\ RplS F G t n w.heap.size (k + 1) (.slice (some ⟨g, 0, none⟩) n c7) (some ⟨bb, ob, none⟩) w (w'.setCell ⟨g, k, none⟩ (.int .i64 ((plusF F G t k : Nat) : Int)))) := fun w' h => by
        obtain ⟨g', cap', hv', hbg, hgl, hset, -, hfz⟩ := h.own.put (k := k) (by rw [rowL_length]; exact hlt) ((plusF F G t k : Nat) : Int)
        rw [rowL_length] at hv'
        obtain ⟨e1, -, -⟩ := Value.slice.inj hv'
        cases e1
        rw [plusK_step hlt] at hset
        have hb := h.bel.setCell (p := ⟨g, k, none⟩) hbg (.int .i64 ((plusF F G t k : Nat) : Int))
        exact ⟨hfz, hset, hb, hb.size, HBR0.out.later hb⟩
      generalize plusF F G t k = z at *
      generalize F k = x at *
      generalize G k = y at *
      have hxy : t * y <= 4 := Nat.mul_le_mul ht h2
      obtain ⟨p, hp⟩ : ∃ p, t * y = p := ⟨_, rfl⟩
      have hpz : (t : Int) * (y : Int) = (p : Int) := by rw [<- hp]; exact (Int.natCast_mul t y).symm
      rw [hp] at h3 hxy
      have hmn : min (2 : Int) ((x : Int) + (p : Int)) = (z : Int) := by omega
      clear hvv hbg hK hp h3 hs
      go_upto_region 5 with (fail)
      refine wp_region_stable_last (S := (RplS F G t n w.heap.size k (.slice (some ⟨g, 0, none⟩) n c7) (some ⟨bb, ob, none⟩) w)) (hSt := fun _ _ h hb => h.later hb) (plan := [[(7, none)], [(8, none)], [(7, none)], [(8, none)], [(20, some 2), (21, some 3)], [(22, some 4)], [(2, none)], [(1, none)], [(8, none)], [(25, some 7), (26, some 8)], [(27, some 9)], [(24, some 6), (28, some 10)], [(23, some 5), (29, some 11)], [(30, some 12)], [(18, some 0), (19, some 1)]]) rfl (by kernel_rfl) (by kernel_rfl) (by kernel_rfl) (by kernel_rfl) ?hS ?_
      rotate_left
      simp only [List.dropLast]
      iterate 15 first
        | (refine chain_skip (by rfl) (by rfl) ?_)
        | (apply chain_want (by rfl)
           · intro act wx hS hr
             simp at hr
             obtain ⟨hcl, hc2⟩ := HCL.out _ hS
             go_simp
             (try go_ints)
             first
               | exact Done.same
          )
      show ∀ w', _ -> _
      intro w9 hw9
      simp [Act.put]
      case hS => exact HS.out
      obtain ⟨hfz, hnx⟩ := HPU.out _ hw9
      obtain ⟨hcl, -⟩ := HCL.out _ hw9
      have HNX := Lib.hid hnx
      clear hnx hw9 HS HCL HPU
      go_wp2
      go_roundw
      case rel => exact ⟨k + 1, by omega, by go_num, HNX.out⟩
      case measure => simp [intOf]; omega
    · obtain rfl : k = n := by omega
      have hlast : ¬ ((k : Nat) : Int) < (k : Int) := by omega
      have HPF : Hid (RwN (rowL k (plusF F G t)) w (.returned (.slice a7 k c7)) wr) := ⟨_, rfl, by rw [<- plusK_end]; exact hs.own, hs.bel⟩
      clear hs HS
      go_wp2
      go_ret
      exact HPF.out
end Go.Proofs.Ytpbbokdmoaadfaa
