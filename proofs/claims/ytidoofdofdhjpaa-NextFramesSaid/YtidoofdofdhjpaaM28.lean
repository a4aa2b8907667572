/- Words that states read: forms, and whole words. -/
import Derived.Test.YtidoofdofdhjpaaM27
import Derived.Test.YtidoofdofdhjpaaM14
import Derived.Test.YtidoofdofdhjpaaM23
import Derived.Test.YtidoofdofdhjpaaM24
import Derived.Test.YtidoofdofdhjpaaM19
import Derived.Lib.AppendZerosOnto
import Derived.Lib.Overlaps
namespace Go.Proofs.Ytidoofdofdhjpaa
open Go
set_option linter.unusedVariables false
set_option linter.unusedSimpArgs false
theorem low_form {l : List Nd} {r q : List Itm} (hr : ∀ y ∈ r, HdF l y) (h : lowS r = some q) : ∀ y ∈ q, HdF l y := by
 unfold lowS at h
 by_cases e : r.all maylow = true
 ·rw [if_pos e] at h
  cases h
  intro y hy
  obtain ⟨x, hx, rfl⟩ := List.mem_map.1 hy
  have h1 := List.all_eq_true.1 e x hx
  have h2 := hr x hx
  unfold lowI
  by_cases h5 : x.kind = 5
  ·rw [if_pos h5]
   obtain ⟨a, b, c, d⟩ := h2.stop h5
   unfold maylow at h1
   simp [h5] at h1
   exact ⟨fun _ => ⟨a, b, by simp only; omega, by simp only; omega⟩, fun k => absurd h5 k, by simp only; omega, fun k => by simp only at k; omega, fun k => by simp only at k; omega, fun k => by simp only at k; omega, fun k => by simp only at k; omega⟩
  ·rw [if_neg h5]; exact h2
 ·rw [if_neg e] at h; cases h
theorem fr_form {l : List Nd} (hF : Form l) {x : Itm} (hx : HdF l x) (hrd : rdyS l [x] = true) {c : UInt8} {f : List Itm} (h : frS l x c = some f) : ∀ y ∈ f, HdF l y := by
 have h5 : x.kind ≠ 5 := rdy_five hrd
 obtain ⟨kk, nn, lo, hi'⟩ := x
 obtain ⟨hn0, hn1⟩ := hx.node h5
 simp only at hn0 hn1 h5
 obtain ⟨i, rfl⟩ : ∃ i : Nat, nn = (i : Int) := ⟨nn.toNat, by omega⟩
 have hi : i < l.length := by omega
 have hc := c.toNat_lt
 have one : ∀ a : Int, 0 <= a -> a < (l.length : Int) -> HdF l ⟨1, a, 0, 0⟩ := fun a h1 h2 => ⟨fun h => by simp at h, fun _ => ⟨h1, h2⟩, ⟨by simp, by simp⟩, fun _ => ⟨rfl, rfl⟩, fun h => by simp at h, fun h => by simp at h, fun h => by simp at h⟩
 have stp : ∀ p : Int, 0 <= p -> p <= 65535 -> HdF l ⟨5, 0, p, 0⟩ := fun p h1 h2 => ⟨fun _ => ⟨rfl, rfl, h1, h2⟩, fun k => absurd rfl k, ⟨by simp, by simp⟩, fun h => by simp at h, fun h => by simp at h, fun h => by simp at h, fun h => by simp at h⟩
 have kid : (atN l i).kind = 8 \/ (atN l i).kind = 9 -> HdF l ⟨1, (atN l i).a, 0, 0⟩ := fun hk => by
  cases hd_cs hF hi with
  | leaf h1 hf => unfold leafK at h1; omega
  | one h1 hi0 ha hb h7 hr hcl hf => exact one _ (by omega) (by omega)
  | two h1 hi0 hb ha hf0 hl hcl hf => omega
 unfold frS at h
 simp only [Int.toNat_natCast] at h
 by_cases h3 : kk = 3
 ·subst h3
  obtain ⟨g1, g2, g3, g4⟩ := hx.three rfl
  simp only [Int.toNat_natCast] at g1 g2 g3 g4
  rw [if_pos rfl] at h
  by_cases e : (atN l i).text.getD lo.toNat 0 = c
  ·rw [if_pos e] at h
   by_cases z : lo + 1 < ((atN l i).text.length : Int)
   ·rw [if_pos z] at h
    cases h
    intro y hy
    rw [List.mem_singleton.1 hy]
    exact ⟨fun h => by simp at h, fun _ => ⟨hn0, hn1⟩, ⟨by simp, by simp⟩, fun h => by simp at h, fun h => by simp at h, fun _ => ⟨by simpa using g1, rfl, by simp only; omega, by simpa using z⟩, fun h => by simp at h⟩
   ·rw [if_neg z] at h
    cases h
    intro y hy; cases hy
  ·rw [if_neg e] at h; cases h
 ·rw [if_neg h3] at h
  by_cases h4 : kk = 4
  ·subst h4
   obtain ⟨g1, g2, g3, g4⟩ := hx.four rfl
   simp only [Int.toNat_natCast] at g1 g2 g3 g4
   rw [if_pos rfl] at h
   cases h
   intro y hy
   rcases List.mem_cons.1 hy with rfl | hy
   ·exact kid (.inr g1)
   ·rw [List.mem_singleton.1 hy]; exact stp _ (by omega) (by omega)
  ·rw [if_neg h4] at h
   by_cases k8 : (atN l i).kind = 8
   ·rw [if_pos k8] at h
    cases h
    intro y hy
    rcases List.mem_cons.1 hy with rfl | hy
    ·exact kid (.inl k8)
    ·rw [List.mem_singleton.1 hy]; exact stp _ (by omega) (by omega)
   ·rw [if_neg k8] at h
    by_cases k9 : (atN l i).kind = 9
    ·rw [if_pos k9] at h
     cases h
     intro y hy
     rw [List.mem_singleton.1 hy]
     exact ⟨fun h => by simp at h, fun _ => ⟨hn0, hn1⟩, ⟨by simp, by simp⟩, fun h => by simp at h, fun h => by simp at h, fun h => by simp at h, fun _ => ⟨by simpa using k9, rfl, by simp only; omega, by simp only; omega⟩⟩
    ·rw [if_neg k9] at h
     by_cases e : (atN l i).cls.getLsbD c.toNat = true
     ·rw [if_pos e] at h; cases h; intro y hy; cases hy
     ·rw [if_neg e] at h; cases h
theorem rd_form {l : List Nd} (hF : Form l) {t : List Itm} (ht : ∀ y ∈ t, HdF l y) (hrd : rdyS l t = true) {c : UInt8} {q : List Itm} (h : rdS l t c = some q) : ∀ y ∈ q, HdF l y := by
 cases t with
 | nil => unfold rdS at h; cases h
 | cons x r =>
  unfold rdS at h
  simp only at h
  cases hl : lowS r with
  | none => rw [hl] at h; cases h
  | some p =>
   rw [hl] at h
   simp only [Option.bind_some] at h
   cases hf : frS l x c with
   | none => rw [hf] at h; cases h
   | some f =>
    rw [hf] at h
    cases h
    intro y hy
    rcases List.mem_append.1 hy with hy | hy
    ·exact fr_form hF (ht x (List.mem_cons_self ..)) (by rw [<- hrd]; rfl) hf y hy
    ·exact low_form (fun z hz => ht z (List.mem_cons_of_mem _ hz)) hl y hy
theorem on_form {l : List Nd} (hF : Form l) {s : List Itm} (hs : ∀ y ∈ s, HdF l y) {c : UInt8} {q : List Itm} (h : q ∈ onL l s c) : ∀ y ∈ q, HdF l y := by
 unfold onL at h
 obtain ⟨t, ht, hq⟩ := List.mem_filterMap.1 h
 obtain ⟨h1, h2, -⟩ := rchS_ok hF hs ht
 exact rd_form hF h2 h1 hq
def FrmB (l : List Nd) (L : Brs) : Prop := ∀ a ∈ L, ∀ y ∈ a.1, HdF l y
theorem frm_add {l : List Nd} {L : Brs} {s : List Itm} {m : Nat} (h : FrmB l L) (hs : ∀ y ∈ s, HdF l y) : FrmB l (addB L s m) := fun a ha => by
 rcases add_mem ha with e | ⟨b, hb, e⟩
 ·rw [e]; exact hs
 ·rw [<- e]; exact h b hb
theorem frm_fold {l : List Nd} {k : Nat} : ∀ {G L : Brs}, FrmB l L -> FrmB l G -> FrmB l (G.foldl (fun M b => addB M b.1 (min 2 (k * b.2))) L)
 | [], L, h, _ => h
 | b :: G, L, h, g => by rw [List.foldl_cons]; exact frm_fold (frm_add h (g b (List.mem_cons_self ..))) fun a ha => g a (List.mem_cons_of_mem _ ha)
theorem brs_form {l : List Nd} {R : List (List Itm)} (h : ∀ q ∈ R, ∀ y ∈ q, HdF l y) : FrmB l (brsL R) := fun a ha => h a.1 ((brsL_keys R a.1).1 (List.mem_map_of_mem ha))
theorem nx_formF {l : List Nd} (hF : Form l) {c : UInt8} : ∀ (L M : Brs), FrmB l L -> FrmB l M -> FrmB l (L.foldl (fun M a => (brsL (onL l a.1 c)).foldl (fun M b => addB M b.1 (min 2 (a.2 * b.2))) M) M)
 | [], M, _, h => h
 | a :: L, M, g, h => nx_formF hF L _ (fun b hb => g b (List.mem_cons_of_mem _ hb)) (frm_fold h (brs_form fun q hq => on_form hF (g a (List.mem_cons_self ..)) hq))
theorem nx_form {l : List Nd} (hF : Form l) {c : UInt8} {L : Brs} (h : FrmB l L) : FrmB l (nxB l c L) := nx_formF hF L [] h fun a ha => by cases ha
def wdB (l : List Nd) (w : Wd) (L : Brs) : Brs := w.foldl (fun L c => nxB l c L) L
theorem wd_form {l : List Nd} (hF : Form l) : ∀ (w : Wd) {L : Brs}, FrmB l L -> FrmB l (wdB l w L)
 | [], L, h => h
 | c :: w, L, h => wd_form hF w (nx_form hF h)
theorem vl_word {l : List Nd} (hR : Rgt l) : ∀ (w v : Wd) {L : Brs}, FrmB l L -> min 2 (vlB l v (wdB l w L)) = min 2 (vlB l (w ++ v) L)
 | [], v, L, h => rfl
 | c :: w, v, L, h => by
  have e : wdB l (c :: w) L = wdB l w (nxB l c L) := rfl
  rw [e, vl_word hR w v (nx_form hR.1 h), vl_next hR h]; rfl
theorem start_form {l : List Nd} (h : 0 < l.length) : FrmB l [(stL l, 1)] := fun a ha => by rw [List.mem_singleton.1 ha]; exact st_form h
theorem vl_start {l : List Nd} (hR : Rgt l) (w : Wd) : min 2 (vlB l [] (wdB l w [(stL l, 1)])) = min 2 (cntN l (l.length - 1) w) := by
 have h0 := hR.1.1
 rw [vl_word hR w [] (start_form h0), List.append_nil, vl_cons]
 simp only
 rw [st_start, show vlB l w [] = 0 from rfl, Nat.one_mul, Nat.add_zero, show ((l.length : Int) - 1).toNat = l.length - 1 by omega]
def enB (l : List Nd) (L : Brs) : Nat := L.foldl (fun n a => min 2 (n + a.2 * mnyB (hdsL l a.1) [])) 0
theorem en_fold {l : List Nd} (hR : Rgt l) : ∀ (L : Brs) (n : Nat), n <= 2 -> FrmB l L -> L.foldl (fun n a => min 2 (n + a.2 * mnyB (hdsL l a.1) [])) n = min 2 (n + vlB l [] L)
 | [], n, h, _ => by rw [show vlB l [] [] = 0 from rfl]; simp; omega
 | a :: L, n, h, g => by
  rw [List.foldl_cons, en_fold hR L _ (Nat.min_le_left _ _) fun b hb => g b (List.mem_cons_of_mem _ hb), vl_cons, hds_mny, st_ends hR (g a (List.mem_cons_self ..))]
  have h1 := min_mulB ((rchS l a.1).count []) a.2
  rw [Nat.mul_comm _ a.2, Nat.mul_comm _ a.2] at h1
  omega
theorem en_start {l : List Nd} (hR : Rgt l) (w : Wd) : enB l (wdB l w [(stL l, 1)]) = min 2 (cntN l (l.length - 1) w) := by
 unfold enB
 rw [en_fold hR _ 0 (by omega) (wd_form hR.1 w (start_form hR.1.1)), Nat.zero_add, vl_start hR]
theorem cvN_until (f : Wd -> Nat) (h : Nat -> Wd -> Nat) (k : Int) : ∀ (w : Wd) (n : Nat), cvN f (fun m v => if k = ((m + v.length : Nat) : Int) then h m v else 0) n w = if k = ((n + w.length : Nat) : Int) then cvN f h n w else 0 := fun w => by
 induction w generalizing f with
 | nil => intro n; rw [cvN_nil, cvN_nil]; split <;> simp
 | cons c w ih =>
  intro n
  rw [cvN_cons, cvN_cons, ih]
  rw [show ((n + 1 + w.length : Nat) : Int) = ((n + (c :: w).length : Nat) : Int) by rw [List.length_cons]; omega]
  split <;> simp
theorem st_until {l : List Nd} {z : Itm} (hz : z.kind = 5) : ∀ (u : List Itm) (n : Nat) (w : Wd), nsW l (u ++ [z]) n w = if z.lo = ((n + w.length : Nat) : Int) then nsW l u n w else 0
 | [], n, w => by
  rw [List.nil_append, nsW_stop hz, nsW_nil]
  cases w with
  | nil => simp
  | cons c w => unfold epW; simp
 | x :: u, n, w => by
  rw [List.cons_append]
  by_cases h5 : x.kind = 5
  ·rw [nsW_stop h5, nsW_stop h5, st_until hz u n w]
   split <;> split <;> rfl
  ·rw [nsW_cons h5, nsW_cons h5, <- cvN_until]
   exact cvN_congr (fun _ => rfl) (fun m v => st_until hz u m v) n w
def EndS (k : Int) (t : List Itm) : Prop := ∃ u, t = u ++ [⟨5, 0, k, 0⟩]
theorem end_cons {k : Int} {x : Itm} {r : List Itm} (h : EndS k (x :: r)) : (r = [] /\ x = ⟨5, 0, k, 0⟩) \/ EndS k r := by
 obtain ⟨u, hu⟩ := h
 cases u with
 | nil => left; simp at hu; exact ⟨hu.2, hu.1⟩
 | cons y u => right; simp at hu; exact ⟨u, hu.2⟩
theorem opn_end {l : List Nd} {k : Int} {x : Itm} {r t : List Itm} (h : EndS k (x :: r)) (ht : t ∈ opnS l x r) : EndS k t \/ (k = 0 /\ t = []) := by
 rcases end_cons h with ⟨rfl, rfl⟩ | ⟨u, rfl⟩
 ·unfold opnS at ht
  simp only [if_true] at ht
  by_cases e : k = 0
  ·rw [if_pos e] at ht; right; exact ⟨e, by simpa using ht⟩
  ·rw [if_neg e] at ht; cases ht
 ·left
  rw [rwI_opn] at ht
  obtain ⟨q, -, rfl⟩ := List.mem_map.1 ht
  exact ⟨q ++ u, by rw [List.append_assoc]⟩
theorem rch_end {l : List Nd} (hR : Rgt l) {k : Int} : ∀ (N : Nat) (s : List Itm), dpS l s <= N -> (∀ y ∈ s, HdF l y) -> (EndS k s \/ (k = 0 /\ s = [])) -> ∀ t ∈ rchS l s, EndS k t \/ (k = 0 /\ t = []) := fun N => by
 induction N with
 | zero =>
  intro s hN hs he t ht
  cases hrd : rdyS l s with
  | true => rw [rch_ready hrd] at ht; rw [List.mem_singleton.1 ht]; exact he
  | false =>
   cases s with
   | nil => unfold rdyS at hrd; cases hrd
   | cons x r =>
    rw [rch_open hR hs hrd] at ht
    obtain ⟨p, hp, -⟩ := List.mem_flatMap.1 ht
    have := opn_lt hR (hs x (List.mem_cons_self ..)) hrd hp
    omega
 | succ N ih =>
  intro s hN hs he t ht
  cases hrd : rdyS l s with
  | true => rw [rch_ready hrd] at ht; rw [List.mem_singleton.1 ht]; exact he
  | false =>
   cases s with
   | nil => unfold rdyS at hrd; cases hrd
   | cons x r =>
    rw [rch_open hR hs hrd] at ht
    obtain ⟨p, hp, htp⟩ := List.mem_flatMap.1 ht
    have h1 := opn_lt hR (hs x (List.mem_cons_self ..)) hrd hp
    have h2 := opn_form hR.1 (hs x (List.mem_cons_self ..)) (fun y hy => hs y (List.mem_cons_of_mem _ hy)) hp
    have h3 : EndS k (x :: r) := by
     rcases he with he | ⟨-, he⟩
     ·exact he
     ·cases he
    exact ih p (by omega) h2 (opn_end h3 hp) t htp
theorem low_end {k : Int} {r q : List Itm} (h : EndS k r) (hq : lowS r = some q) : 0 < k /\ EndS (k - 1) q := by
 obtain ⟨u, rfl⟩ := h
 unfold lowS at hq
 by_cases e : (u ++ [(⟨5, 0, k, 0⟩ : Itm)]).all maylow = true
 ·rw [if_pos e] at hq
  cases hq
  have h1 := List.all_eq_true.1 e ⟨5, 0, k, 0⟩ (by simp)
  unfold maylow at h1
  simp at h1
  refine ⟨by omega, u.map lowI, ?_⟩
  rw [List.map_append]; rfl
 ·rw [if_neg e] at hq; cases hq
theorem rd_end {l : List Nd} {k : Int} {t q : List Itm} {c : UInt8} (hrd : rdyS l t = true) (h : EndS k t \/ (k = 0 /\ t = [])) (hq : rdS l t c = some q) : 0 < k /\ EndS (k - 1) q := by
 cases t with
 | nil => unfold rdS at hq; cases hq
 | cons x r =>
  have h5 := rdy_five hrd
  have he : EndS k r := by
   rcases h with h | ⟨-, h⟩
   ·rcases end_cons h with ⟨-, rfl⟩ | h
    ·exact absurd rfl h5
    ·exact h
   ·cases h
  unfold rdS at hq
  simp only at hq
  cases hl : lowS r with
  | none => rw [hl] at hq; cases hq
  | some p =>
   rw [hl] at hq
   simp only [Option.bind_some] at hq
   obtain ⟨h1, v, rfl⟩ := low_end he hl
   cases hf : frS l x c with
   | none => rw [hf] at hq; cases hq
   | some f =>
    rw [hf] at hq
    cases hq
    exact ⟨h1, f ++ v, by rw [List.append_assoc]⟩
theorem on_end {l : List Nd} (hR : Rgt l) {k : Int} {s q : List Itm} {c : UInt8} (hs : ∀ y ∈ s, HdF l y) (h : EndS k s) (hq : q ∈ onL l s c) : 0 < k /\ EndS (k - 1) q := by
 unfold onL at hq
 obtain ⟨t, ht, hq⟩ := List.mem_filterMap.1 hq
 exact rd_end (rchS_ok hR.1 hs ht).1 (rch_end hR _ s (Nat.le_refl _) hs (.inl h) t ht) hq
theorem on_shut {l : List Nd} (hR : Rgt l) {s : List Itm} {c : UInt8} (hs : ∀ y ∈ s, HdF l y) (h : EndS 0 s) : onL l s c = [] :=
 List.eq_nil_iff_forall_not_mem.2 fun q hq => by have := (on_end hR hs h hq).1; omega
theorem end_none {l : List Nd} (hR : Rgt l) {k : Int} {s : List Itm} (hs : ∀ y ∈ s, HdF l y) (h : EndS k s) (hk : 0 < k) : mnyB (hdsL l s) [] = 0 := by
 rw [hds_mny, <- st_ends hR hs]
 obtain ⟨u, rfl⟩ := h
 rw [st_until rfl, if_neg (by simp; omega)]; rfl
def AllB (P : List Itm -> Prop) (L : Brs) : Prop := ∀ a ∈ L, P a.1
theorem all_add {P : List Itm -> Prop} {L : Brs} {s : List Itm} {m : Nat} (h : AllB P L) (hs : P s) : AllB P (addB L s m) := fun a ha => by
 rcases add_mem ha with e | ⟨b, hb, e⟩
 ·rw [e]; exact hs
 ·rw [<- e]; exact h b hb
theorem all_fold {P : List Itm -> Prop} {k : Nat} : ∀ {G L : Brs}, AllB P L -> AllB P G -> AllB P (G.foldl (fun M b => addB M b.1 (min 2 (k * b.2))) L)
 | [], L, h, _ => h
 | b :: G, L, h, g => by rw [List.foldl_cons]; exact all_fold (all_add h (g b (List.mem_cons_self ..))) fun a ha => g a (List.mem_cons_of_mem _ ha)
theorem all_brs {P : List Itm -> Prop} {R : List (List Itm)} (h : ∀ q ∈ R, P q) : AllB P (brsL R) := fun a ha => h a.1 ((brsL_keys R a.1).1 (List.mem_map_of_mem ha))
theorem nx_allF {l : List Nd} {c : UInt8} {P Q : List Itm -> Prop} (hPQ : ∀ s, P s -> ∀ q ∈ onL l s c, Q q) : ∀ (L M : Brs), AllB P L -> AllB Q M -> AllB Q (L.foldl (fun M a => (brsL (onL l a.1 c)).foldl (fun M b => addB M b.1 (min 2 (a.2 * b.2))) M) M)
 | [], M, _, h => h
 | a :: L, M, g, h => by rw [List.foldl_cons]; exact nx_allF hPQ L _ (fun b hb => g b (List.mem_cons_of_mem _ hb)) (all_fold h (all_brs (hPQ a.1 (g a (List.mem_cons_self ..)))))
theorem nx_all {l : List Nd} {c : UInt8} {P Q : List Itm -> Prop} (hPQ : ∀ s, P s -> ∀ q ∈ onL l s c, Q q) {L : Brs} (h : AllB P L) : AllB Q (nxB l c L) := nx_allF hPQ L [] h fun a ha => by cases ha
def FeS (l : List Nd) (k : Int) (s : List Itm) : Prop := (∀ y ∈ s, HdF l y) /\ EndS k s
theorem nx_fe {l : List Nd} (hR : Rgt l) {c : UInt8} {k : Int} {L : Brs} (h : AllB (FeS l k) L) : AllB (FeS l (k - 1)) (nxB l c L) :=
 nx_all (fun s hs q hq => ⟨on_form hR.1 hs.1 hq, (on_end hR hs.1 hs.2 hq).2⟩) h
def sgC (b : UInt8) : BitVec 256 := BitVec.ofNat 256 (2 ^ b.toNat)
def clT (l : List Nd) : List Itm -> List (BitVec 256)
 | [] => []
 | x :: _ =>
  let n := atN l x.node.toNat
  if x.kind = 3 then [sgC (n.text.getD x.lo.toNat 0)]
  else if x.kind = 1 /\ n.kind = 2 then [n.cls]
  else (List.range 256).map fun b => sgC (UInt8.ofNat b)
end Go.Proofs.Ytidoofdofdhjpaa
namespace Go.Proofs.Ytidoofdofdhjpaa
open Go Go.RowKit
set_option linter.unusedVariables false
set_option linter.unusedSimpArgs false
set_option maxRecDepth 100000
set_option maxHeartbeats 16000000
theorem nxNode_any (l : List Nd) (A : Option Addr) (c : Nat) (x : Itm) (i : Nat) (hi : i < l.length) (hx : x.node = (i : Int)) (hlen : l.length <= 1073741824) (w : World) (hrow : NRow w A l) :
 Calls Try.prog 47 #[.agg #[.slice A l.length c], .agg (itV x)] w (Ans w (.agg (ndC (atN l i)))) := by
 obtain ⟨kk, nn, lo, hi'⟩ := x
 simp only at hx
 subst hx
 have HS := Lib.hid (HfS.new c ⟨kk, (i : Int), lo, hi'⟩ hrow)
 clear hrow
 go_enter Try.func47, Try.ntmps47
 go_upto_region 1 with (fail)
 unfold itV at HS ⊢
 simp only at HS ⊢
 have hsz : ((w.alloc (.cells #[.slice A l.length c] 24)).alloc (.cells #[.int .i64 kk, .int .i64 (i : Int), .int .i64 lo, .int .i64 hi'] 44)).heap.size = w.heap.size + 1 + 1 := by rw [World.size_alloc, World.size_alloc]
 generalize (w.alloc (.cells #[.slice A l.length c] 24)).alloc (.cells #[.int .i64 kk, .int .i64 (i : Int), .int .i64 lo, .int .i64 hi'] 44) = w1 at HS hsz ⊢
 have hb3 := (Below.refl w1.heap.size w1).alloc (Nat.le_refl _) (.cells z10 58)
 have HS3 := Lib.hid (HS.out.later hb3)
 have HN := Lib.hid (Blk.new' hsz.symm z10 58)
 clear hb3 HS hsz
 have ez : #[Value.int .i64 0, .int .i64 0, .int .i64 0, .int .i64 0, .int .i64 0, .int .u64 0, .int .u64 0, .int .u64 0, .int .u64 0, .string { data := #[] }] = z10 := rfl
 rw [ez]
 generalize w1.alloc (.cells z10 58) = w3 at HS3 HN ⊢
 obtain ⟨ba, oa, rfl, -, -⟩ := HS3.out.s.row i hi
 have g : At10 w3 ba (oa + i * 10) (atN l i) := HS3.out.s.row.at hi rfl
 generalize atN l i = n at *
 obtain ⟨nk, na, nb, nlo, nhi, ncls, ntext⟩ := n
 unfold At10 at g
 simp only at g
 obtain ⟨g0, g1, g2, g3, g4, g5, g6, g7, g8, g9⟩ := g
 have x1 := HS3.out.it.cell 1
 have e0 := HS3.out.s.box.cell 0
 simp [itV] at x1 e0
 have HB := Lib.hid HS3.out.s.bel
 have hilz : (i : Int) < (l.length : Int) := by omega
 have hilz2 : ¬ (i : Int) >= (l.length : Int) := by omega
 have hin0 : ¬ (i : Int) < 0 := by omega
 have f0 := HN.out.frozen 0
 have f1 := HN.out.frozen 1
 have f2 := HN.out.frozen 2
 have f3 := HN.out.frozen 3
 have f4 := HN.out.frozen 4
 have f5 := HN.out.frozen 5
 have f6 := HN.out.frozen 6
 have f7 := HN.out.frozen 7
 have f8 := HN.out.frozen 8
 have f9 := HN.out.frozen 9
 have c0 := HN.out.cell 0
 have c1 := HN.out.cell 1
 have c2 := HN.out.cell 2
 have c3 := HN.out.cell 3
 have c4 := HN.out.cell 4
 have c5 := HN.out.cell 5
 have c6 := HN.out.cell 6
 have c7 := HN.out.cell 7
 have c8 := HN.out.cell 8
 have c9 := HN.out.cell 9
 simp [z10] at c0 c1 c2 c3 c4 c5 c6 c7 c8 c9
 go_wp2
 refine bodyPost_ret (v := .agg (ndC ⟨nk, na, nb, nlo, nhi, ncls, ntext⟩)) ?_ rfl ⟨rfl, ?_⟩
 ·simp [results, Try.results47, go_sem]
  go_simp
  try rfl
 ·have hg : w.heap.size <= w.heap.size + 1 + 1 := by omega
  repeat' (refine Below.setCell (p := ⟨w.heap.size + 1 + 1, _, none⟩) ?_ hg _)
  exact HB.out
theorem nxByte_any (n : Nd) (x : Itm) (h0 : 0 <= x.lo) (h1 : x.lo < (n.text.length : Int)) (w : World) :
 Calls Try.prog 48 #[.agg (ndC n), .agg (itV x)] w (Ans w (.tuple #[.int .u8 ((n.text.getD x.lo.toNat 0).toNat : Int), .bool true])) := by
 obtain ⟨k, hk⟩ : ∃ k : Nat, x.lo = (k : Int) := ⟨x.lo.toNat, by omega⟩
 rw [hk] at h0 h1 ⊢
 rw [Int.toNat_natCast]
 have hb1 := (Below.refl w.heap.size w).alloc (Nat.le_refl _) (.cells (ndC n) 58)
 have hb2 := hb1.alloc (hb1.size) (.cells (itV x) 44)
 have HB := Lib.hid hb2
 have HN := Lib.hid ((Blk.new w (ndC n) 58).later ((Below.refl _ _).alloc (Nat.le_refl _) (.cells (itV x) 44)))
 have HX := Blk.new (w.alloc (.cells (ndC n) 58)) (itV x) 44
 rw [World.size_alloc] at HX
 have HX := Lib.hid HX
 clear hb1 hb2
 go_enter Try.func48, Try.ntmps48
 go_upto_region 1 with (fail)
 generalize (w.alloc (.cells (ndC n) 58)).alloc (.cells (itV x) 44) = w1 at *
 have x2 := HX.out.cell 2
 have n9 := HN.out.cell 9
 simp [itV, ndC] at x2 n9
 rw [hk] at x2
 have hks : (k : Int) < ((bs n.text).size : Int) := by rw [bs_size]; exact h1
 have hks2 : ¬ (k : Int) >= ((bs n.text).size : Int) := by omega
 have hk0 : ¬ (k : Int) < 0 := by omega
 have hkn : k < (bs n.text).size := by omega
 have hgt : (bs n.text)[k] = n.text.getD k 0 := by rw [bs_get, List.getD_eq_getElem?_getD, List.getElem?_eq_getElem (by rw [<- bs_size]; exact hkn)]; rfl
 have hix : ∀ w, (Instr.index 9 (.string (bs n.text)) (.int .i64 (k : Int))).run Try.prog w = .ok (.int .u8 ((n.text.getD k 0).toNat : Int)) w := fun w => by
  rw [run_index_string w 9 (bs n.text) .i64 (k : Int) Try.underlying9, dif_pos ⟨by omega, hks⟩]
  simp only [Int.toNat_natCast, hgt]
 clear hk hgt hkn h1
 generalize bs n.text = T at *
 go_wp2
 go_ret2
 exact ⟨rfl, HB.out⟩
def rdC (x : Itm) (n : Nd) (c : UInt8) : Array Value := #[.int .i64 x.kind, .int .i64 x.node, .int .i64 x.lo, .int .i64 x.hi, .int .i64 n.kind, .int .i64 n.a, .int .i64 n.b, .int .i64 n.lo, .int .i64 n.hi, .int .u64 (wd n.cls 0), .int .u64 (wd n.cls 1), .int .u64 (wd n.cls 2), .int .u64 (wd n.cls 3), .string (bs n.text), .int .u8 (c.toNat : Int)]
def FrV (f : List Itm) (v : Value) (w : World) : Prop := (f = [] /\ v = .slice none 0 0) \/ ∃ b, v = .slice (some ⟨b, 0, none⟩) f.length f.length /\ Blk w b (flatIt f).toArray 44
theorem FrV.later (f : List Itm) (v : Value) (w w' : World) (h : FrV f v w) (hb : Below w.heap.size w w') : FrV f v w' := by
 rcases h with h | ⟨b, h1, h2⟩
 ·exact .inl h
 ·exact .inr ⟨b, h1, h2.later hb⟩
def RdfP (o : Option (List Itm)) (w : World) (e : Ending) (w' : World) : Prop := ∃ v, e = .returned (.tuple #[v, .bool o.isSome]) /\ (∀ f, o = some f -> FrV f v w') /\ Below w.heap.size w w'
theorem nxFramed_any (x : Itm) (n : Nd) (c : UInt8) (m : Int) (w : World) :
 Calls Try.prog 74 #[.agg (rdC x n c), .int .i64 m] w (fun e w' => ∃ v, e = .returned v /\ FrV [⟨1, n.a, 0, 0⟩, ⟨5, 0, m, 0⟩] v w' /\ Below w.heap.size w w') := by
 have hb1 := (Below.refl w.heap.size w).alloc (Nat.le_refl _) (.cells (rdC x n c) 93)
 have HX := Lib.hid (Blk.new w (rdC x n c) 93)
 have HB := Lib.hid hb1
 clear hb1
 go_enter Try.func74, Try.ntmps74
 go_upto_region 1 with (fail)
 generalize w.alloc (.cells (rdC x n c) 93) = w1 at *
 have r5 := HX.out.cell 5
 simp [rdC] at r5
 have hb2 := (Below.refl w1.heap.size w1).alloc (Nat.le_refl _) (.cells (flatIt [⟨1, n.a, 0, 0⟩, ⟨5, 0, m, 0⟩]).toArray 44)
 have HB2 := Lib.hid (HB.out.trans (hb2.mono HB.out.size))
 have HN := Lib.hid (Blk.new w1 (flatIt [⟨1, n.a, 0, 0⟩, ⟨5, 0, m, 0⟩]).toArray 44)
 clear hb2
 have e9 : (flatIt [⟨1, n.a, 0, 0⟩, ⟨5, 0, m, 0⟩]).toArray = #[.int .i64 1, .int .i64 n.a, .int .i64 0, .int .i64 0, .int .i64 5, .int .i64 0, .int .i64 m, .int .i64 0] := rfl
 have HE9 := Lib.hid e9
 rw [e9] at HN HB2
 clear e9
 go_wp2
 go_ret
 exact ⟨_, rfl, .inr ⟨_, rfl, by rw [HE9.out]; exact HN.out⟩, HB2.out⟩
def whF (n : Nd) (x : Itm) (c : UInt8) : Option (List Itm) :=
 if n.kind = 8 then some [⟨1, n.a, 0, 0⟩, ⟨5, 0, (c.toNat : Int), 0⟩]
 else if n.kind = 9 then some [⟨4, x.node, (c.toNat : Int), 0⟩]
 else if n.cls.getLsbD c.toNat = true then some [] else none
theorem nxWhole_any (x : Itm) (n : Nd) (c : UInt8) (hk : n.kind = 2 \/ n.kind = 8 \/ n.kind = 9) (w : World) :
 Calls Try.prog 51 #[.agg (rdC x n c)] w (RdfP (whF n x c) w) := by
 have hb1 := (Below.refl w.heap.size w).alloc (Nat.le_refl _) (.cells (rdC x n c) 93)
 have HX := Lib.hid (Blk.new w (rdC x n c) 93)
 have HB := Lib.hid hb1
 have HH := Lib.hid (fun w => has_any n.cls c.toNat c.toNat_lt w)
 have HF := Lib.hid (fun w => nxFramed_any x n c (c.toNat : Int) w)
 obtain ⟨o, ho⟩ : ∃ o, whF n x c = o := ⟨_, rfl⟩
 have HO := Lib.hid ho
 rw [ho]
 clear hb1 ho
 have hc := c.toNat_lt
 go_enter Try.func51, Try.ntmps51
 go_upto_region 1 with (fail)
 generalize w.alloc (.cells (rdC x n c) 93) = w1 at *
 have r1 := HX.out.cell 1
 have r4 := HX.out.cell 4
 have r9 := HX.out.cell 9
 have r10 := HX.out.cell 10
 have r11 := HX.out.cell 11
 have r12 := HX.out.cell 12
 have r14 := HX.out.cell 14
 have ra0 := HX.out.cell 0
 have ra2 := HX.out.cell 2
 have ra3 := HX.out.cell 3
 have ra5 := HX.out.cell 5
 have ra6 := HX.out.cell 6
 have ra7 := HX.out.cell 7
 have ra8 := HX.out.cell 8
 have ra13 := HX.out.cell 13
 unfold rdC at HF HX
 simp [rdC] at r1 r4 r9 r10 r11 r12 r14 ra0 ra2 ra3 ra5 ra6 ra7 ra8 ra13
 unfold cls at HH
 rcases hk with hk | hk | hk
 ·have HO2 : Hid (o = if n.cls.getLsbD c.toNat = true then some [] else none) := by
   unfold Hid; rw [<- HO.out]; unfold whF; rw [if_neg (by omega), if_neg (by omega)]
  rw [hk] at r4
  clear hk HO ra0 ra2 ra3 ra5 ra6 ra7 ra8 ra13 HF
  generalize n.cls.getLsbD c.toNat = q at *
  go_wp2_with ((with_reducible refine (HH.out _).mono ?_); rintro e w' ⟨rfl, hb⟩; have HB3 := Lib.hid (HB.out.trans (hb.mono HB.out.size)); clear hb)
  go_ret2
  cases q with
  | true => exact ⟨_, by rw [HO2.out]; rfl, (fun f hf => by rw [HO2.out] at hf; cases hf; exact .inl ⟨rfl, rfl⟩), HB3.out⟩
  | false => exact ⟨_, by rw [HO2.out]; rfl, (fun f hf => by rw [HO2.out] at hf; cases hf), HB3.out⟩
 ·have HO2 : Hid (o = some [⟨1, n.a, 0, 0⟩, ⟨5, 0, (c.toNat : Int), 0⟩]) := by
   unfold Hid; rw [<- HO.out]; unfold whF; rw [if_pos hk]
  rw [hk] at r4 HF
  clear hk HO HH
  go_wp2_with ((refine (HF.out _).mono ?_); rintro e w' ⟨v, rfl, hv, hb⟩; have HV := Lib.hid hv; have HB3 := Lib.hid (HB.out.trans (hb.mono HB.out.size)); clear hb hv)
  go_ret2
  exact ⟨_, by rw [HO2.out]; rfl, fun f hf => by rw [HO2.out] at hf; cases hf; exact HV.out, HB3.out⟩
 ·have HO2 : Hid (o = some [⟨4, x.node, (c.toNat : Int), 0⟩]) := by
   unfold Hid; rw [<- HO.out]; unfold whF; rw [if_neg (by omega), if_pos hk]
  rw [hk] at r4
  clear hk HO HH HF
  have hb2 := (Below.refl w1.heap.size w1).alloc (Nat.le_refl _) (.cells (flatIt [⟨4, x.node, (c.toNat : Int), 0⟩]).toArray 44)
  have HB2 := Lib.hid (HB.out.trans (hb2.mono HB.out.size))
  have HN := Lib.hid (Blk.new w1 (flatIt [⟨4, x.node, (c.toNat : Int), 0⟩]).toArray 44)
  clear hb2
  have e9 : (flatIt [⟨4, x.node, (c.toNat : Int), 0⟩]).toArray = #[.int .i64 4, .int .i64 x.node, .int .i64 (c.toNat : Int), .int .i64 0] := rfl
  have HE9 := Lib.hid e9
  rw [e9] at HN HB2
  clear e9
  go_wp2
  go_ret2
  exact ⟨_, by rw [HO2.out]; rfl, (fun f hf => by rw [HO2.out] at hf; cases hf; exact .inr ⟨_, rfl, by rw [HE9.out]; exact HN.out⟩), HB2.out⟩
theorem nxHalf_any (x : Itm) (n : Nd) (c : UInt8) (h0 : 0 <= x.lo) (h1 : x.lo <= 255) (w : World) :
 Calls Try.prog 53 #[.agg (rdC x n c)] w (RdfP (some [⟨1, n.a, 0, 0⟩, ⟨5, 0, 256 * x.lo + (c.toNat : Int), 0⟩]) w) := by
 have hb1 := (Below.refl w.heap.size w).alloc (Nat.le_refl _) (.cells (rdC x n c) 93)
 have HX := Lib.hid (Blk.new w (rdC x n c) 93)
 have HB := Lib.hid hb1
 have HF := Lib.hid (fun w => nxFramed_any x n c (256 * x.lo + (c.toNat : Int)) w)
 clear hb1
 have hc := c.toNat_lt
 go_enter Try.func53, Try.ntmps53
 go_upto_region 1 with (fail)
 generalize w.alloc (.cells (rdC x n c) 93) = w1 at *
 have r0 := HX.out.cell 0
 have r1 := HX.out.cell 1
 have r2 := HX.out.cell 2
 have r3 := HX.out.cell 3
 have r4 := HX.out.cell 4
 have r5 := HX.out.cell 5
 have r6 := HX.out.cell 6
 have r7 := HX.out.cell 7
 have r8 := HX.out.cell 8
 have r9 := HX.out.cell 9
 have r10 := HX.out.cell 10
 have r11 := HX.out.cell 11
 have r12 := HX.out.cell 12
 have r13 := HX.out.cell 13
 have r14 := HX.out.cell 14
 unfold rdC at HF HX
 simp [rdC] at r0 r1 r2 r3 r4 r5 r6 r7 r8 r9 r10 r11 r12 r13 r14
 go_wp2_with ((refine (HF.out _).mono ?_); rintro e w' ⟨v, rfl, hv, hb⟩; have HV := Lib.hid hv; have HB3 := Lib.hid (HB.out.trans (hb.mono HB.out.size)); clear hb hv)
 go_ret2
 exact ⟨_, rfl, fun f hf => by cases hf; exact HV.out, HB3.out⟩
def txF (n : Nd) (x : Itm) (c : UInt8) : Option (List Itm) := if n.text.getD x.lo.toNat 0 = c then some (if x.lo + 1 < (n.text.length : Int) then [⟨x.kind, x.node, x.lo + 1, x.hi⟩] else []) else none
theorem nxText_any (x : Itm) (n : Nd) (c : UInt8) (h0 : 0 <= x.lo) (h1 : x.lo < (n.text.length : Int)) (ht : n.text.length <= 281474976710656) (w : World) :
 Calls Try.prog 52 #[.agg (rdC x n c)] w (RdfP (txF n x c) w) := by
 obtain ⟨kk, nn, lo, hi⟩ := x
 simp only at h0 h1
 obtain ⟨k, rfl⟩ : ∃ k : Nat, lo = (k : Int) := ⟨lo.toNat, by omega⟩
 have hb1 := (Below.refl w.heap.size w).alloc (Nat.le_refl _) (.cells (rdC ⟨kk, nn, (k : Int), hi⟩ n c) 93)
 have HX := Lib.hid (Blk.new w (rdC ⟨kk, nn, (k : Int), hi⟩ n c) 93)
 have HB := Lib.hid hb1
 have HF := Lib.hid (fun w => nxByte_any n ⟨kk, nn, (k : Int), hi⟩ h0 h1 w)
 clear hb1
 have hc := c.toNat_lt
 obtain ⟨o, ho⟩ : ∃ o, txF n ⟨kk, nn, (k : Int), hi⟩ c = o := ⟨_, rfl⟩
 have HO := Lib.hid ho
 rw [ho]
 clear ho
 unfold txF at HO
 simp only [Int.toNat_natCast] at HO HF
 go_enter Try.func52, Try.ntmps52
 go_upto_region 1 with (fail)
 generalize w.alloc (.cells (rdC ⟨kk, nn, (k : Int), hi⟩ n c) 93) = w1 at *
 have HSZ : Hid ((bs n.text).size = n.text.length) := bs_size _
 obtain ⟨u, hu⟩ : ∃ u, n.text.getD k 0 = u := ⟨_, rfl⟩
 rw [hu] at HF HO
 clear hu
 have hkm : k < n.text.length := by omega
 generalize hlm : n.text.length = m at *
 clear hlm
 obtain ⟨nk, na, nb, nlo, nhi, ncls, ntext⟩ := n
 simp only at HSZ
 unfold ndC itV at HF
 unfold rdC at HX
 simp only at HF HX
 generalize bs ntext = T at *
 generalize (wd ncls 0 : Int) = a0 at *
 generalize (wd ncls 1 : Int) = a1 at *
 generalize (wd ncls 2 : Int) = a2 at *
 generalize (wd ncls 3 : Int) = a3 at *
 have r0 := HX.out.cell 0
 have r1 := HX.out.cell 1
 have r2 := HX.out.cell 2
 have r3 := HX.out.cell 3
 have r4 := HX.out.cell 4
 have r5 := HX.out.cell 5
 have r6 := HX.out.cell 6
 have r7 := HX.out.cell 7
 have r8 := HX.out.cell 8
 have r9 := HX.out.cell 9
 have r10 := HX.out.cell 10
 have r11 := HX.out.cell 11
 have r12 := HX.out.cell 12
 have r13 := HX.out.cell 13
 have r14 := HX.out.cell 14
 simp at r0 r1 r2 r3 r4 r5 r6 r7 r8 r9 r10 r11 r12 r13 r14
 by_cases huc : u = c
 ·subst huc
  have HO2 : Hid (o = some (if (k : Int) + 1 < (m : Int) then [⟨kk, nn, (k : Int) + 1, hi⟩] else [])) := by unfold Hid; rw [<- HO.out, if_pos rfl]
  have hnq : ((u.toNat : Int) != (u.toNat : Int)) = false := by simp
  clear HO
  go_wp2_with fail
  refine (HF.out _).mono ?_; rintro e w' ⟨rfl, hb⟩
  have HB3 := Lib.hid (HB.out.trans (hb.mono HB.out.size))
  have HX3 := Lib.hid (HX.out.later hb)
  clear hb HB HX HF r0 r1 r2 r3 r4 r5 r6 r7 r8 r9 r10 r11 r12 r13 r14
  have r0 := HX3.out.cell 0
  have r1 := HX3.out.cell 1
  have r2 := HX3.out.cell 2
  have r3 := HX3.out.cell 3
  have r13 := HX3.out.cell 13
  have r14 := HX3.out.cell 14
  simp at r0 r1 r2 r3 r13 r14
  generalize u.toNat = un at *
  have hbA := (Below.refl w'.heap.size w').alloc (Nat.le_refl _) (.cells #[.int .i64 kk, .int .i64 nn, .int .i64 (k : Int), .int .i64 hi] 44)
  have HXA := Lib.hid (Blk.new w' #[.int .i64 kk, .int .i64 nn, .int .i64 (k : Int), .int .i64 hi] 44)
  have HBA := Lib.hid (HB3.out.trans (hbA.mono HB3.out.size))
  have HXX := Lib.hid (HX3.out.later hbA)
  have HLE := Lib.hid HB3.out.size
  go_upto_region 5 with (fail)
  clear r0 r1 r2 r3 r13 r14 hbA HX3 HB3
  generalize w'.alloc (.cells #[.int .i64 kk, .int .i64 nn, .int .i64 (k : Int), .int .i64 hi] 44) = w4 at *
  generalize w'.heap.size = bx at *
  have x2 := HXA.out.cell 2
  have f2 := HXA.out.frozen 2
  simp at x2
  have hx5 := HXA.out.setCell 2 (.int .i64 ((k : Int) + 1))
  have HX5 : Blk (w4.setCell ⟨bx, 2, none⟩ (.int .i64 ((k : Int) + 1))) bx #[.int .i64 kk, .int .i64 nn, .int .i64 ((k : Int) + 1), .int .i64 hi] 44 := by simpa using hx5
  have HX5 := Lib.hid HX5
  have HB5 := Lib.hid (HBA.out.setCell (p := ⟨bx, 2, none⟩) HLE.out (.int .i64 ((k : Int) + 1)))
  have hrb := (HXX.out.setCell_ne (a := ⟨bx, 2, none⟩) (blk_typ HXA.out HXX.out (by decide)) (.int .i64 ((k : Int) + 1)))
  have r13 := hrb.cell 13
  simp at r13
  have hkb : (k : Int) + 1 <= 9223372036854775807 := by omega
  go_upto_region 6 with (fail)
  clear x2 f2 hx5 hrb HXX HXA HBA
  generalize w4.setCell ⟨bx, 2, none⟩ (.int .i64 ((k : Int) + 1)) = w5 at *
  have x0 := HX5.out.cell 0
  have x1 := HX5.out.cell 1
  have x2 := HX5.out.cell 2
  have x3 := HX5.out.cell 3
  simp at x0 x1 x2 x3
  by_cases hlast : (k : Int) + 1 < (m : Int)
  ·have hq : ((k : Int) + 1 == (T.size : Int)) = false := by rw [beq_eq_false_iff_ne, HSZ.out]; omega
   have HO3 : Hid (o = some [⟨kk, nn, (k : Int) + 1, hi⟩]) := by unfold Hid; rw [HO2.out, if_pos hlast]
   have hb6 := (Below.refl w5.heap.size w5).alloc (Nat.le_refl _) (.cells #[.int .i64 kk, .int .i64 nn, .int .i64 ((k : Int) + 1), .int .i64 hi] 44)
   have HB6 := Lib.hid (HB5.out.trans (hb6.mono HB5.out.size))
   have HN := Lib.hid (Blk.new w5 #[.int .i64 kk, .int .i64 nn, .int .i64 ((k : Int) + 1), .int .i64 hi] 44)
   clear hb6 hlast HO2 h1 hkm
   generalize (k : Int) + 1 = k1 at *
   go_wp2
   go_ret2
   exact ⟨_, by rw [HO3.out]; rfl, (fun f hf => by rw [HO3.out] at hf; cases hf; exact .inr ⟨_, rfl, HN.out⟩), HB6.out⟩
  ·have hq : ((k : Int) + 1 == (T.size : Int)) = true := by rw [beq_iff_eq, HSZ.out]; omega
   have HO3 : Hid (o = some []) := by unfold Hid; rw [HO2.out, if_neg hlast]
   clear hlast HO2 h1 hkm
   generalize (k : Int) + 1 = k1 at *
   go_wp2
   go_ret2
   exact ⟨_, by rw [HO3.out]; rfl, (fun f hf => by rw [HO3.out] at hf; cases hf; exact .inl ⟨rfl, rfl⟩), HB5.out⟩
 ·have hnq : ((u.toNat : Int) != (c.toNat : Int)) = true := by
   rw [bne_iff_ne]
   intro e
   exact huc (UInt8.toNat_inj.1 (by omega))
  have HO2 : Hid (o = none) := by unfold Hid; rw [<- HO.out, if_neg huc]
  generalize u.toNat = un at *
  clear huc HO
  go_wp2_with fail
  refine (HF.out _).mono ?_; rintro e w' ⟨rfl, hb⟩
  have HB3 := Lib.hid (HB.out.trans (hb.mono HB.out.size)); have HX3 := Lib.hid (HX.out.later hb); have r14b := HX3.out.cell 14; simp at r14b; clear hb HB HX HF r0 r1 r2 r3 r4 r5 r6 r7 r8 r9 r10 r11 r12 r13 r14
  go_wp2
  go_ret2
  exact ⟨_, by rw [HO2.out]; rfl, (fun f hf => by rw [HO2.out] at hf; cases hf), HB3.out⟩
theorem run_append_si (w : World) (ty : TypeId) (args : Array Value) : (Builtin.append_ #[26, 25] ty args).run Try.prog w = (Builtin.append_ #[26, 26] ty args).run Try.prog w := by
 have h1 := Try.underlying26
 have h2 := Try.underlying25
 unfold Builtin.append_
 simp only [Sem.run_bind, List.getElem?_toArray, List.getElem?_cons_zero, List.getElem?_cons_succ]
 cases args[0]? with
 | none => simp
 | some a => cases args[1]? with
  | none => simp
  | some b => cases a <;> simp [Sem.run_bind, run_underlying h1, run_underlying h2]
theorem run_copy_itG (tD tS : TypeId) (hD : Try.prog.underlying tD = some (.slice 44)) (w : World) (ty : TypeId) (g o dl dCap : Nat) (A : Option Addr) (c : Nat) (r : List Itm) (cur : Array Value) (t : TypeId) (sl : Nat) (hg : Blk w g cur t) (hr : Nat.min sl dl = r.length) (hfit : o + r.length * 4 <= cur.size) (hrow : ItRow w A r) :
 (Builtin.copy_ #[tD, tS] ty #[.slice (some ⟨g, o, none⟩) dl dCap, .slice A sl c]).run Try.prog w = .ok (.int .i64 (r.length : Int)) (w.setRow g (cur.toList.take o ++ flatIt r ++ cur.toList.drop (o + (flatIt r).length)).toArray) := by
 obtain ⟨ib, hib, hz0, hz1, hz2⟩ := info_parts infoIt
 have hst := run_storeCells_at Try.prog g o t (flatIt r) 0 cur w hg (by rw [flatIt_length]; exact hfit) (flatIt_ones r)
 have hmn := hr
 have hf : (Builtin.firstCells ib.size r.length (.slice A sl c)).run Try.prog w = .ok (flatIt r).toArray w := by
  by_cases hne : 0 < r.length
  ·obtain ⟨b, oo, rfl, -, -⟩ := hrow 0 hne
   exact run_firstCells_some (P := Try.prog) w ib.size r.length ⟨b, oo, none⟩ sl c (flatIt r) (by rw [flatIt_length, hz1]) hrow.news
  ·have hl : r = [] := List.length_eq_zero_iff.1 (by omega)
   subst hl
   cases A with
   | none => rfl
   | some x => exact run_firstCells_some (P := Try.prog) w ib.size 0 x sl c [] (by simp) (by simp)
 simp [Builtin.copy_, run_underlying hD, Builtin.lenOf, sizeOf, typeInfo, hib, hmn, hf, hst]
 rfl
theorem wp_copy_itG {w : World} {o : Oper} {a : Act} {K : Act -> World -> Prop} {Q : Exit -> Act -> World -> Prop} (d s : Operand) (tD tS : TypeId) (hD : Try.prog.underlying tD = some (.slice 44))
 (ho : o.op = .call { callee := .builtin .copy, args := #[d, s], argTypes := #[tD, tS] })
 (g oo dl dCap : Nat) (A : Option Addr) (sl c : Nat) (r : List Itm) (cur : Array Value) (t : TypeId) (hd : a.eval d = .slice (some ⟨g, oo, none⟩) dl dCap) (hs : a.eval s = .slice A sl c)
 (hg : Blk w g cur t) (hr : Nat.min sl dl = r.length) (hfit : oo + r.length * 4 <= cur.size) (hrow : ItRow w A r)
 (h : ∀ v' w', Blk w' g (cur.toList.take oo ++ flatIt r ++ cur.toList.drop (oo + (flatIt r).length)).toArray t -> w.grownBy w' (some g) -> w'.heap.size = w.heap.size -> K (a.put o.dst v') w') : o.wp Try.prog a w K Q := by
 have hrun := run_copy_itG tD tS hD w o.type g oo dl dCap A c r cur t sl hg hr hfit hrow
 unfold Oper.wp execOp
 simp only [ho, resolve, invoke, builtin, Sem.run_bind, Sem.run_pure, Result.andThen_ok, List.map_toArray, List.map_cons, List.map_nil, hd, hs, hrun]
 exact h _ _ (setRow_heap _ _ _ _ _ _ hg) (setRow_grown _ _ _) (setRow_size _ _ _)
theorem wpList_append_si {w : World} {ops : Array Oper} {rest : List Oper} {o : Oper} {a : Act} {Q : Exit -> Act -> World -> Prop} (hgd : o.guard = none) (s x : Operand)
 (ho : o.op = .call { callee := .builtin .append, args := #[s, x], argTypes := #[26, 25] })
 (base : Nat) (v : Value) (l : List Itm) (hs : a.eval s = v) (hown : OwnIt w base v l)
 (b oo c : Nat) (r : List Itm) (hx : a.eval x = .slice (some ⟨b, oo, none⟩) r.length c) (hr : ItRow w (some ⟨b, oo, none⟩) r) (hlen : l.length + r.length < 1073741824) (hbase : base <= w.heap.size)
 (h : ∀ v' w', OwnIt w' base v' (l ++ r) -> w.grownBy w' v.ownBlock -> wpList Try.prog ops Q rest (a.put o.dst v') w') : wpList Try.prog ops Q (o :: rest) a w :=
 wpList_plain hgd fun K hK => by
  obtain ⟨ib, hib, hz0, hz1, hz2⟩ := info_parts infoIt
  obtain ⟨v', w', hrun, h2, h3, _⟩ := run_append_own (P := Try.prog) w base 26 o.type 44 ib _ 4 32 Try.underlying26 hib hz0 hz1 hz2 rfl (by decide) v l.length (flatIt l) hown ⟨b, oo, none⟩ r.length c (flatIt r) (by rw [flatIt_length]) hr.news (flatIt_ones r) (by unfold maxLen; omega) (by omega) hbase
  rw [<- run_append_si] at hrun
  unfold Oper.wp execOp
  simp only [ho, resolve, invoke, builtin, Sem.run_bind, Sem.run_pure, Result.andThen_ok, List.map_toArray, List.map_cons, List.map_nil, hs, hx, hrun]
  exact hK _ _ (h v' w' (by unfold OwnIt; rw [List.length_append, flatIt_append]; exact h2) h3)
theorem ins_cells (R : Array Value) (F Q : List Value) (h : F.length + Q.length <= R.size) :
 ∃ X1 X2 : Array Value, X1 = (R.toList.take 0 ++ F ++ R.toList.drop (0 + F.length)).toArray /\ X1.size = R.size /\ X2 = (X1.toList.take F.length ++ Q ++ X1.toList.drop (F.length + Q.length)).toArray /\ X2.size = R.size /\ X2.toList.take (F.length + Q.length) = F ++ Q := by
 have hR : R.toList.length = R.size := Array.length_toList
 have h1 : (R.toList.take 0 ++ F ++ R.toList.drop (0 + F.length)).length = R.size := by
  rw [List.length_append, List.length_append, List.length_take, List.length_drop, hR]; omega
 have h2 : (R.toList.take 0 ++ F ++ R.toList.drop (0 + F.length)).take F.length = F := by
  rw [List.take_zero, List.nil_append, List.take_append_of_le_length (Nat.le_refl _), List.take_length]
 refine ⟨_, _, rfl, by rw [List.size_toArray]; exact h1, rfl, ?_, ?_⟩
 ·rw [List.size_toArray, List.length_append, List.length_append, List.length_take, List.length_drop, h1]; omega
 ·show ((R.toList.take 0 ++ F ++ R.toList.drop (0 + F.length)).take F.length ++ Q ++ _).take _ = _
  rw [h2, List.take_append_of_le_length (by rw [List.length_append]; omega), List.take_of_length_le (by rw [List.length_append]; omega)]
theorem ins_cells2 (R : Array Value) (F Q : List Value) (h : F.length + Q.length <= R.size) :
 ∃ X1 X2 : Array Value, X1 = (R.toList.take F.length ++ Q ++ R.toList.drop (F.length + Q.length)).toArray /\ X1.size = R.size /\ X2 = (X1.toList.take 0 ++ F ++ X1.toList.drop (0 + F.length)).toArray /\ X2.size = R.size /\ X2.toList.take (F.length + Q.length) = F ++ Q := by
 have hR : R.toList.length = R.size := Array.length_toList
 have h0 : (R.toList.take F.length).length = F.length := by rw [List.length_take, hR]; omega
 have h1 : (R.toList.take F.length ++ Q ++ R.toList.drop (F.length + Q.length)).length = R.size := by
  rw [List.length_append, List.length_append, h0, List.length_drop, hR]; omega
 have h2 : (R.toList.take F.length ++ Q ++ R.toList.drop (F.length + Q.length)).drop F.length = Q ++ R.toList.drop (F.length + Q.length) := by
  rw [List.append_assoc, List.drop_append_of_le_length (by omega), List.drop_of_length_le (by omega), List.nil_append]
 refine ⟨_, _, rfl, by rw [List.size_toArray]; exact h1, rfl, ?_, ?_⟩
 ·rw [List.size_toArray, List.length_append, List.length_append, List.length_take, List.length_drop, h1]; omega
 ·show ((R.toList.take F.length ++ Q ++ R.toList.drop (F.length + Q.length)).take 0 ++ F ++ (R.toList.take F.length ++ Q ++ R.toList.drop (F.length + Q.length)).drop (0 + F.length)).take _ = _
  rw [List.take_zero, List.nil_append, Nat.zero_add, h2, <- List.append_assoc, List.take_append_of_le_length (by rw [List.length_append]; omega), List.take_of_length_le (by rw [List.length_append]; omega)]
theorem copy_told (tD tS : TypeId) (hD : Try.prog.underlying tD = some (.slice 44)) (w : World) (g o dl dCap : Nat) (A : Option Addr) (c : Nat) (r : List Itm) (cur : Array Value) (t : TypeId) (sl : Nat) (hg : Blk w g cur t) (hr : Nat.min sl dl = r.length) (hfit : o + r.length * 4 <= cur.size) (hrow : ItRow w A r) :
 ∃ w', (∀ ty, (Builtin.copy_ #[tD, tS] ty #[.slice (some ⟨g, o, none⟩) dl dCap, .slice A sl c]).run Try.prog w = .ok (.int .i64 (r.length : Int)) w') /\ Blk w' g (cur.toList.take o ++ flatIt r ++ cur.toList.drop (o + (flatIt r).length)).toArray t /\ w.grownBy w' (some g) /\ w'.heap.size = w.heap.size :=
 ⟨_, fun ty => run_copy_itG tD tS hD w ty g o dl dCap A c r cur t sl hg hr hfit hrow, setRow_heap _ _ _ _ _ _ hg, setRow_grown _ _ _, setRow_size _ _ _⟩
theorem own_made {w : World} {B g G : Nat} {l : List Itm} {X : Array Value} (hB : B <= g) (h : Blk w g X 44) (hn : l.length <= G) (hG : G <= maxLen) (hs : X.size = G * 4) (ht : X.toList.take (l.length * 4) = flatIt l) : OwnIt w B (.slice (some ⟨g, 0, none⟩) l.length G) l :=
 ⟨flatIt_length _, .inr ⟨g, G, X, rfl, hB, h, hn, hG, hs, ht⟩⟩
theorem grown_new {a b c : World} {r : Option Nat} {g : Nat} (h : a.grownBy b r) (hg : a.heap.size <= g) (k : b.grownBy c (some g)) : a.grownBy c r :=
 ⟨k.os.trans h.os, k.tape.trans h.tape, k.output.trans h.output, Nat.le_trans h.size k.size, fun i hi hne => (k.block i (Nat.lt_of_lt_of_le hi h.size) (by intro e; cases e; omega)).trans (h.block i hi hne)⟩
def BlwS (w0 w : World) : Prop := Below w0.heap.size w0 w
theorem BlwS.later {w0 w w' : World} (h : BlwS w0 w) (hb : Below w.heap.size w w') : BlwS w0 w' := by
 unfold BlwS at *
 exact h.trans (hb.mono h.size)
theorem fr_row {w : World} {b : Nat} {f : List Itm} (h : Blk w b (flatIt f).toArray 44) : ItRow w (some ⟨b, 0, none⟩) f := fun i hi => ⟨b, 0, rfl, h.lt, fun j hj => by
 rw [h.cell, Nat.zero_add, List.getElem?_toArray, flatIt_get f i j hi hj]⟩
theorem own_shape {w : World} {b : Nat} {cs : Array Value} {t : TypeId} (h : Blk w b cs t) : w.shape? b = some (t, cs.size) := by
 unfold World.shape?
 unfold Blk at h
 rw [h]
def NinP (B : Nat) (v : Value) (l : List Itm) (w : World) (e : Ending) (w' : World) : Prop := ∃ u, e = .returned u /\ OwnIt w' B u l /\ w.grownBy w' v.ownBlock
theorem nxIns_any (f q : List Itm) (v : Value) (A : Option Addr) (cf B : Nat) (w : World) (hq : OwnIt w B v q) (hB : B <= w.heap.size) (hf : FrV f (.slice A f.length cf) w) (hne : ∀ b, A = some ⟨b, 0, none⟩ -> v.ownBlock ≠ some b) (hfl : f.length <= 2) (hql : q.length <= 1000000) :
 Calls Try.prog 55 #[v, .int .i64 0, .slice A f.length cf] w (NinP B v (f ++ q) w) := by
 by_cases hm : f.length = 0
 ·have hf0 : f = [] := List.length_eq_zero_iff.1 hm
  subst hf0
  have HP : Hid (NinP B v ([] ++ q) w (.returned v) w) := ⟨_, rfl, by rw [List.nil_append]; exact hq, World.grownBy.refl _ _⟩
  obtain ⟨a7, c7, rfl, hc7, -⟩ := hq.row
  clear hq hf hne
  have hqz : (0 : Int) <= (q.length : Int) := by omega
  generalize q.length = n at *
  simp only [List.length_nil] at hm ⊢
  go_enter Try.func55, Try.ntmps55
  go_wp2
  go_ret
  exact HP.out
 ·rcases hf with ⟨hf0, -⟩ | ⟨bf, hfv, hbf⟩
  ·exact absurd (by rw [hf0]; rfl) hm
  ·injection hfv with q1 q2 q3
   subst q1; subst q3
   have HNE : Hid (v.ownBlock ≠ some bf) := hne bf rfl
   have HFR : Hid (ItRow w (some ⟨bf, 0, none⟩) f) := fun i hi => ⟨bf, 0, rfl, hbf.lt, fun j hj => by
    rw [hbf.cell, Nat.zero_add, List.getElem?_toArray, flatIt_get f i j hi hj]⟩
   have HBF := Lib.hid hbf
   have hmz : ((f.length : Int) == 0) = false := by rw [beq_eq_false_iff_ne]; omega
   have hmz2 : ¬ (f.length : Int) = 0 := by omega
   have HL := Lib.hid hfl
   have HM := Lib.hid hm
   clear hne hbf hm
   by_cases hn : q.length = 0
   ·have hq0 : q = [] := List.length_eq_zero_iff.1 hn
    subst hq0
    have HOWN := Lib.hid hq
    obtain ⟨a7, c7, rfl, hc7, -⟩ := hq.row
    clear hq
    have HLF : Hid (([] : List Itm).length + f.length < 1073741824) := by unfold Hid; simp; omega
    have HBB := Lib.hid hB
    simp only [List.length_nil] at hn HOWN ⊢
    go_enter Try.func55, Try.ntmps55
    go_wp2_with (at_builtin; refine wpList_append_si rfl _ _ rfl B (.slice a7 0 c7) [] rfl HOWN.out bf 0 f.length f rfl HFR.out HLF.out HBB.out ?_; intro v' w' h2 h3; have HP : Hid (NinP B (.slice a7 0 c7) f w (.returned v') w') := ⟨_, rfl, by (rw [List.nil_append] at h2; exact h2), h3⟩; clear h2 h3)
    go_ret
    exact HP.out
   ·have HOWN := Lib.hid hq
    obtain ⟨_, ⟨hv, hn0⟩ | ⟨g, cap, cur, hv, hg, hgb, hnc, hmx, hcs, htk⟩⟩ := hq
    ·exact absurd hn0 hn
    ·subst hv
     have hgb : Blk w g cur 44 := hgb
     have HGB := Lib.hid hgb
     have HG := Lib.hid hg
     have HQR := Lib.hid HOWN.out.rowAt
     have hnz : ((0 : Int) == (q.length : Int)) = false := by rw [beq_eq_false_iff_ne]; omega
     have hnz2 : ¬ (0 : Int) = (q.length : Int) := by omega
     have HGN : Hid (g ≠ bf) := fun e => HNE.out (by rw [e]; rfl)
     have HCS := Lib.hid hcs
     have HTK := Lib.hid htk
     unfold maxLen at hmx
     clear hgb hg hcs htk hn HNE
     obtain ⟨n, hqn⟩ : ∃ n, n = q.length := ⟨_, rfl⟩
     obtain ⟨m, hfm⟩ : ∃ m, m = f.length := ⟨_, rfl⟩
     rw [<- hqn] at hnc hnz hnz2 hql ⊢
     rw [<- hfm] at hmz hmz2 hfl ⊢
     have HQN := Lib.hid hqn
     have HFM := Lib.hid hfm
     have hn1 : 1 <= n := by omega
     have hm1 : 1 <= m := by omega
     clear hqn hfm
     by_cases hroom : cap < n + m
     ·have hgt : decide ((n : Int) + (m : Int) > (cap : Int)) = true := by rw [decide_eq_true_iff]; omega
      have hgt2 : (n : Int) + (m : Int) > (cap : Int) := by omega
      have hfx : ¬ 281474976710656 < Builtin.nextslicecap (n + m) cap * Try.t44.bytes := by
       have h : Builtin.nextslicecap (n + m) cap * 32 <= 281474976710656 := growslice_fits (by omega) (by omega)
       exact Nat.not_lt.2 h
      have hby : ((n : Int) + (m : Int)) * ((Try.t44.bytes : Nat) : Int) <= 281474976710656 := by
       show ((n : Int) + (m : Int)) * 32 <= _
       omega
      have hp0 : ¬ (n : Int) + (m : Int) < 0 := by omega
      obtain ⟨G, hG⟩ : ∃ G, grownCap w (n + m) cap 44 = G := ⟨_, rfl⟩
      have hGn : n + m <= G := by rw [<- hG]; exact grownCap_ge w _ _ _
      have hGx : G <= maxLen := by rw [<- hG]; exact grownCap_le_maxLen w (n + m) cap 44 (by unfold maxLen; omega)
      have hcut : (Question.appendCap (n + m) cap 44).cut (w.tape w.drawn (Question.appendCap (n + m) cap 44)) = G := hG
      have HCUT := Lib.hid hcut
      have HGX := Lib.hid hGx
      have HGN2 := Lib.hid hGn
      clear hG hcut hGx hGn
      go_enter Try.func55, Try.ntmps55
      go_upto_region 10 with (fail)
      rw [HCUT.out]
      clear HCUT hfx hby hp0
      have HRS : Hid ((Builtin.zeroCells #[.int .i64 0, .int .i64 0, .int .i64 0, .int .i64 0] (n + m) ++ Builtin.zeroCells #[.int .i64 0, .int .i64 0, .int .i64 0, .int .i64 0] (G - (n + m))).size = G * 4) := by
       unfold Hid
       rw [Array.size_append, size_zeroCells, size_zeroCells]
       have := HGN2.out
       show (n + m) * 4 + (G - (n + m)) * 4 = G * 4
       rw [Nat.sub_mul]; omega
      generalize (Builtin.zeroCells #[.int .i64 0, .int .i64 0, .int .i64 0, .int .i64 0] (n + m) ++ Builtin.zeroCells #[.int .i64 0, .int .i64 0, .int .i64 0, .int .i64 0] (G - (n + m)) : Array Value) = ROW at *
      have hb1 : Below w.heap.size w (w.alloc (.cells ROW 44)).drew := ((Below.refl w.heap.size w).alloc (Nat.le_refl _) _).drew
      have hn1b : Blk (w.alloc (.cells ROW 44)).drew w.heap.size ROW 44 := (Blk.new w ROW 44).later (Below.refl _ _).drew
      generalize (w.alloc (.cells ROW 44)).drew = w1 at *
      have hlt := HGN2.out
      have hFl : (flatIt f).length = m * 4 := by rw [flatIt_length, <- HFM.out]
      have hQl : (flatIt q).length = n * 4 := by rw [flatIt_length, <- HQN.out]
      obtain ⟨X1, X2, e1, s1, e2, s2, t2⟩ := ins_cells ROW (flatIt f) (flatIt q) (by rw [hFl, hQl, HRS.out]; omega)
      obtain ⟨w2, hc1, hb2, hg2, hz2⟩ := copy_told 26 25 Try.underlying26 w1 w.heap.size 0 (n + m) G (some ⟨bf, 0, none⟩) m f ROW 44 m hn1b (by rw [<- HFM.out]; exact Nat.min_eq_left (by omega)) (by rw [<- HFM.out, HRS.out]; omega) (HFR.out.later hb1)
      rw [<- e1] at hb2
      have hgw2 : w.grownBy w2 (some g) := grown_new ⟨hb1.os, hb1.tape, hb1.output, hb1.size, fun j hj _ => hb1.block j hj⟩ (Nat.le_refl _) hg2
      have hbel2 : Below w.heap.size w w2 := ⟨hgw2.os, hgw2.tape, hgw2.output, hgw2.size, fun j hj => (hg2.block j (Nat.lt_of_lt_of_le hj hb1.size) (by intro e; cases e; omega)).trans (hb1.block j hj)⟩
      rw [<- HFM.out] at hc1
      have HB2 := Lib.hid hb2
      have HBE2 := Lib.hid hbel2
      have HGW2 := Lib.hid hgw2
      have HE2 := Lib.hid e2
      have HT2 := Lib.hid t2
      have HS1 := Lib.hid s1
      have HS2 := Lib.hid s2
      have HFL := Lib.hid hFl
      have HQL := Lib.hid hQl
      clear hb2 hg2 hz2 hgw2 hbel2 e1 e2 t2 s1 s2 hFl hQl hb1 hn1b
      have hG1 : ¬ G = 0 := by omega
      have hG2 : ¬ G = m := by omega
      have hGz : (m : Int) <= (G : Int) := by omega
      have hnmz : (m : Int) <= (n : Int) + (m : Int) := by omega
      have hnmm : (1 : Int) <= (n : Int) := by omega
      go_upto_region 11 with (fail)
      clear hc1
      refine wp_region_stable_last (S := (BlwS w2)) (hSt := fun _ _ h hb => h.later hb) (plan := [[(9, none)], [(1, none)], [(7, none)], [(47, some 1), (48, some 2)], [(46, some 0), (49, some 3)], [(0, none)], [(1, none)], [(51, some 5), (52, some 6)]]) rfl (by kernel_rfl) (by kernel_rfl) (by kernel_rfl) (by kernel_rfl) ?hS ?_
      rotate_left
      simp only [List.dropLast]
      iterate 8 first
       | (refine chain_skip (by rfl) (by rfl) ?_)
       | (apply chain_want (by rfl)
          ·intro act wx hS hr
           simp at hr
           go_simp
           (try go_ints)
           first
            | exact Done.same
         )
      show ∀ w', _ -> _
      intro wz hz
      simp [Act.put]
      case hS => exact Below.refl _ _
      have hwz : w.grownBy wz (some g) := grown_below HGW2.out hz
      have HGWZ := Lib.hid hwz
      have HBZ := Lib.hid (HB2.out.later hz)
      have HQZ := Lib.hid (HQR.out.later (HBE2.out.trans (Below.mono hz HBE2.out.size)))
      have hnm0 : n + m - m = n := by omega
      refine wp_copy_itG (.tmp 50) (.tmp 53) 26 26 Try.underlying26 rfl w.heap.size (m * 4) (n + m - m) (G - m) (some ⟨g, 0, none⟩) n cap q X1 44 (by simp [Act.eval]) (by simp [Act.eval]) HBZ.out (by rw [hnm0, <- HQN.out]; exact Nat.min_self _) (by rw [HS1.out, HRS.out, <- HQN.out]; omega) HQZ.out ?_
      intro v3 w3 hb3 hg3 hz3
      have hx2 : (X1.toList.take (m * 4) ++ flatIt q ++ X1.toList.drop (m * 4 + (flatIt q).length)).toArray = X2 := by
       rw [HE2.out, HFL.out]
      rw [hx2] at hb3
      have ht2 := HT2.out
      rw [<- flatIt_append] at ht2
      have HP : Hid (NinP B (.slice (some ⟨g, 0, none⟩) n cap) (f ++ q) w (.returned (.slice (some ⟨w.heap.size, 0, none⟩) (n + m) G)) w3) := by
       have hl : (f ++ q).length = n + m := by rw [List.length_append, <- HFM.out, <- HQN.out]; omega
       have ho := own_made (l := f ++ q) (B := B) hB hb3 (by rw [hl]; exact HGN2.out) HGX.out (by rw [HS2.out, HRS.out]) (by rw [<- ht2, HFL.out, HQL.out, hl]; congr 1; omega)
       rw [hl] at ho
       exact ⟨_, rfl, ho, grown_new HGWZ.out (Nat.le_refl _) hg3⟩
      clear hb3 hg3 hz3 hx2 ht2 hwz
      go_wp2
      go_ret
      exact HP.out
     ·have hgt : decide ((n : Int) + (m : Int) > (cap : Int)) = false := by rw [decide_eq_false_iff_not]; omega
      have hgt2 : ¬ (n : Int) + (m : Int) > (cap : Int) := by omega
      have hFl : (flatIt f).length = m * 4 := by rw [flatIt_length, <- HFM.out]
      have hQl : (flatIt q).length = n * 4 := by rw [flatIt_length, <- HQN.out]
      obtain ⟨X1, X2, e1, s1, e2, s2, t2⟩ := ins_cells2 cur (flatIt f) (flatIt q) (by rw [hFl, hQl, HCS.out]; omega)
      have HE1 := Lib.hid e1
      have HE2 := Lib.hid e2
      have HT2 := Lib.hid t2
      have HS1 := Lib.hid s1
      have HS2 := Lib.hid s2
      have HFL := Lib.hid hFl
      have HQL := Lib.hid hQl
      have HMX : Hid (cap <= maxLen) := by unfold Hid maxLen; exact hmx
      have hov : ∀ lb cb, (callFunc 75 #[.slice (some ⟨bf, 0, none⟩) m m, .slice (some ⟨g, m * 4, none⟩) lb cb]).run Try.prog w = .ok (.value (.bool false)) w := fun lb cb => by
       rw [run_callFunc_extern Try.func75 (by kernel_rfl) (by kernel_rfl) (by kernel_rfl) (e := Extern.SlicesOverlaps.overlaps #[25, 25] #[4]) (by kernel_rfl), Lib.run_overlaps_apart w 25 4 44 Try.underlying25 4 (fun w => Try.sizeOf44 w) ⟨bf, 0, none⟩ ⟨g, m * 4, none⟩ m m lb cb (fun e => HGN.out e.symm) 44 44 _ _ (own_shape HBF.out) (own_shape HGB.out) (by rw [HCS.out]; omega) (HBF.out.frozen 0) (HBF.out.frozen _)]
       rfl
      clear e1 e2 t2 s1 s2 hFl hQl
      have hcm : ¬ cap = m := by omega
      have hc0 : ¬ cap = 0 := by omega
      have hnmc : (n : Int) + (m : Int) <= (cap : Int) := by omega
      have hnmz : (m : Int) <= (n : Int) + (m : Int) := by omega
      have hmp : (0 : Int) <= (n : Int) + (m : Int) := by omega
      go_enter Try.func55, Try.ntmps55
      go_upto_region 15 with (simp only [hov])
      refine wp_region_stable_last (S := (BlwS w)) (hSt := fun _ _ h hb => h.later hb) (plan := [[(0, none)], [(1, none)], [(7, none)], [(70, some 1), (71, some 2)], [(69, some 0), (72, some 3)], [(0, none)], [(1, none)], [(74, some 5), (75, some 6)]]) rfl (by kernel_rfl) (by kernel_rfl) (by kernel_rfl) (by kernel_rfl) ?hS ?_
      rotate_left
      simp only [List.dropLast]
      iterate 8 first
       | (refine chain_skip (by rfl) (by rfl) ?_)
       | (apply chain_want (by rfl)
          ·intro act wx hS hr
           simp at hr
           go_simp
           (try go_ints)
           first
            | exact Done.same
         )
      show ∀ w', _ -> _
      intro wz hz
      simp [Act.put]
      case hS => exact Below.refl _ _
      have hGZ := HGB.out.later hz
      have hFZ := HBF.out.later hz
      have hQZ : ItRow wz (some ⟨g, 0, none⟩) q := HQR.out.later hz
      have HZ : Hid (w.grownBy wz (some g)) := ⟨hz.os, hz.tape, hz.output, hz.size, fun j hj _ => hz.block j hj⟩
      have hnm0 : n + m - m = n := by omega
      refine wp_copy_itG (.tmp 73) (.tmp 76) 26 26 Try.underlying26 rfl g (m * 4) (n + m - m) (cap - m) (some ⟨g, 0, none⟩) (n + m) cap q cur 44 (by simp [Act.eval]) (by simp [Act.eval]) hGZ (by rw [hnm0, <- HQN.out]; exact Nat.min_eq_right (by omega)) (by rw [HCS.out, <- HQN.out]; omega) hQZ ?_
      intro v3 w3 hb3 hg3 hz3
      have hx1 : (cur.toList.take (m * 4) ++ flatIt q ++ cur.toList.drop (m * 4 + (flatIt q).length)).toArray = X1 := by
       rw [HE1.out, HFL.out]
      rw [hx1] at hb3
      have hf3 : Blk w3 bf (flatIt f).toArray 44 := (hg3.block bf hFZ.lt (fun e => HGN.out (Option.some.inj e).symm)).trans hFZ
      obtain ⟨w4, hc4, hb4, hg4, hz4⟩ := copy_told 26 25 Try.underlying26 w3 g 0 (n + m) cap (some ⟨bf, 0, none⟩) m f X1 44 m hb3 (by rw [<- HFM.out]; exact Nat.min_eq_left (by omega)) (by rw [<- HFM.out, HS1.out, HCS.out]; omega) (fr_row hf3)
      rw [<- HFM.out] at hc4
      have hx2 : (X1.toList.take 0 ++ flatIt f ++ X1.toList.drop (0 + (flatIt f).length)).toArray = X2 := HE2.out.symm
      rw [hx2] at hb4
      have ht2 := HT2.out
      rw [<- flatIt_append] at ht2
      have HP : Hid (NinP B (.slice (some ⟨g, 0, none⟩) n cap) (f ++ q) w (.returned (.slice (some ⟨g, 0, none⟩) (n + m) cap)) w4) := by
       have hl : (f ++ q).length = n + m := by rw [List.length_append, <- HFM.out, <- HQN.out]; omega
       have ho := own_made (l := f ++ q) (B := B) (G := cap) HG.out hb4 (by rw [hl]; omega) HMX.out (by rw [HS2.out, HCS.out]) (by rw [<- ht2, HFL.out, HQL.out, hl]; congr 1; omega)
       rw [hl] at ho
       exact ⟨_, rfl, ho, grown_trans HZ.out (grown_trans hg3 hg4)⟩
      clear hb3 hg3 hz3 hx1 hx2 ht2 hf3 hb4 hg4 hz4 hGZ hFZ hQZ hz
      go_wp2
      go_ret
      exact HP.out
theorem run_lookup_rd (w : World) (m : Nat) (l : List (Int × Value)) (k : Int) (hm : IsMapK w m l) :
 (Instr.lookup 66 (.map (some m)) (.int .i64 k) true).run Try.prog w = .ok (match findEK l k 0 with | some (_, v) => .tuple #[v, .bool true] | none => .tuple #[.nilFunc, .bool false]) w := by
 unfold IsMapK at hm
 have hf := findNow_mapEsK k l 0
 have hz := Try.zeroValue90
 simp only [Instr.lookup, Sem.run_bind, run_underlying Try.underlying66, Result.andThen, getObj, Sem.run, hm, keysK_free, Instr.findKey, run_underlying Try.underlying3, hf]
 rw [show (Sem.run Try.prog (pure (mapEsK l 0).toArray) w) = .ok (mapEsK l 0).toArray w from rfl]
 simp only [hf]
 cases h : findEK l k 0 with
 | none => simp [Sem.run_bind, hz, Result.andThen]
 | some p => obtain ⟨i, v⟩ := p; rfl
theorem run_update_rd (w : World) (m : Nat) (l : List (Int × Value)) (k : Int) (v : Value) (hm : IsMapK w m l) (hk : findEK l k 0 = none) :
 (Instr.mapUpdate 66 (.map (some m)) (.int .i64 k) v).run Try.prog w = .ok () (putMapK w m (l ++ [(k, v)])) := by
 have hlt := hm.lt
 unfold IsMapK at hm
 have hf := findNow_mapEsK k l 0
 rw [hk] at hf
 simp only [Instr.mapUpdate, Sem.run_bind, run_underlying Try.underlying66, Result.andThen, getObj, Sem.run, hm, keysK_free, Instr.findKey, run_underlying Try.underlying3, hf]
 simp only [setObj, Sem.run, hm]
 unfold putMapK
 rw [mapEsK_append]
 simp [Sem.run, hm]
theorem run_makeMap_rd (w : World) : (Instr.makeMap 66 none).run Try.prog w = .ok (.map (some w.heap.size)) (w.alloc (.map #[] 0)) := by
 simp [Instr.makeMap, Sem.run_bind, newObj, Sem.run, Result.andThen]
def fWh : Value := .func (.func 51) #[] #[]
def fTx : Value := .func (.func 52) #[] #[]
def fHa : Value := .func (.func 53) #[] #[]
def rdL : List (Int × Value) := [(1, fWh), (3, fTx), (4, fHa)]
structure NrkS (w0 : World) (m : Nat) (l : List (Int × Value)) (w : World) : Prop where
 bel : Below w0.heap.size w0 w
 map : IsMapK w m l
 low : w0.heap.size <= m
theorem NrkS.put {w0 w : World} {m : Nat} {l : List (Int × Value)} (h : NrkS w0 m l w) (l' : List (Int × Value)) : NrkS w0 m l' (putMapK w m l') :=
 ⟨putMapK_below h.bel h.low l', putMapK_is h.map.lt l', h.low⟩
theorem nxTable_any (w : World) : Calls Try.prog 33 #[] w (fun e w' => ∃ m, e = .returned (.map (some m)) /\ IsMapK w' m rdL /\ Below w.heap.size w w') := by
 have hmk := run_makeMap_rd w
 have HS0 : Hid (NrkS w w.heap.size [] (w.alloc (.map #[] 0))) := ⟨(Below.refl _ _).alloc (Nat.le_refl _) _, by unfold IsMapK mapEsK; show (w.heap.push _)[w.heap.size]? = _; simp, Nat.le_refl _⟩
 obtain ⟨u1, hu1⟩ : ∃ u, u = putMapK (w.alloc (.map #[] 0)) w.heap.size [(1, fWh)] := ⟨_, rfl⟩
 have hx1 : (Instr.mapUpdate 66 (.map (some w.heap.size)) (.int .i64 1) fWh).run Try.prog (w.alloc (.map #[] 0)) = .ok () u1 := by
  rw [hu1]; exact run_update_rd (w.alloc (.map #[] 0)) w.heap.size [] 1 fWh HS0.out.map rfl
 have HS1 : Hid (NrkS w w.heap.size [(1, fWh)] u1) := by rw [hu1]; exact HS0.out.put _
 clear hu1
 obtain ⟨u2, hu2⟩ : ∃ u, u = putMapK u1 w.heap.size [(1, fWh), (3, fTx)] := ⟨_, rfl⟩
 have hx2 : (Instr.mapUpdate 66 (.map (some w.heap.size)) (.int .i64 3) fTx).run Try.prog u1 = .ok () u2 := by
  rw [hu2]; exact run_update_rd u1 w.heap.size [(1, fWh)] 3 fTx HS1.out.map rfl
 have HS2 : Hid (NrkS w w.heap.size [(1, fWh), (3, fTx)] u2) := by rw [hu2]; exact HS1.out.put _
 clear hu2
 obtain ⟨u3, hu3⟩ : ∃ u, u = putMapK u2 w.heap.size rdL := ⟨_, rfl⟩
 have hx3 : (Instr.mapUpdate 66 (.map (some w.heap.size)) (.int .i64 4) fHa).run Try.prog u2 = .ok () u3 := by
  rw [hu3]; exact run_update_rd u2 w.heap.size [(1, fWh), (3, fTx)] 4 fHa HS2.out.map rfl
 have HS3 : Hid (NrkS w w.heap.size rdL u3) := by rw [hu3]; exact HS2.out.put _
 clear hu3 HS0 HS1 HS2
 unfold fWh at hx1
 unfold fTx at hx2
 unfold fHa at hx3
 go_enter Try.func33, Try.ntmps33
 go_wp2
 go_ret
 exact ⟨_, rfl, HS3.out.map, HS3.out.bel⟩
theorem rd_at {l : List Nd} {x : Itm} (h0 : 0 < l.length) (hx : HdF l x) (hrd : rdyS l [x] = true) (htx : Txt l) (c : UInt8) : ∃ fK, (∀ m w, IsMapK w m rdL -> (Instr.lookup 66 (.map (some m)) (.int .i64 x.kind) true).run Try.prog w = .ok (.tuple #[.func (.func fK) #[] #[], .bool true]) w) /\
 (∀ args w, (callFunc fK args).run Try.prog w = .ok (.enter fK args) w) /\ ∀ w, Calls Try.prog fK #[.agg (rdC x (atN l x.node.toNat) c)] w (RdfP (frS l x c) w) := by
 obtain ⟨i, hil, hin⟩ := hx.inl h0
 have hti : (atN l x.node.toNat).text.length <= 281474976710656 := htx _ (by
  rw [hin, Int.toNat_natCast]
  unfold atN; rw [List.getD_eq_getElem?_getD, List.getElem?_eq_getElem hil]; exact List.getElem_mem _)
 have hlk : ∀ m w, IsMapK w m rdL -> (Instr.lookup 66 (.map (some m)) (.int .i64 x.kind) true).run Try.prog w = .ok (match findEK rdL x.kind 0 with | some (_, v) => .tuple #[v, .bool true] | none => .tuple #[.nilFunc, .bool false]) w := fun m w h => run_lookup_rd w m rdL x.kind h
 have hkd := hx.kind
 by_cases h1 : x.kind = 1
 ·refine ⟨51, fun m w h => ?_, enters_of Try.func51 (by kernel_rfl) rfl, fun w => ?_⟩
  ·rw [hlk m w h, h1]; rfl
  ·have hk : (atN l x.node.toNat).kind = 2 \/ (atN l x.node.toNat).kind = 8 \/ (atN l x.node.toNat).kind = 9 := by
    unfold rdyS at hrd
    simp only [h1] at hrd
    simpa [or_assoc] using hrd
   have := nxWhole_any x (atN l x.node.toNat) c hk w
   have e : frS l x c = whF (atN l x.node.toNat) x c := by
    unfold frS whF
    simp only [show ¬ x.kind = 3 by omega, show ¬ x.kind = 4 by omega, if_false]
   rw [e]; exact this
 ·by_cases h3 : x.kind = 3
  ·obtain ⟨q1, q2, q3, q4⟩ := hx.three h3
   refine ⟨52, fun m w h => ?_, enters_of Try.func52 (by kernel_rfl) rfl, fun w => ?_⟩
   ·rw [hlk m w h, h3]; rfl
   ·have := nxText_any x (atN l x.node.toNat) c (by omega) (by omega) hti w
    have e : frS l x c = txF (atN l x.node.toNat) x c := by
     unfold frS txF
     simp only [h3, if_true, q2]
    rw [e]; exact this
  ·have h4 : x.kind = 4 := by
    by_cases h2 : x.kind = 2
    ·exfalso
     unfold rdyS at hrd
     simp only [h2] at hrd
     simp at hrd
    ·by_cases h5 : x.kind = 5
     ·exfalso
      unfold rdyS at hrd
      simp only [h5] at hrd
      simp at hrd
     ·omega
   obtain ⟨q1, q2, q3, q4⟩ := hx.four h4
   refine ⟨53, fun m w h => ?_, enters_of Try.func53 (by kernel_rfl) rfl, fun w => ?_⟩
   ·rw [hlk m w h, h4]; rfl
   ·have := nxHalf_any x (atN l x.node.toNat) c (by omega) (by omega) w
    have e : frS l x c = some [⟨1, (atN l x.node.toNat).a, 0, 0⟩, ⟨5, 0, 256 * x.lo + (c.toNat : Int), 0⟩] := by
     unfold frS
     simp only [h3, h4, if_true, if_false, show ¬ (4 : Int) = 3 by decide]
    rw [e]; exact this
end Go.Proofs.Ytidoofdofdhjpaa
