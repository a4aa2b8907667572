/- Passing items one by one: the plain mathematics. -/
import Derived.Test.YtidoofdofdhjpaaM21
import Derived.Test.YtidoofdofdhjpaaM18
import Derived.Test.YtidoofdofdhjpaaM08
import Derived.Test.YtidoofdofdhjpaaM17
import Derived.Test.YtidoofdofdhjpaaM04
import Derived.WalkKit
import Derived.Carry
import Derived.Below
import Derived.Shelf.SlSortCmp.WholeK
namespace Go.Proofs.Ytidoofdofdhjpaa
open Go
set_option linter.unusedVariables false
set_option linter.unusedSimpArgs false

/-- What stands ahead, and behind it what isn't read yet. -/
def appR (l : List Nd) (A t : List Itm) : List (List Itm) := if t = [] then rchS l A else [t ++ A]
theorem rdy_app (l : List Nd) (x : Itm) (r A : List Itm) : rdyS l (x :: (r ++ A)) = rdyS l (x :: r) := rfl
theorem opn_app (l : List Nd) (x : Itm) (r A : List Itm) : opnS l x (r ++ A) = (opnS l x r).map (· ++ A) := by
  unfold opnS
  simp only
  repeat' split
  all_goals simp
theorem hd_app {l : List Nd} {s A : List Itm} (hs : ∀ y ∈ s, HdF l y) (hA : ∀ y ∈ A, HdF l y) : ∀ y ∈ s ++ A, HdF l y := fun y hy => by
  rcases List.mem_append.1 hy with h | h
  · exact hs y h
  · exact hA y h
theorem flatMap_map' {α β γ : Type} (L : List α) (f : α → β) (g : β → List γ) : (L.map f).flatMap g = L.flatMap fun a => g (f a) := by
  induction L with
  | nil => rfl
  | cons a t ih => rw [List.map_cons, List.flatMap_cons, List.flatMap_cons, ih]
theorem rch_app {l : List Nd} (hR : Rgt l) {A : List Itm} (hA : ∀ y ∈ A, HdF l y) : ∀ (n : Nat) (s : List Itm), dpS l s ≤ n → (∀ y ∈ s, HdF l y) → rchS l (s ++ A) = (rchS l s).flatMap (appR l A) := fun n => by
  induction n with
  | zero =>
    intro s hn hs
    cases s with
    | nil => rw [rch_ready (l := l) (s := []) rfl, List.flatMap_singleton]; unfold appR; rw [if_pos rfl]; rfl
    | cons x r =>
      cases hd : rdyS l (x :: r) with
      | true =>
        rw [rch_ready hd, List.flatMap_singleton, List.cons_append, rch_ready (by rw [rdy_app]; exact hd)]
        unfold appR; rw [if_neg (by simp)]; rfl
      | false =>
        have h0 : opnS l x r = [] := List.eq_nil_iff_forall_not_mem.2 fun t ht => by
          have := opn_lt hR (hs x (List.mem_cons_self ..)) hd ht
          omega
        rw [rch_open hR hs hd, List.cons_append, rch_open hR (by rw [← List.cons_append]; exact hd_app hs hA) (by rw [rdy_app]; exact hd), opn_app, h0]
        rfl
  | succ n ih =>
    intro s hn hs
    cases s with
    | nil => rw [rch_ready (l := l) (s := []) rfl, List.flatMap_singleton]; unfold appR; rw [if_pos rfl]; rfl
    | cons x r =>
      cases hd : rdyS l (x :: r) with
      | true =>
        rw [rch_ready hd, List.flatMap_singleton, List.cons_append, rch_ready (by rw [rdy_app]; exact hd)]
        unfold appR; rw [if_neg (by simp)]; rfl
      | false =>
        have hx := hs x (List.mem_cons_self ..)
        have hr : ∀ y ∈ r, HdF l y := fun y hy => hs y (List.mem_cons_of_mem _ hy)
        rw [rch_open hR hs hd, List.cons_append, rch_open hR (by rw [← List.cons_append]; exact hd_app hs hA) (by rw [rdy_app]; exact hd), opn_app, flatMap_map', List.flatMap_assoc]
        refine flatMap_congr_mem fun t ht => ?_
        have hlt := opn_lt hR hx hd ht
        exact ih t (by omega) (opn_form hR.1 hx hr ht)
/-- How often something is reached that isn't nothing; how often nothing. -/
def hitF (R : List (List Itm)) (A t : List Itm) : Nat := ((R.filter fun u => decide (u ≠ [])).map (· ++ A)).count t
def nilF (R : List (List Itm)) : Nat := R.count []
theorem hit_nil (A t : List Itm) : hitF [] A t = 0 := rfl
theorem hit_app (R S : List (List Itm)) (A t : List Itm) : hitF (R ++ S) A t = hitF R A t + hitF S A t := by
  unfold hitF; rw [List.filter_append, List.map_append, List.count_append]
theorem nil_app (R S : List (List Itm)) : nilF (R ++ S) = nilF R + nilF S := by unfold nilF; rw [List.count_append]
theorem hit_cons (u : List Itm) (R : List (List Itm)) (A t : List Itm) : hitF (u :: R) A t = hitF [u] A t + hitF R A t := hit_app [u] R A t
theorem nil_cons (u : List Itm) (R : List (List Itm)) : nilF (u :: R) = nilF [u] + nilF R := nil_app [u] R
theorem hit_one (u A t : List Itm) : hitF [u] A t = if u = [] then 0 else if u ++ A = t then 1 else 0 := by
  unfold hitF
  by_cases h : u = []
  · simp [h]
  · simp [h, List.count_singleton]
theorem nil_one (u : List Itm) : nilF [u] = if u = [] then 1 else 0 := by
  unfold nilF; rw [List.count_singleton]
  by_cases h : u = [] <;> simp [h]
/-- One item, and then the others. -/
theorem hit_step {l : List Nd} (hR : Rgt l) {x : Itm} {r : List Itm} (hx : HdF l x) (hr : ∀ y ∈ r, HdF l y) (A t : List Itm) :
    hitF (rchS l (x :: r)) A t = hitF (rchS l [x]) (r ++ A) t + nilF (rchS l [x]) * hitF (rchS l r) A t ∧ nilF (rchS l (x :: r)) = nilF (rchS l [x]) * nilF (rchS l r) := by
  have e := rch_app hR (A := r) hr _ [x] (Nat.le_refl _) (fun y hy => by rw [List.mem_singleton.1 hy]; exact hx)
  rw [List.singleton_append] at e
  rw [e]
  generalize rchS l [x] = R
  induction R with
  | nil => simp [hit_nil, nilF]
  | cons u R ih =>
    rw [List.flatMap_cons, hit_app, nil_app, ih.1, ih.2, hit_cons u R, nil_cons u R, hit_one, nil_one]
    unfold appR
    by_cases h : u = []
    · rw [if_pos h, if_pos h, if_pos h, Nat.add_mul, Nat.add_mul, Nat.one_mul, Nat.one_mul]
      omega
    · have hne : u ++ r ≠ [] := by simp [h]
      rw [if_neg h, if_neg h, if_neg h, hit_one, nil_one, if_neg hne, if_neg hne, List.append_assoc]
      simp only [Nat.zero_add]
      exact ⟨by omega, trivial⟩
theorem hit_end {l : List Nd} (A t : List Itm) : hitF (rchS l []) A t = 0 ∧ nilF (rchS l []) = 1 := by
  rw [rch_ready (l := l) (s := []) rfl]
  exact ⟨by rw [hit_one, if_pos rfl], rfl⟩
theorem hit_ready {l : List Nd} {x : Itm} (h : rdyS l [x] = true) (A t : List Itm) : hitF (rchS l [x]) A t = (if x :: A = t then 1 else 0) ∧ nilF (rchS l [x]) = 0 := by
  have hne : [x] ≠ [] := by simp
  rw [rch_ready h, hit_one, nil_one, if_neg hne, if_neg hne]
  exact ⟨rfl, rfl⟩
theorem hit_all (R : List (List Itm)) (t : List Itm) : hitF R [] t + (if t = [] then nilF R else 0) = R.count t := by
  induction R with
  | nil => simp [hit_nil, nilF]
  | cons u R ih =>
    rw [hit_cons, nil_cons, hit_one, nil_one, List.count_cons, ← ih, List.append_nil]
    have hb : ((u == t) = true) = (u = t) := by simp
    simp only [hb]
    by_cases h : u = [] <;> by_cases ht : t = []
    · subst h; subst ht; simp; omega
    · subst h; rw [if_pos rfl, if_pos rfl, if_neg ht, if_neg ht, if_neg (fun e => ht e.symm)]; omega
    · subst ht; simp [h]
    · rw [if_neg h, if_neg h, if_neg ht, if_neg ht]; omega
/-- What saturates at two. -/
theorem hsat_mul (p q b : Nat) : min 2 (min 2 p + min 2 q * b) = min 2 (p + q * b) := by
  rcases Nat.eq_zero_or_pos b with rfl | hb
  · simp
  · by_cases hq : q ≤ 2
    · rw [Nat.min_eq_right hq]
      by_cases hp : p ≤ 2
      · rw [Nat.min_eq_right hp]
      · rw [Nat.min_eq_left (by omega : 2 ≤ p)]; omega
    · rw [Nat.min_eq_left (by omega : 2 ≤ q)]
      have h1 : q * b ≥ 2 * b := Nat.mul_le_mul_right b (by omega)
      omega
theorem sat_one (q b : Nat) : min 2 (min 2 q * b) = min 2 (q * b) := by have := hsat_mul 0 q b; simpa using this
/-- A round: one item is passed; what is left to be counted stays. -/
theorem pass_round {l : List Nd} (hR : Rgt l) {x : Itm} {r : List Itm} (hx : HdF l x) (hr : ∀ y ∈ r, HdF l y) (A t : List Itm) {h w : Nat} :
    min 2 (min 2 (h + w * hitF (rchS l [x]) (r ++ A) t) + min 2 (w * nilF (rchS l [x])) * hitF (rchS l r) A t) = min 2 (h + w * hitF (rchS l (x :: r)) A t)
    ∧ min 2 (min 2 (w * nilF (rchS l [x])) * nilF (rchS l r)) = min 2 (w * nilF (rchS l (x :: r))) := by
  obtain ⟨h1, h2⟩ := hit_step hR hx hr A t
  rw [hsat_mul, sat_one, h1, h2, Nat.mul_add, ← Nat.mul_assoc, ← Nat.mul_assoc, Nat.add_assoc]
  exact ⟨rfl, rfl⟩
/-- The rows that an item opens to. -/
def rwI (l : List Nd) (x : Itm) : List (List Itm) := opnS l x []
theorem rch_one {l : List Nd} (hR : Rgt l) {x : Itm} (hx : HdF l x) (h : rdyS l [x] = false) : rchS l [x] = (rwI l x).flatMap (rchS l) :=
  rch_open hR (fun y hy => by rw [List.mem_singleton.1 hy]; exact hx) h
theorem rw_form {l : List Nd} (hF : Form l) {x : Itm} (hx : HdF l x) {t : List Itm} (ht : t ∈ rwI l x) : ∀ y ∈ t, HdF l y := opn_form hF hx (fun y hy => by cases hy) ht
theorem hit_flat {l : List Nd} (u : List Itm) (T : List (List Itm)) (A t : List Itm) : hitF ((u :: T).flatMap (rchS l)) A t = hitF (rchS l u) A t + hitF (T.flatMap (rchS l)) A t ∧ nilF ((u :: T).flatMap (rchS l)) = nilF (rchS l u) + nilF (T.flatMap (rchS l)) := by
  rw [List.flatMap_cons, hit_app, nil_app]; exact ⟨rfl, rfl⟩
theorem row_round {l : List Nd} (u : List Itm) (T : List (List Itm)) (A t : List Itm) {h w p : Nat} :
    min 2 (min 2 (h + w * hitF (rchS l u) A t) + w * hitF (T.flatMap (rchS l)) A t) = min 2 (h + w * hitF ((u :: T).flatMap (rchS l)) A t)
    ∧ min 2 ((p + min 2 (w * nilF (rchS l u))) + w * nilF (T.flatMap (rchS l))) = min 2 (p + w * nilF ((u :: T).flatMap (rchS l))) := by
  obtain ⟨h1, h2⟩ := hit_flat (l := l) u T A t
  rw [h1, h2, Nat.mul_add, Nat.mul_add]
  constructor <;> omega
theorem rw_len (l : List Nd) (x : Itm) : (rwI l x).length ≤ 2 ∧ ∀ t ∈ rwI l x, t.length ≤ 2 := by
  unfold rwI opnS
  simp only
  repeat' split
  all_goals simp
/-- Nothing is reached of an item just if it may be nothing. -/
theorem nu_nil {l : List Nd} (hR : Rgt l) {x : Itm} (hx : HdF l x) (h : nilF (rchS l [x]) ≠ 0) : nuI l x = true := by
  have h1 := rch_nothing hR _ [x] (Nat.le_refl _) (fun y hy => by rw [List.mem_singleton.1 hy]; exact hx)
  have h2 : wyS l [x] = min 2 (wyI l x * 1) := rfl
  unfold nilF at h
  have h3 : wyI l x ≠ 0 := by rw [h2] at h1; intro e; rw [e] at h1; omega
  unfold wyI at h3
  unfold nuI
  by_cases k1 : x.kind = 1
  · rw [if_pos k1] at h3 ⊢; simpa using h3
  · rw [if_neg k1] at h3 ⊢
    by_cases k2 : x.kind = 2 ∨ x.kind = 5
    · rw [if_pos k2] at h3 ⊢
      by_cases h0 : x.lo = 0
      · simp [h0]
      · rw [if_neg h0] at h3; omega
    · rw [if_neg k2] at h3; omega
/-- How long the rows may be opened, together. -/
def dpR (l : List Nd) (T : List (List Itm)) : Nat := (T.map (dpS l)).sum
theorem dpR_cons (l : List Nd) (u : List Itm) (T : List (List Itm)) : dpR l (u :: T) = dpS l u + dpR l T := by unfold dpR; rw [List.map_cons, List.sum_cons]
/-- The cost of an item: one more than what it opens to takes. -/
theorem opn_sum {l : List Nd} (hR : Rgt l) {x : Itm} (hx : HdF l x) (hrd : rdyS l [x] = false) : 1 + dpR l (rwI l x) ≤ csI l x := by
  obtain ⟨k, nd, lo, hi⟩ := x
  have hkd := hx.kind
  simp only at hkd
  have d0 : dpS l [] = 0 := rfl
  have dn : ∀ a : Int, dpS l [⟨1, a, 0, 0⟩] = 2 * hsz l a.toNat := fun a => by rw [dp_node, d0]; split <;> rfl
  unfold rwI opnS
  simp only
  by_cases k5 : k = 5
  · rw [if_pos k5]
    subst k5
    have hc : csI l ⟨5, nd, lo, hi⟩ = 1 := by unfold csI; simp
    rw [hc]
    split <;> simp [dpR, d0]
  · rw [if_neg k5]
    obtain ⟨n0, n1⟩ := hx.node k5
    simp only at n0 n1
    obtain ⟨i, rfl⟩ : ∃ i : Nat, nd = (i : Int) := ⟨nd.toNat, by omega⟩
    rw [Int.toNat_natCast]
    have hil : i < l.length := by omega
    by_cases k2 : k = 2
    · rw [if_pos k2]
      subst k2
      obtain ⟨t7, -, -, -⟩ := hx.two rfl
      simp only [Int.toNat_natCast] at t7
      obtain ⟨m0, m1, m2, m3⟩ := hd_never hR hil (.inr t7)
      have hp := hsz_pos l (atN l i).a.toNat
      have hc : csI l ⟨2, (i : Int), lo, hi⟩ = 2 * hsz l i - 1 := by unfold csI; simp
      have ha : dpS l [⟨1, (atN l i).a, 0, 0⟩, ⟨2, (i : Int), max 0 (lo - 1), hi - 1⟩] = 2 * hsz l (atN l i).a.toNat := by rw [dp_node, if_neg (by omega), Nat.add_zero]
      rw [hc]
      by_cases h0 : lo = 0 <;> by_cases h1 : 0 < hi
      · rw [if_pos h0, if_pos h1]; simp only [dpR, List.map_append, List.map_cons, List.map_nil, List.sum_append, List.sum_cons, List.sum_nil, d0, ha]; omega
      · rw [if_pos h0, if_neg h1]; simp only [dpR, List.map_append, List.map_cons, List.map_nil, List.sum_append, List.sum_cons, List.sum_nil, d0]; omega
      · rw [if_neg h0, if_pos h1]; simp only [dpR, List.map_append, List.map_cons, List.map_nil, List.sum_append, List.sum_cons, List.sum_nil, ha]; omega
      · rw [if_neg h0, if_neg h1]; simp only [dpR, List.map_append, List.map_cons, List.map_nil, List.sum_append, List.sum_cons, List.sum_nil]; omega
    · rw [if_neg k2]
      by_cases k1 : k = 1
      · subst k1
        obtain ⟨l0, l1⟩ := hx.one rfl
        simp only at l0 l1
        subst l0; subst l1
        have hc : csI l ⟨1, (i : Int), 0, 0⟩ = 2 * hsz l i := by unfold csI; simp
        rw [hc]
        have hp := hsz_pos l i
        cases hcs : hd_cs hR.1 hil with
        | leaf h1 hf =>
          unfold leafK at h1
          by_cases a1 : (atN l i).kind = 1
          · rw [if_pos a1]; simp [dpR, d0]; omega
          · rw [if_neg a1]
            by_cases a3 : (atN l i).kind = 3
            · rw [if_pos a3]; simp [dpR, dp_text]; omega
            · rw [if_neg a3, if_neg (by omega), if_neg (by omega), if_neg (by omega), if_neg (by omega)]; simp [dpR]; omega
        | one h1 hi0 ha hb h7 hr hcl hf =>
          rw [if_neg (by omega), if_neg (by omega), if_neg (by omega), if_neg (by omega)]
          by_cases a6 : (atN l i).kind = 6
          · rw [if_pos a6]
            obtain ⟨m0, m1, m2, m3⟩ := hd_never hR hil (.inl a6)
            have ha : dpS l [⟨1, (atN l i).a, 0, 0⟩, ⟨1, (i : Int), 0, 0⟩] = 2 * hsz l (atN l i).a.toNat := by rw [dp_node, if_neg (by omega), Nat.add_zero]
            simp only [dpR, List.map_cons, List.map_nil, List.sum_cons, List.sum_nil, d0, ha]; omega
          · rw [if_neg a6]
            by_cases a7 : (atN l i).kind = 7
            · rw [if_pos a7]
              have ha : dpS l [⟨2, (i : Int), (atN l i).lo, (atN l i).hi⟩] = 2 * hsz l i - 1 := by rw [dp_times, d0, Int.toNat_natCast]; split <;> rfl
              simp only [dpR, List.map_cons, List.map_nil, List.sum_cons, List.sum_nil, ha]; omega
            · rw [if_neg a7]; simp [dpR]; omega
        | two h1 hi0 hb ha hf0 hl hcl hf =>
          obtain ⟨p, hp2⟩ : ∃ p : Nat, (atN l i).a = (p : Int) := ⟨(atN l i).a.toNat, by omega⟩
          have hfl := firstP_le l (i - 1)
          have hfp : firstP l i = firstP l p := by rw [hf]; congr 1; omega
          have hfq := firstP_le l p
          have hszi : hsz l i = hsz l p + hsz l (i - 1) + 1 := by unfold hsz; omega
          have hbn : (atN l i).b.toNat = i - 1 := by omega
          have ean : (atN l i).a.toNat = p := by omega
          rw [if_neg (by omega), if_neg (by omega)]
          rcases h1 with a4 | a5
          · rw [if_pos a4]
            have ha : dpS l [⟨1, (atN l i).a, 0, 0⟩, ⟨1, (atN l i).b, 0, 0⟩] ≤ 2 * hsz l p + 2 * hsz l (i - 1) := by
              rw [dp_node, dn, hbn, ean]; split <;> omega
            simp only [dpR, List.map_cons, List.map_nil, List.sum_cons, List.sum_nil]; omega
          · rw [if_neg (by omega), if_pos a5]
            simp only [dpR, List.map_cons, List.map_nil, List.sum_cons, List.sum_nil, dn, hbn, ean]; omega
      · exfalso
        unfold rdyS at hrd
        simp only [Bool.or_eq_false_iff, decide_eq_false_iff_not] at hrd
        omega
theorem cs_le {l : List Nd} (h0 : 0 < l.length) {x : Itm} (hx : HdF l x) : csI l x ≤ 2 * l.length := by
  unfold csI
  by_cases k5 : x.kind = 5
  · rw [if_neg (by omega), if_neg (by omega), if_pos k5]; omega
  · obtain ⟨n0, n1⟩ := hx.node k5
    have : hsz l x.node.toNat ≤ l.length := by unfold hsz; omega
    repeat' split
    all_goals omega
end Go.Proofs.Ytidoofdofdhjpaa
/- A map whose keys are states' keys: what a look-up finds, what an entry leaves. -/
namespace Go.Proofs.Ytidoofdofdhjpaa
open Go Go.RowKit
set_option linter.unusedVariables false
set_option linter.unusedSimpArgs false
set_option maxRecDepth 100000

/-- What is held of one head. -/
structure HdE where
  s : List Itm
  A : Option Addr
  cap : Nat
  many : Nat
def brC (e : HdE) : Array Value := #[.slice e.A e.s.length e.cap, .int .i64 (e.many : Int)]
def mapEsH : List HdE → Nat → List MapEntry
  | [], _ => []
  | p :: l, i => { key := .string (bs (stK p.s)), val := .agg (brC p), born := i } :: mapEsH l (i + 1)
theorem mapEsH_length : ∀ (l : List HdE) (i : Nat), (mapEsH l i).length = l.length
  | [], _ => rfl
  | p :: l, i => by rw [mapEsH, List.length_cons, List.length_cons, mapEsH_length l (i + 1)]
theorem mapEsH_get : ∀ (l : List HdE) (i j : Nat), (mapEsH l i)[j]? = (l[j]?).map fun p => { key := .string (bs (stK p.s)), val := .agg (brC p), born := i + j }
  | [], _, _ => by simp [mapEsH]
  | p :: l, i, 0 => by simp [mapEsH]
  | p :: l, i, j + 1 => by
    rw [mapEsH, List.getElem?_cons_succ, mapEsH_get l (i + 1) j, List.getElem?_cons_succ]
    cases l[j]? <;> simp; omega
def IsMapH (w : World) (m : Nat) (L : List HdE) : Prop := w.heap[m]? = some (.map (mapEsH L 0).toArray L.length)
theorem IsMapH.lt {w : World} {m : Nat} {l : List HdE} (h : IsMapH w m l) : m < w.heap.size := (Array.getElem?_eq_some_iff.1 h).1
/-- The world with a map's block turned. -/
def putMapH (w : World) (m : Nat) (l : List HdE) : World := { w with heap := w.heap.setIfInBounds m (.map (mapEsH l 0).toArray l.length) }
theorem putMapH_is {w : World} {m : Nat} (h : m < w.heap.size) (l' : List HdE) : IsMapH (putMapH w m l') m l' := by
  unfold IsMapH putMapH; simp [h]
theorem putMapH_other {w : World} {m b : Nat} (hb : b ≠ m) (l : List HdE) : (putMapH w m l).heap[b]? = w.heap[b]? := by
  unfold putMapH; simp [Ne.symm hb]
theorem putMapH_size (w : World) (m : Nat) (l : List HdE) : (putMapH w m l).heap.size = w.heap.size := by simp [putMapH]
/-- In how many ways? -/
def mnyE : List HdE → List Itm → Nat
  | [], _ => 0
  | d :: L, t => if d.s = t then d.many else mnyE L t
/-- One more, or one turned. -/
def putE : List HdE → HdE → List HdE
  | [], e => [e]
  | d :: L, e => if d.s = e.s then e :: L else d :: putE L e
theorem mny_put (e : HdE) (t : List Itm) : ∀ L, mnyE (putE L e) t = if t = e.s then e.many else mnyE L t
  | [] => by
    unfold putE mnyE
    by_cases h : t = e.s
    · rw [if_pos h, if_pos h.symm]
    · rw [if_neg h, if_neg (fun k => h k.symm)]; rfl
  | d :: L => by
    unfold putE
    by_cases hd : d.s = e.s
    · rw [if_pos hd]
      unfold mnyE
      by_cases h : t = e.s
      · rw [if_pos h, if_pos h.symm]
      · rw [if_neg h, if_neg (fun k => h k.symm), if_neg (by rw [hd]; exact fun k => h k.symm)]
    · rw [if_neg hd]
      unfold mnyE
      rw [mny_put e t L]
      by_cases h : t = e.s
      · rw [if_pos h, if_pos h, if_neg (by rw [h]; exact hd)]
      · rw [if_neg h, if_neg h]
theorem put_mem {e x : HdE} : ∀ {L : List HdE}, x ∈ putE L e → x = e ∨ x ∈ L
  | [], h => by unfold putE at h; exact .inl (List.mem_singleton.1 h)
  | d :: L, h => by
    unfold putE at h
    split at h
    · rcases List.mem_cons.1 h with h | h
      · exact .inl h
      · exact .inr (List.mem_cons_of_mem _ h)
    · rcases List.mem_cons.1 h with h | h
      · exact .inr (by rw [h]; exact List.mem_cons_self ..)
      · rcases put_mem h with h | h
        · exact .inl h
        · exact .inr (List.mem_cons_of_mem _ h)
theorem put_keys {e : HdE} : ∀ {L : List HdE} {t : List Itm}, t ∈ (putE L e).map HdE.s ↔ t = e.s ∨ t ∈ L.map HdE.s
  | [], t => by simp [putE]
  | d :: L, t => by
    unfold putE
    split
    · rename_i h; simp [h]
    · rw [List.map_cons, List.map_cons, List.mem_cons, List.mem_cons, put_keys]
      constructor
      · rintro (h | h | h)
        · exact .inr (.inl h)
        · exact .inl h
        · exact .inr (.inr h)
      · rintro (h | h | h)
        · exact .inr (.inl h)
        · exact .inl h
        · exact .inr (.inr h)
theorem put_nodup {e : HdE} : ∀ {L : List HdE}, (L.map HdE.s).Nodup → ((putE L e).map HdE.s).Nodup
  | [], _ => by simp [putE]
  | d :: L, h => by
    rw [List.map_cons, List.nodup_cons] at h
    unfold putE
    split
    · rename_i hd; rw [List.map_cons, List.nodup_cons, ← hd]; exact h
    · rename_i hd
      rw [List.map_cons, List.nodup_cons, put_keys]
      exact ⟨fun k => by rcases k with k | k; exact hd k; exact h.1 k, put_nodup h.2⟩
/-- What a look-up finds. -/
def findEH : List HdE → List Itm → Nat → Option (Nat × Value)
  | [], _, _ => none
  | p :: l, s, i => if p.s = s then some (i, .agg (brC p)) else findEH l s (i + 1)
theorem findNow_mapEsH (s : List Itm) : ∀ (l : List HdE) (i : Nat), Instr.findNow .string (.string (bs (stK s))) (mapEsH l i) i = some (findEH l s i)
  | [], i => rfl
  | p :: l, i => by
    unfold mapEsH Instr.findNow findEH
    simp only [Instr.sameNow, bs_beq]
    by_cases h : p.s = s
    · subst h; simp
    · have : ¬ stK s = stK p.s := fun e => h (stK_inj.1 e).symm
      simp [this, h, findNow_mapEsH s l (i + 1)]
theorem find_val (s : List Itm) : ∀ (l : List HdE) (i : Nat), (findEH l s i = none ∧ mnyE l s = 0) ∨ ∃ j A c, findEH l s i = some (i + j, .agg #[.slice A s.length c, .int .i64 (mnyE l s : Int)]) ∧ j < l.length
  | [], _ => .inl ⟨rfl, rfl⟩
  | p :: l, i => by
    unfold findEH mnyE
    by_cases h : p.s = s
    · rw [if_pos h, if_pos h]
      exact .inr ⟨0, p.A, p.cap, by subst h; rfl, by simp⟩
    · rw [if_neg h, if_neg h]
      rcases find_val s l (i + 1) with h1 | ⟨j, A, c, h1, h2⟩
      · exact .inl h1
      · exact .inr ⟨j + 1, A, c, by rw [h1]; congr 2; omega, by simp; omega⟩
theorem run_findKey_h (s : List Itm) (w : World) (l : List HdE) : (Instr.findKey 9 (.string (bs (stK s))) (mapEsH l 0)).run Try.prog w = .ok (findEH l s 0) w := by
  unfold Instr.findKey
  simp only [Sem.run_bind, run_underlying Try.underlying9, Result.andThen, findNow_mapEsH]
  rfl
theorem checkKey_h {e : Bool} {v : Value} (w : World) : (Instr.checkKey e 10000 9 v).run Try.prog w = .ok () w := by
  rw [show (10000 : Nat) = 9999 + 1 from rfl]
  unfold Instr.checkKey
  simp [run_underlying Try.underlying9, Result.andThen]
/-- A look-up: what it is known by. -/
theorem run_lookup_h (w : World) (m : Nat) (l : List HdE) (s : List Itm) (hm : IsMapH w m l) : ∃ A n c,
    (Instr.lookup 79 (.map (some m)) (.string (bs (stK s))) false).run Try.prog w = .ok (.agg #[.slice A n c, .int .i64 (mnyE l s : Int)]) w := by
  unfold IsMapH at hm
  have hz := Try.zeroValue41
  rcases find_val s l 0 with ⟨h1, h2⟩ | ⟨j, A, c, h1, -⟩
  · refine ⟨none, 0, 0, ?_⟩
    simp only [Instr.lookup, Sem.run_bind, run_underlying Try.underlying79, Result.andThen, getObj, Sem.run, hm, checkKey_h]
    rw [show (Sem.run Try.prog (pure (mapEsH l 0).toArray) w) = .ok (mapEsH l 0).toArray w from rfl]
    simp only [run_findKey_h, h1, h2]
    simp [Sem.run_bind, hz, Result.andThen]
  · refine ⟨A, s.length, c, ?_⟩
    simp only [Instr.lookup, Sem.run_bind, run_underlying Try.underlying79, Result.andThen, getObj, Sem.run, hm, checkKey_h]
    rw [show (Sem.run Try.prog (pure (mapEsH l 0).toArray) w) = .ok (mapEsH l 0).toArray w from rfl]
    simp only [run_findKey_h, h1]
    rfl
theorem put_none (e : HdE) : ∀ (l : List HdE) (i : Nat), findEH l e.s i = none → mapEsH (putE l e) i = mapEsH l i ++ [{ key := .string (bs (stK e.s)), val := .agg (brC e), born := i + l.length }] ∧ (putE l e).length = l.length + 1
  | [], i, _ => ⟨rfl, rfl⟩
  | p :: l, i, h => by
    unfold findEH at h
    split at h
    · cases h
    · rename_i hp
      obtain ⟨h1, h2⟩ := put_none e l (i + 1) h
      unfold putE
      rw [if_neg hp, mapEsH, h1, mapEsH, List.cons_append, List.length_cons, List.length_cons, h2]
      exact ⟨by congr 4; omega, rfl⟩
theorem put_some (e : HdE) : ∀ (l : List HdE) (i j : Nat) (v : Value), findEH l e.s i = some (i + j, v) → (mapEsH l i).modify j (fun x => { x with key := .string (bs (stK e.s)), val := .agg (brC e) }) = mapEsH (putE l e) i ∧ (putE l e).length = l.length ∧ ((mapEsH l i)[j]?).map (·.key) = some (.string (bs (stK e.s)))
  | [], i, j, v, h => by cases h
  | p :: l, i, j, v, h => by
    unfold findEH at h
    split at h
    · rename_i hp
      simp only [Option.some.injEq, Prod.mk.injEq] at h
      obtain rfl : j = 0 := by omega
      unfold putE
      rw [if_pos hp]
      refine ⟨rfl, rfl, ?_⟩
      simp [mapEsH, hp]
    · rename_i hp
      cases j with
      | zero =>
        exfalso
        rcases find_val e.s l (i + 1) with ⟨h1, -⟩ | ⟨j', A, c, h1, -⟩
        · rw [h1] at h; cases h
        · rw [h1] at h
          simp only [Option.some.injEq, Prod.mk.injEq] at h
          omega
      | succ j =>
        obtain ⟨h1, h2, h3⟩ := put_some e l (i + 1) j v (by rw [h]; congr 2; omega)
        unfold putE
        rw [if_neg hp]
        refine ⟨?_, by rw [List.length_cons, List.length_cons, h2], ?_⟩
        · rw [mapEsH, mapEsH, List.modify_succ_cons, h1]
        · rw [mapEsH, List.getElem?_cons_succ]; exact h3
theorem sameBits_str (n : Nat) (s : ByteArray) : Instr.sameBits n (.string s) (.string s) = (s == s) := by cases n <;> rfl
theorem bs_selfH (l : List UInt8) : (bs l == bs l) = true := by rw [bs_beq]; simp
/-- An entry is put. -/
theorem run_update_h (w : World) (m : Nat) (l : List HdE) (e : HdE) (hm : IsMapH w m l) :
    (Instr.mapUpdate 79 (.map (some m)) (.string (bs (stK e.s))) (.agg (brC e))).run Try.prog w = .ok () (putMapH w m (putE l e)) := by
  have hlt := hm.lt
  unfold IsMapH at hm
  rcases hf : findEH l e.s 0 with _ | ⟨j, v⟩
  · obtain ⟨h1, h2⟩ := put_none e l 0 hf
    simp only [Instr.mapUpdate, Sem.run_bind, run_underlying Try.underlying79, Result.andThen, getObj, Sem.run, hm, checkKey_h, run_findKey_h, hf]
    simp only [setObj, Sem.run, hm]
    unfold putMapH
    rw [h1, h2]
    simp [Sem.run, hm]
  · obtain ⟨h1, h2, h3⟩ := put_some e l 0 j v (by rw [hf]; congr 2; omega)
    simp only [Instr.mapUpdate, Sem.run_bind, run_underlying Try.underlying79, Result.andThen, getObj, Sem.run, hm, checkKey_h, run_findKey_h, hf]
    have hk : (((mapEsH l 0).toArray[j]?).map (·.key)).getD (.string (bs (stK e.s))) = .string (bs (stK e.s)) := by
      rw [List.getElem?_toArray, h3]; rfl
    rw [hk]
    have hks : (Instr.keyThatStays (.string (bs (stK e.s))) (.string (bs (stK e.s)))).run Try.prog w = .ok (.string (bs (stK e.s))) w := by
      unfold Instr.keyThatStays
      rw [sameBits_str, bs_selfH]; rfl
    rw [hks]
    simp only [setObj, Sem.run, hm]
    unfold putMapH
    rw [h2, ← h1]
    simp [Sem.run, hm]
end Go.Proofs.Ytidoofdofdhjpaa
/- Branches sorted: slices.SortFunc by its contract. -/
namespace Go.Proofs.Ytidoofdofdhjpaa
open Go Go.RowKit Go.Shelf Go.Sort
set_option linter.unusedVariables false
set_option linter.unusedSimpArgs false
set_option maxRecDepth 100000

def laysSortB_ren : Go.Shelf.Ren := ⟨fun | 6 => 56 | 14 => 77 | 15 => 78 | 20 => 91 | 21 => 92 | 22 => 93 | 23 => 94 | 24 => 95 | 25 => 96 | 26 => 97 | 27 => 98 | 28 => 99 | 29 => 100 | 46 => 104 | 47 => 105 | 48 => 106 | 49 => 107 | 50 => 108 | 57 => 109 | n => n, fun | 0 => 0 | 3 => 3 | 4 => 4 | 5 => 5 | 9 => 9 | 22 => 37 | 24 => 41 | 25 => 98 | 39 => 126 | 45 => 139 | 46 => 140 | 50 => 60 | 53 => 146 | 55 => 33 | 66 => 151 | 70 => 155 | 76 => 157 | 77 => 158 | n => n, fun n => n⟩
theorem laysSortB : SlLaysF0.n6 Try.prog laysSortB_ren := {
  mixed := by kernel_rfl,
  f6 := ⟨Try.f56.name, by kernel_rfl, Try.func56.trans (congrArg some (by kernel_rfl))⟩,
  f14 := ⟨Try.f77.name, by kernel_rfl, Try.func77.trans (congrArg some (by kernel_rfl))⟩,
  f15 := Try.func78.trans (congrArg some (by kernel_rfl)),
  f20 := ⟨Try.f91.name, by kernel_rfl, Try.func91.trans (congrArg some (by kernel_rfl))⟩,
  f21 := ⟨Try.f92.name, by kernel_rfl, Try.func92.trans (congrArg some (by kernel_rfl))⟩,
  f22 := ⟨Try.f93.name, by kernel_rfl, Try.func93.trans (congrArg some (by kernel_rfl))⟩,
  f23 := ⟨Try.f94.name, by kernel_rfl, Try.func94.trans (congrArg some (by kernel_rfl))⟩,
  f24 := ⟨Try.f95.name, by kernel_rfl, Try.func95.trans (congrArg some (by kernel_rfl))⟩,
  f25 := ⟨Try.f96.name, by kernel_rfl, Try.func96.trans (congrArg some (by kernel_rfl))⟩,
  f26 := ⟨Try.f97.name, by kernel_rfl, Try.func97.trans (congrArg some (by kernel_rfl))⟩,
  f27 := ⟨Try.f98.name, by kernel_rfl, Try.func98.trans (congrArg some (by kernel_rfl))⟩,
  f28 := Try.func99.trans (congrArg some (by kernel_rfl)),
  f29 := Try.func100.trans (congrArg some (by kernel_rfl)),
  f46 := ⟨Try.f104.name, by kernel_rfl, Try.func104.trans (congrArg some (by kernel_rfl))⟩,
  f47 := Try.func105.trans (congrArg some (by kernel_rfl)),
  f48 := Try.func106.trans (congrArg some (by kernel_rfl)),
  f49 := ⟨Try.f107.name, by kernel_rfl, Try.func107.trans (congrArg some (by kernel_rfl))⟩,
  f50 := ⟨Try.f108.name, by kernel_rfl, Try.func108.trans (congrArg some (by kernel_rfl))⟩,
  f57 := ⟨Try.f109.name, by kernel_rfl, Try.func109.trans (congrArg some (by kernel_rfl))⟩,
  t0 := Try.underlying0,
  a0 := Try.isAgg0,
  z0 := Try.sizeOf0,
  v0 := Try.zeroValue0,
  t3 := Try.underlying3,
  a3 := Try.isAgg3,
  z3 := Try.sizeOf3,
  v3 := Try.zeroValue3,
  t4 := Try.underlying4,
  a4 := Try.isAgg4,
  z4 := Try.sizeOf4,
  v4 := Try.zeroValue4,
  t5 := Try.underlying5,
  a5 := Try.isAgg5,
  z5 := Try.sizeOf5,
  v5 := Try.zeroValue5,
  t9 := Try.underlying9,
  a9 := Try.isAgg9,
  z9 := Try.sizeOf9,
  v9 := Try.zeroValue9,
  t22 := Try.underlying37,
  a22 := Try.isAgg37,
  z22 := Try.sizeOf37,
  v22 := Try.zeroValue37,
  t25 := Try.underlying98,
  a25 := Try.isAgg98,
  z25 := Try.sizeOf98,
  v25 := Try.zeroValue98,
  t39 := Try.underlying126,
  a39 := Try.isAgg126,
  z39 := Try.sizeOf126,
  v39 := Try.zeroValue126,
  t45 := Try.underlying139,
  a45 := Try.isAgg139,
  z45 := Try.sizeOf139,
  v45 := Try.zeroValue139,
  t46 := Try.underlying140,
  a46 := Try.isAgg140,
  z46 := Try.sizeOf140,
  v46 := Try.zeroValue140,
  t50 := Try.underlying60,
  a50 := Try.isAgg60,
  z50 := Try.sizeOf60,
  v50 := Try.zeroValue60,
  t53 := Try.underlying146,
  a53 := Try.isAgg146,
  z53 := Try.sizeOf146,
  v53 := Try.zeroValue146,
  t55 := Try.underlying33,
  a55 := Try.isAgg33,
  z55 := Try.sizeOf33,
  v55 := Try.zeroValue33,
  t66 := Try.underlying151,
  a66 := Try.isAgg151,
  z66 := Try.sizeOf151,
  v66 := Try.zeroValue151,
  t70 := Try.underlying155,
  a70 := Try.isAgg155,
  z70 := Try.sizeOf155,
  v70 := Try.zeroValue155,
  t76 := Try.underlying157,
  a76 := Try.isAgg157,
  z76 := Try.sizeOf157,
  v76 := Try.zeroValue157,
  t77 := Try.underlying158,
  a77 := Try.isAgg158,
  z77 := Try.sizeOf158,
  v77 := Try.zeroValue158 }
end Go.Proofs.Ytidoofdofdhjpaa
/- Tokens of a text: what follows for whole texts. -/
namespace Go.Proofs.Ytidoofdofdhjpaa
open Go
set_option linter.unusedVariables false

/-- What a read text is. -/
structure Whole (l : List UInt8) (p k : Nat) (r : List Tok) : Prop where
  ne : r ≠ []
  last : r.getLast? = some { kind := 10, at_ := p + l.length }
  low : ∀ t ∈ r, p + k ≤ t.at_
  kinds : ∀ t ∈ r.dropLast, 1 ≤ t.kind ∧ t.kind ≤ 9 ∧ t.at_ < p + l.length ∧ l.getD (t.at_ - p) 0 ≠ 32
  rise : r.Pairwise (fun a b => a.at_ < b.at_)
  gap : ∀ t, r.head? = some t → ∀ i, k ≤ i → p + i < t.at_ → l.getD i 0 = 32
end Go.Proofs.Ytidoofdofdhjpaa
