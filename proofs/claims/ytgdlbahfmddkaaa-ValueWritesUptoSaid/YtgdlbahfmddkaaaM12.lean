/- What the statements ask of spans: plain mathematics. -/
import Derived.Test.YtgdlbahfmddkaaaM11
import Derived.Test.YtgdlbahfmddkaaaM03
namespace Go.Proofs.Ytgdlbahfmddkaaa
open Go
set_option linter.unusedVariables false
set_option linter.unusedSimpArgs false

end Go.Proofs.Ytgdlbahfmddkaaa
/- Values of descriptions, and the words they write: the plain mathematics. -/
namespace Go.Proofs.Ytgdlbahfmddkaaa
open Go
set_option linter.unusedVariables false
set_option linter.unusedSimpArgs false

/-- Values in a row, each with its kids' row. -/
inductive Vs where
  | nil
  | cons (kind : Int) (byte : UInt8) (text : List UInt8) (pick : Int) (kids : Vs) (rest : Vs)
/-- A value. -/
structure Vl where
  kind : Int
  byte : UInt8
  text : List UInt8
  pick : Int
  kids : Vs
def vl0 : Vl := ⟨0, 0, [], 0, .nil⟩
def Vs.list : Vs → List Vl
  | .nil => []
  | .cons k b t p ks r => ⟨k, b, t, p, ks⟩ :: r.list
def Vs.of : List Vl → Vs
  | [] => .nil
  | v :: vs => .cons v.kind v.byte v.text v.pick v.kids (Vs.of vs)
theorem Vs.of_list : ∀ s, Vs.of s.list = s
  | .nil => rfl
  | .cons k b t p ks r => by rw [Vs.list, Vs.of, Vs.of_list r]
theorem Vs.list_of : ∀ l, (Vs.of l).list = l
  | [] => rfl
  | v :: l => by rw [Vs.of, Vs.list, Vs.list_of l]
def Vs.len (s : Vs) : Nat := s.list.length
def Vs.at (s : Vs) (j : Nat) : Vl := s.list.getD j vl0
/-- How many values they are of. -/
def cntVs : Vs → Nat
  | .nil => 0
  | .cons _ _ _ _ ks r => 1 + cntVs ks + cntVs r
def cntV (v : Vl) : Nat := 1 + cntVs v.kids
theorem cntVs_list : ∀ s, cntVs s = (s.list.map cntV).sum
  | .nil => rfl
  | .cons k b t p ks r => by rw [cntVs, cntVs_list r, Vs.list, List.map_cons, List.sum_cons]; rfl
theorem cntVs_at : ∀ (s : Vs) (j : Nat), j < s.len → cntV (s.at j) ≤ cntVs s
  | .nil, j, h => absurd h (Nat.not_lt_zero j)
  | .cons k b t p ks r, 0, h => by show 1 + cntVs ks ≤ _; rw [cntVs]; omega
  | .cons k b t p ks r, j + 1, h => by
    have := cntVs_at r j (by unfold Vs.len at h ⊢; rw [Vs.list, List.length_cons] at h; omega)
    have e : (Vs.cons k b t p ks r).at (j + 1) = r.at j := rfl
    rw [e, cntVs]; omega
theorem cntVs_len : ∀ s : Vs, s.len ≤ cntVs s
  | .nil => Nat.le_refl _
  | .cons k b t p ks r => by
    have := cntVs_len r
    unfold Vs.len at this ⊢
    rw [Vs.list, List.length_cons, cntVs]; omega
theorem cntV_kid {v : Vl} {i : Nat} (h : i < v.kids.len) : cntV (v.kids.at i) < cntV v := by
  have := cntVs_at v.kids i h
  unfold cntV at this ⊢
  omega
theorem Vs.at_get {s : Vs} {i : Nat} (h : i < s.len) : s.list[i]? = some (s.at i) := by
  unfold Vs.at Vs.len at *
  rw [List.getD_eq_getElem?_getD, List.getElem?_eq_getElem h]; rfl
theorem Vs.mem_at {s : Vs} {v : Vl} (h : v ∈ s.list) : ∃ i, i < s.len ∧ s.at i = v := by
  obtain ⟨i, hi, rfl⟩ := List.mem_iff_getElem.1 h
  exact ⟨i, hi, by unfold Vs.at; rw [List.getD_eq_getElem?_getD, List.getElem?_eq_getElem hi]; rfl⟩
/-- Induction by kids. -/
theorem Vl.kids_ind {P : Vl → Prop} (h : ∀ v, (∀ x ∈ v.kids.list, P x) → P v) : ∀ v, P v := fun v => by
  generalize hn : cntV v = n
  induction n using Nat.strongRecOn generalizing v with
  | ind n ih =>
    refine h v (fun x hx => ?_)
    obtain ⟨i, hi, rfl⟩ := Vs.mem_at hx
    exact ih _ (by have := cntV_kid hi; omega) _ rfl
/-- The node that the j-th kid is a value of. -/
def kidN (n : Nd) (p : Int) (j : Nat) : Int := if n.kind = 4 ∧ j = 1 ∨ n.kind = 5 ∧ p = 1 then n.b else n.a
/-- What of a value must be, but for its kids. -/
def headV (n : Nd) (k : Int) (b : UInt8) (t : List UInt8) (p : Int) (c : Nat) : Prop :=
  k = n.kind ∧ (n.kind ≠ 2 → b = 0) ∧ (n.kind = 2 → n.cls.getLsbD b.toNat = true) ∧ t = (if n.kind = 3 then n.text else []) ∧ (p = 0 ∨ (n.kind = 5 ∧ p = 1)) ∧
    (n.kind = 1 ∨ n.kind = 2 ∨ n.kind = 3 → c = 0) ∧ (n.kind = 4 → c = 2) ∧ (n.kind = 5 ∨ n.kind = 8 ∨ n.kind = 9 → c = 1) ∧ (n.kind = 7 → n.lo ≤ (c : Int) ∧ (c : Int) ≤ n.hi)
instance (n : Nd) (k : Int) (b : UInt8) (t : List UInt8) (p : Int) (c : Nat) : Decidable (headV n k b t p c) := by unfold headV; infer_instance
abbrev Wd := List UInt8
/-- All kids' words, one behind the other. -/
def catW : List (Option Wd) → Option Wd
  | [] => some []
  | none :: _ => none
  | some w :: rs => (catW rs).map (w ++ ·)
/-- Has each kid a word, of a byte or more, where it must be? -/
def fullW (n : Nd) (rs : List (Option Wd)) : Prop := n.kind = 6 ∨ n.kind = 7 → some [] ∉ rs
instance (n : Nd) (rs : List (Option Wd)) : Decidable (fullW n rs) := by unfold fullW; infer_instance
def byU (n : Nat) : UInt8 := UInt8.ofNat n
/-- A word, out of the kids' one behind the other. -/
def capW (n : Nd) (b : UInt8) (w : Wd) : Option Wd :=
  if n.kind = 2 then some [b] else if n.kind = 3 then some n.text
  else if n.kind = 8 then (if w.length ≤ 255 then some (byU w.length :: w) else none)
  else if n.kind = 9 then (if w.length ≤ 65535 then some (byU (w.length / 256) :: byU (w.length % 256) :: w) else none)
  else some w
/-- What a value writes, its kids' words being known. -/
def valW (n : Nd) (k : Int) (b : UInt8) (t : List UInt8) (p : Int) (rs : List (Option Wd)) : Option Wd :=
  if headV n k b t p rs.length ∧ fullW n rs then (catW rs).bind (capW n b) else none
/-- What values write, the j-th one being of the node f j, where they are. -/
def wrS (l : List Nd) : (Nat → Nat) → Vs → List (Option Wd)
  | _, .nil => []
  | f, .cons k b t p ks r => valW (atN l (f 0)) k b t p (wrS l (fun j => (kidN (atN l (f 0)) p j).toNat) ks) :: wrS l (fun j => f (j + 1)) r
/-- What a value of a node writes, if it is one. -/
def wrV (l : List Nd) (i : Nat) (v : Vl) : Option Wd := valW (atN l i) v.kind v.byte v.text v.pick (wrS l (fun j => (kidN (atN l i) v.pick j).toNat) v.kids)
theorem wrS_length (l : List Nd) : ∀ (f : Nat → Nat) (s : Vs), (wrS l f s).length = s.len
  | f, .nil => rfl
  | f, .cons k b t p ks r => by
    have := wrS_length l (fun j => f (j + 1)) r
    unfold Vs.len at this ⊢
    rw [wrS, List.length_cons, this, Vs.list, List.length_cons]
theorem wrS_get (l : List Nd) : ∀ (f : Nat → Nat) (s : Vs) (j : Nat), j < s.len → (wrS l f s)[j]? = some (wrV l (f j) (s.at j))
  | f, .nil, j, h => absurd h (Nat.not_lt_zero j)
  | f, .cons k b t p ks r, 0, h => rfl
  | f, .cons k b t p ks r, j + 1, h => by
    rw [wrS, List.getElem?_cons_succ, wrS_get l _ r j (by unfold Vs.len at h ⊢; rw [Vs.list, List.length_cons] at h; omega)]; rfl
theorem wrS_eq {l : List Nd} {f : Nat → Nat} {s : Vs} {rs : List (Option Wd)} (hl : rs.length = s.len) (h : ∀ j, j < s.len → rs[j]? = some (wrV l (f j) (s.at j))) : wrS l f s = rs := by
  refine List.ext_getElem? (fun j => ?_)
  rcases Nat.lt_or_ge j s.len with hj | hj
  · rw [wrS_get l f s j hj, h j hj]
  · rw [List.getElem?_eq_none (by rw [wrS_length]; exact hj), List.getElem?_eq_none (by omega)]
theorem wrS_congr {l m : List Nd} {f g : Nat → Nat} {s : Vs} (h : ∀ j, j < s.len → wrV l (f j) (s.at j) = wrV m (g j) (s.at j)) : wrS l f s = wrS m g s :=
  wrS_eq (wrS_length m g s) (fun j hj => by rw [wrS_get m g s j hj, h j hj])
theorem catW_some : ∀ {rs : List (Option Wd)} {w : Wd}, catW rs = some w → ∀ r ∈ rs, ∃ x, r = some x
  | [], w, h, r, hr => by cases hr
  | none :: rs, w, h, r, hr => by cases h
  | some y :: rs, w, h, r, hr => by
    rw [catW] at h
    rcases hc : catW rs with _ | z
    · rw [hc] at h; cases h
    · rcases List.mem_cons.1 hr with e | e
      · exact ⟨y, e⟩
      · exact catW_some hc r e
/-- All of them, as words. -/
theorem catW_all : ∀ (ws : List Wd), catW (ws.map some) = some ws.flatten
  | [] => rfl
  | w :: ws => by rw [List.map_cons, catW, catW_all ws]; rfl
theorem catW_iff {rs : List (Option Wd)} {w : Wd} : catW rs = some w ↔ ∃ ws : List Wd, rs = ws.map some ∧ w = ws.flatten := by
  constructor
  · intro h
    have hs := catW_some h
    have : ∃ ws : List Wd, rs = ws.map some := by
      clear h
      induction rs with
      | nil => exact ⟨[], rfl⟩
      | cons r rs ih =>
        obtain ⟨x, rfl⟩ := hs r (by simp)
        obtain ⟨ws, rfl⟩ := ih (fun r hr => hs r (List.mem_cons_of_mem _ hr))
        exact ⟨x :: ws, rfl⟩
    obtain ⟨ws, rfl⟩ := this
    rw [catW_all] at h
    exact ⟨ws, rfl, by injection h with h; exact h.symm⟩
  · rintro ⟨ws, rfl, rfl⟩
    exact catW_all ws
theorem valW_some {n : Nd} {k : Int} {b : UInt8} {t : List UInt8} {p : Int} {rs : List (Option Wd)} {w : Wd} : valW n k b t p rs = some w ↔ headV n k b t p rs.length ∧ fullW n rs ∧ ∃ ws : List Wd, rs = ws.map some ∧ capW n b ws.flatten = some w := by
  unfold valW
  constructor
  · intro h
    split at h
    · rename_i h1
      rcases hc : catW rs with _ | x
      · rw [hc] at h; cases h
      · rw [hc] at h
        obtain ⟨ws, e1, e2⟩ := catW_iff.1 hc
        exact ⟨h1.1, h1.2, ws, e1, by rw [← e2]; exact h⟩
    · cases h
  · rintro ⟨h1, h2, ws, rfl, h3⟩
    rw [if_pos ⟨h1, h2⟩, catW_all]; exact h3
/-- What a value writes: its kids' words, one behind the other, capped. -/
theorem wrV_some {l : List Nd} {i : Nat} {v : Vl} {w : Wd} (h : wrV l i v = some w) : headV (atN l i) v.kind v.byte v.text v.pick v.kids.len ∧
    ∃ ws : List Wd, ws.length = v.kids.len ∧ (∀ j, j < v.kids.len → wrV l (kidN (atN l i) v.pick j).toNat (v.kids.at j) = some (ws.getD j [])) ∧ ((atN l i).kind = 6 ∨ (atN l i).kind = 7 → ∀ x ∈ ws, x ≠ []) ∧ capW (atN l i) v.byte ws.flatten = some w := by
  unfold wrV at h
  obtain ⟨h1, h2, ws, h3, h4⟩ := valW_some.1 h
  rw [wrS_length] at h1
  have hl : ws.length = v.kids.len := by rw [← wrS_length l _ v.kids, h3, List.length_map]
  refine ⟨h1, ws, hl, fun j hj => ?_, fun hk x hx e => ?_, h4⟩
  · have := wrS_get l (fun j => (kidN (atN l i) v.pick j).toNat) v.kids j hj
    rw [h3, List.getElem?_map, List.getElem?_eq_getElem (by omega)] at this
    injection this with this
    rw [← this, List.getD_eq_getElem?_getD, List.getElem?_eq_getElem (by omega)]; rfl
  · refine h2 hk ?_
    rw [h3, ← e]
    exact List.mem_map_of_mem hx
theorem flat_len : ∀ (ws : List Wd) {m : Nat}, (∀ x ∈ ws, x.length ≤ m) → ws.flatten.length ≤ ws.length * m
  | [], m, _ => by simp
  | w :: ws, m, h => by
    have h1 := h w (by simp)
    have h2 := flat_len ws (fun x hx => h x (List.mem_cons_of_mem _ hx))
    rw [List.flatten_cons, List.length_append, List.length_cons, Nat.succ_mul]; omega
/-- A word is not much longer than there are values. -/
theorem wrV_len {l : List Nd} {m : Nat} (hm : ∀ n ∈ l, n.text.length ≤ m) : ∀ v i w, wrV l i v = some w → w.length ≤ (m + 2) * cntV v := fun v => by
  induction v using Vl.kids_ind with
  | h v ih =>
    intro i w h
    obtain ⟨h1, ws, hl, hk, -, hc⟩ := wrV_some h
    have key : ws.flatten.length ≤ (m + 2) * cntVs v.kids := by
      have e : cntVs v.kids = (v.kids.list.map cntV).sum := cntVs_list _
      have hle : ∀ (us : List Wd) (vs : List Vl), us.length = vs.length → (∀ j, j < us.length → (us.getD j []).length ≤ (m + 2) * cntV (vs.getD j vl0)) → us.flatten.length ≤ (m + 2) * (vs.map cntV).sum := fun us => by
        induction us with
        | nil => intro vs _ _; simp
        | cons u us ihu =>
          intro vs hl hh
          cases vs with
          | nil => cases hl
          | cons y vs =>
            have h0 := hh 0 (by simp)
            have h2 := ihu vs (by simpa using hl) (fun j hj => by have := hh (j + 1) (by simpa using hj); simpa using this)
            rw [List.flatten_cons, List.length_append, List.map_cons, List.sum_cons, Nat.mul_add]
            simp at h0
            omega
      rw [e]
      refine hle ws v.kids.list (by rw [hl]; rfl) (fun j hj => ?_)
      have hj2 : j < v.kids.len := by omega
      exact ih (v.kids.at j) (by have := Vs.at_get hj2; exact List.mem_of_getElem? this) _ _ (hk j hj2)
    have htx : (atN l i).text.length ≤ m := by
      unfold atN
      rw [List.getD_eq_getElem?_getD]
      rcases Nat.lt_or_ge i l.length with hi | hi
      · rw [List.getElem?_eq_getElem hi]; exact hm _ (List.getElem_mem hi)
      · rw [List.getElem?_eq_none hi]; exact Nat.zero_le _
    have e : (m + 2) * cntV v = (m + 2) + (m + 2) * cntVs v.kids := by unfold cntV; rw [Nat.mul_add, Nat.mul_one]
    rw [e]
    unfold capW at hc
    split at hc
    · injection hc with hc; subst hc; simp; omega
    · split at hc
      · injection hc with hc; subst hc; omega
      · split at hc
        · split at hc
          · injection hc with hc; subst hc; rw [List.length_cons]; omega
          · cases hc
        · split at hc
          · split at hc
            · injection hc with hc; subst hc; rw [List.length_cons, List.length_cons]; omega
            · cases hc
          · injection hc with hc; subst hc; omega
end Go.Proofs.Ytgdlbahfmddkaaa
/- Values: how long words are; nodes laid elsewhere: the plain mathematics. -/
namespace Go.Proofs.Ytgdlbahfmddkaaa
open Go
set_option linter.unusedVariables false
set_option linter.unusedSimpArgs false

theorem flat_ge : ∀ (ws : List Wd) {m : Nat}, (∀ x ∈ ws, m ≤ x.length) → ws.length * m ≤ ws.flatten.length
  | [], m, _ => by simp
  | w :: ws, m, h => by
    have h1 := h w (by simp)
    have h2 := flat_ge ws (fun x hx => h x (List.mem_cons_of_mem _ hx))
    rw [List.flatten_cons, List.length_append, List.length_cons, Nat.succ_mul]; omega
theorem ws_at {ws : List Wd} {x : Wd} (h : x ∈ ws) : ∃ j, j < ws.length ∧ ws.getD j [] = x := by
  obtain ⟨j, hj, rfl⟩ := List.mem_iff_getElem.1 h
  exact ⟨j, hj, by rw [List.getD_eq_getElem?_getD, List.getElem?_eq_getElem hj]; rfl⟩
/-- A length within a span. -/
def InS (p : Spn) (n : Nat) : Prop := 0 ≤ p.1 ∧ p.1 ≤ (n : Int) ∧ (p.2 = -1 ∨ (n : Int) ≤ p.2)
theorem one_span {n : Nd} {p : Spn} {ws : List Wd} {w : Wd} {k : Int} {b : UInt8} {t : List UInt8} {q : Int} (hp : SpOk p) (hk : 6 ≤ n.kind ∧ n.kind ≤ 9) (h7 : n.kind = 7 → 0 ≤ n.lo ∧ n.lo ≤ n.hi) (h1 : headV n k b t q ws.length)
    (hw : ∀ x ∈ ws, InS p x.length) (hf : n.kind = 6 ∨ n.kind = 7 → ∀ x ∈ ws, x ≠ []) (hc : capW n b ws.flatten = some w) : InS (onePs n.kind n.lo n.hi p) w.length := by
  obtain ⟨-, -, -, -, -, -, -, hl1, hl7⟩ := h1
  have hpos : ∀ x ∈ ws, x ≠ [] → 1 ≤ x.length := fun x _ hx => List.length_pos_iff.2 hx
  unfold capW at hc
  rw [if_neg (by omega), if_neg (by omega)] at hc
  unfold onePs
  by_cases k6 : n.kind = 6
  · rw [if_pos k6]
    rw [if_neg (by omega), if_neg (by omega)] at hc
    injection hc with hc; subst hc
    split
    · rename_i hh
      have : ws = [] := by
        cases ws with
        | nil => rfl
        | cons x ws =>
          exfalso
          obtain ⟨a1, a2, a3⟩ := hw x (by simp)
          have := hpos x (by simp) (hf (.inl k6) x (by simp))
          omega
      subst this
      exact ⟨by decide, by decide, .inr (by decide)⟩
    · exact ⟨by decide, by show (0 : Int) ≤ _; omega, .inl rfl⟩
  · rw [if_neg k6]
    by_cases k7 : n.kind = 7
    · rw [if_pos k7]
      rw [if_neg (by omega), if_neg (by omega)] at hc
      injection hc with hc; subst hc
      obtain ⟨b1, b2⟩ := hl7 k7
      obtain ⟨c1, c2⟩ := h7 k7
      have hempty : (p.1 < 0 ∨ n.hi = 0) → ws = [] := fun hh => by
        cases ws with
        | nil => rfl
        | cons x ws =>
          exfalso
          obtain ⟨a1, a2, a3⟩ := hw x (by simp)
          rw [List.length_cons] at b2
          omega
      unfold repS
      split
      · rename_i hh
        obtain rfl := hempty (.inl hh)
        simp at b1
        rw [if_neg (by omega)]
        exact ⟨by decide, by decide, .inr (by decide)⟩
      · rename_i hh
        split
        · rename_i hh2
          obtain rfl := hempty (.inr hh2)
          exact ⟨by decide, by decide, .inr (by decide)⟩
        · rename_i hh2
          have hm0 : 0 ≤ p.1 * n.lo := Int.mul_nonneg (by omega) c1
          have hge := flat_ge ws (m := p.1.toNat) (fun x hx => by have := (hw x hx).2.1; omega)
          have hge2 : p.1 * n.lo ≤ (ws.flatten.length : Int) := by
            have e1 : p.1 * n.lo ≤ p.1 * (ws.length : Int) := Int.mul_le_mul_of_nonneg_left b1 (by omega)
            have e2 : ((ws.length * p.1.toNat : Nat) : Int) = p.1 * (ws.length : Int) := by
              rw [Int.natCast_mul, Int.toNat_of_nonneg (by omega), Int.mul_comm]
            omega
          refine ⟨by show 0 ≤ min mxS _; unfold mxS; omega, by show min mxS _ ≤ _; omega, ?_⟩
          show (if p.2 < 0 then (-1 : Int) else bndS (p.2 * n.hi)) = -1 ∨ _ ≤ (if p.2 < 0 then (-1 : Int) else bndS (p.2 * n.hi))
          split
          · exact .inl rfl
          · rename_i hh3
            rcases bndS_cases (p.2 * n.hi) with e | ⟨e, -⟩
            · exact .inl e
            · right
              rw [e]
              have hle := flat_len ws (m := p.2.toNat) (fun x hx => by have := (hw x hx).2.2; omega)
              have e1 : p.2 * (ws.length : Int) ≤ p.2 * n.hi := Int.mul_le_mul_of_nonneg_left b2 (by omega)
              have e2 : ((ws.length * p.2.toNat : Nat) : Int) = p.2 * (ws.length : Int) := by
                rw [Int.natCast_mul, Int.toNat_of_nonneg (by omega), Int.mul_comm]
              omega
    · rw [if_neg k7]
      have hone : ws.length = 1 := hl1 (by omega)
      obtain ⟨x, rfl⟩ := List.length_eq_one_iff.1 hone
      obtain ⟨a1, a2, a3⟩ := hw x (by simp)
      have ef : [x].flatten = x := by simp
      rw [ef] at hc
      have key : ∀ (most head : Int), (x.length : Int) ≤ most → (w.length : Int) = (x.length : Int) + head → 0 ≤ head → InS (frmS most head p) w.length := fun most head hm hl hh => by
        unfold frmS
        rw [if_neg (by omega)]
        refine ⟨by show 0 ≤ p.1 + head; omega, by show p.1 + head ≤ _; omega, .inr ?_⟩
        show _ ≤ (if p.2 < 0 ∨ most < p.2 then most else p.2) + head
        split
        · omega
        · rcases a3 with a3 | a3 <;> omega
      by_cases k8 : n.kind = 8
      · rw [if_pos k8]
        rw [if_pos k8] at hc
        split at hc
        · rename_i hle
          injection hc with hc; subst hc
          exact key 255 1 (by omega) (by rw [List.length_cons]; omega) (by decide)
        · cases hc
      · rw [if_neg k8]
        rw [if_neg k8, if_pos (by omega)] at hc
        split at hc
        · rename_i hle
          injection hc with hc; subst hc
          exact key 65535 2 (by omega) (by rw [List.length_cons, List.length_cons]; omega) (by decide)
        · cases hc
/-- A word is as long as the span lets it be. -/
theorem wrV_span {l : List Nd} (hF : Form l) : ∀ v i w, i < l.length → wrV l i v = some w → InS (spN l i) w.length := fun v => by
  induction v using Vl.kids_ind with
  | h v ih =>
    intro i w hi0 h
    obtain ⟨h1, ws, hl, hk, hne, hc⟩ := wrV_some h
    have hkid : ∀ j, j < v.kids.len → ∀ q : Nat, (kidN (atN l i) v.pick j).toNat = q → q < l.length → InS (spN l q) (ws.getD j []).length := fun j hj q hq hql => by
      have := hk j hj
      rw [hq] at this
      exact ih (v.kids.at j) (List.mem_of_getElem? (Vs.at_get hj)) _ _ hql this
    have ho := hF.2.1 i hi0
    obtain ⟨n, hn⟩ : ∃ n, atN l i = n := ⟨_, rfl⟩
    rw [hn] at ho h1 hk hne hc hkid
    cases ho.cs hn with
    | leaf hkk hf =>
      rw [spN_leaf (by rw [hn]; exact hkk), hn]
      obtain ⟨-, -, hb, -, -, h0, -, -, -⟩ := h1
      have hnil : ws = [] := List.length_eq_zero_iff.1 (by rw [hl]; exact h0 hkk)
      subst hnil
      unfold capW at hc
      unfold leafPs
      unfold leafK at hkk
      rcases hkk with e | e | e
      · rw [if_pos e]
        rw [if_neg (by omega), if_neg (by omega), if_neg (by omega), if_neg (by omega)] at hc
        injection hc with hc; subst hc
        exact ⟨by decide, by decide, .inr (by decide)⟩
      · rw [if_neg (by omega), if_pos e]
        rw [if_pos e] at hc
        injection hc with hc; subst hc
        have hcl : n.cls ≠ 0 := fun e0 => by
          have := hb e
          rw [e0] at this
          simp at this
        rw [if_neg hcl]
        exact ⟨by decide, by show (1 : Int) ≤ _; simp, .inr (by show _ ≤ (1 : Int); simp)⟩
      · rw [if_neg (by omega), if_neg (by omega)]
        rw [if_neg (by omega), if_pos e] at hc
        injection hc with hc; subst hc
        exact ⟨by show (0 : Int) ≤ _; omega, Int.le_refl _, .inr (Int.le_refl _)⟩
    | one hkk hi ha hb h7 hr hcl hf =>
      rw [spN_one hi (by rw [hn]; exact hkk) (by rw [hn]; exact ha), hn]
      have hkq : ∀ j, (kidN n v.pick j).toNat = i - 1 := fun j => by unfold kidN; rw [if_neg (by omega)]; omega
      refine one_span (spN_ok hF _ (by omega)) hkk (fun e => ?_) (by rw [hl]; exact h1) (fun x hx => ?_) hne hc
      · unfold okN at ho; omega
      · obtain ⟨j, hj, rfl⟩ := ws_at hx
        exact hkid j (by omega) (i - 1) (hkq j) (by omega)
    | two hkk hi hb ha hf0 hl2 hcl hf =>
      have hle := firstP_le l (i - 1)
      rw [spN_two (p := firstP l (i - 1) - 1) hi (by rw [hn]; exact hkk) (by rw [hn]; omega) (by omega) (by rw [hn]; exact hb), hn]
      obtain ⟨-, -, -, -, hp, -, h4, h5, -⟩ := h1
      unfold capW at hc
      rw [if_neg (by omega), if_neg (by omega), if_neg (by omega), if_neg (by omega)] at hc
      injection hc with hc; subst hc
      unfold twoPs
      rcases hkk with e | e
      · rw [if_pos e]
        have hl2' : ws.length = 2 := by rw [hl]; exact h4 e
        obtain ⟨x, y, rfl⟩ : ∃ x y, ws = [x, y] := by
          match ws, hl2' with
          | [x, y], _ => exact ⟨x, y, rfl⟩
        have hx := hkid 0 (by rw [h4 e]; decide) (firstP l (i - 1) - 1) (by unfold kidN; rw [if_neg (by omega)]; omega) (by omega)
        have hy := hkid 1 (by rw [h4 e]; decide) (i - 1) (by unfold kidN; rw [if_pos (.inl ⟨e, rfl⟩)]; omega) (by omega)
        simp at hx hy ⊢
        generalize spN l (firstP l (i - 1) - 1) = p at *
        generalize spN l (i - 1) = q at *
        obtain ⟨a1, a2, a3⟩ := hx
        obtain ⟨b1, b2, b3⟩ := hy
        unfold seqS
        rw [if_neg (by omega)]
        refine ⟨by show 0 ≤ min mxS _; unfold mxS; omega, by show min mxS _ ≤ _; omega, ?_⟩
        show (if p.2 < 0 ∨ q.2 < 0 then (-1 : Int) else bndS (p.2 + q.2)) = -1 ∨ _ ≤ (if p.2 < 0 ∨ q.2 < 0 then (-1 : Int) else bndS (p.2 + q.2))
        split
        · exact .inl rfl
        · rcases bndS_cases (p.2 + q.2) with e | ⟨e, -⟩
          · exact .inl e
          · right; rw [e]; omega
      · rw [if_neg (by omega)]
        have hl1' : ws.length = 1 := by rw [hl]; exact h5 (.inl e)
        obtain ⟨x, rfl⟩ := List.length_eq_one_iff.1 hl1'
        have sp := spN_ok hF (firstP l (i - 1) - 1) (by omega)
        have sq := spN_ok hF (i - 1) (by omega)
        have hor : InS (spN l (firstP l (i - 1) - 1)) x.length ∨ InS (spN l (i - 1)) x.length := by
          rcases hp with hp | ⟨-, hp⟩
          · left
            have := hkid 0 (by rw [h5 (.inl e)]; decide) (firstP l (i - 1) - 1) (by unfold kidN; rw [if_neg (by omega)]; omega) (by omega)
            simpa using this
          · right
            have := hkid 0 (by rw [h5 (.inl e)]; decide) (i - 1) (by unfold kidN; rw [if_pos (.inr ⟨e, hp⟩)]; omega) (by omega)
            simpa using this
        simp only [List.flatten_cons, List.flatten_nil, List.append_nil]
        generalize spN l (firstP l (i - 1) - 1) = p at *
        generalize spN l (i - 1) = q at *
        unfold SpOk at sp sq
        unfold orS
        split
        · rcases hor with ⟨a1, a2, a3⟩ | h
          · omega
          · exact h
        · split
          · rcases hor with h | ⟨a1, a2, a3⟩
            · exact h
            · omega
          · refine ⟨by show 0 ≤ min p.1 q.1; omega, by show min p.1 q.1 ≤ _; rcases hor with ⟨a1, a2, a3⟩ | ⟨a1, a2, a3⟩ <;> omega, ?_⟩
            show (if p.2 < 0 ∨ q.2 < 0 then (-1 : Int) else max p.2 q.2) = -1 ∨ _ ≤ (if p.2 < 0 ∨ q.2 < 0 then (-1 : Int) else max p.2 q.2)
            split
            · exact .inl rfl
            · right
              rcases hor with ⟨a1, a2, a3⟩ | ⟨a1, a2, a3⟩ <;> omega
/-- Nodes laid elsewhere. -/
theorem valW_mv (d : Int) (n : Nd) (k : Int) (b : UInt8) (t : List UInt8) (p : Int) (rs : List (Option Wd)) : valW (mvN d n) k b t p rs = valW n k b t p rs := by
  have e1 := mvN_kind d n
  have e2 : (mvN d n).cls = n.cls := by unfold mvN; (repeat' split) <;> rfl
  have e3 : (mvN d n).text = n.text := by unfold mvN; (repeat' split) <;> rfl
  have e4 : (mvN d n).lo = n.lo := by unfold mvN; (repeat' split) <;> rfl
  have e5 : (mvN d n).hi = n.hi := by unfold mvN; (repeat' split) <;> rfl
  unfold valW
  have h1 : headV (mvN d n) k b t p rs.length ↔ headV n k b t p rs.length := by unfold headV; rw [e1, e2, e3, e4, e5]
  have h2 : fullW (mvN d n) rs ↔ fullW n rs := by unfold fullW; rw [e1]
  have h3 : capW (mvN d n) b = capW n b := by funext w; unfold capW; rw [e1, e3]
  rw [h3]
  by_cases h : headV n k b t p rs.length ∧ fullW n rs
  · rw [if_pos h, if_pos ⟨h1.2 h.1, h2.2 h.2⟩]
  · rw [if_neg h, if_neg (fun hh => h ⟨h1.1 hh.1, h2.1 hh.2⟩)]
theorem valW_kids {n : Nd} {k : Int} {b : UInt8} {t : List UInt8} {p : Int} {rs : List (Option Wd)} (hk : leafK n.kind) (hr : rs.length ≠ 0) : valW n k b t p rs = none := by
  unfold valW
  rw [if_neg]
  rintro ⟨⟨-, -, -, -, -, h0, -⟩, -⟩
  exact hr (h0 hk)
theorem wr_moved {l m : List Nd} {d : Int} {f i : Nat} (hat : ∀ j, f ≤ j → j ≤ i → 0 ≤ (j : Int) + d ∧ atN m ((j : Int) + d).toNat = mvN d (atN l j)) (hok : ∀ j, f ≤ j → j ≤ i → okN l j (atN l j) ∧ f ≤ firstP l j) :
    ∀ j, f ≤ j → j ≤ i → ∀ v, wrV m ((j : Int) + d).toNat v = wrV l j v := by
  intro j
  induction j using Nat.strongRecOn with
  | ind j ih =>
    intro h1 h2 v
    obtain ⟨e0, e⟩ := hat j h1 h2
    obtain ⟨ho, hfj⟩ := hok j h1 h2
    unfold wrV
    rw [e, valW_mv]
    generalize hn : atN l j = n at e ho ⊢
    cases ho.cs hn with
    | leaf hk hf =>
      by_cases hz : v.kids.len = 0
      · rw [wrS_congr (m := l) (g := fun j => (kidN n v.pick j).toNat) (fun j hj => by omega)]
      · rw [valW_kids hk (by rw [wrS_length]; exact hz), valW_kids hk (by rw [wrS_length]; exact hz)]
    | one hk hi ha hb h7 hr hc hf =>
      have hfl := firstP_le l (j - 1)
      rw [wrS_congr (m := l) (g := fun j => (kidN n v.pick j).toNat) (fun q hq => ?_)]
      have e2 : (mvN d n).a = n.a + d := by unfold mvN; rw [if_pos hk]
      have e3 := mvN_kind d n
      have ek : kidN (mvN d n) v.pick q = ((j - 1 : Nat) : Int) + d := by unfold kidN; rw [e3, if_neg (by omega), e2]; omega
      have ek2 : (kidN n v.pick q).toNat = j - 1 := by unfold kidN; rw [if_neg (by omega)]; omega
      rw [ek, ek2]
      exact ih (j - 1) (by omega) (by omega) (by omega) _
    | two hk hi hb ha hf0 hl hc hf =>
      have hle := firstP_le l (j - 1)
      have hle2 := firstP_le l (firstP l (j - 1) - 1)
      rw [wrS_congr (m := l) (g := fun j => (kidN n v.pick j).toNat) (fun q hq => ?_)]
      have e2 : (mvN d n).a = n.a + d := by unfold mvN; rw [if_neg (by omega), if_pos hk]
      have e5 : (mvN d n).b = n.b + d := by unfold mvN; rw [if_neg (by omega), if_pos hk]
      have e3 := mvN_kind d n
      by_cases hc9 : n.kind = 4 ∧ q = 1 ∨ n.kind = 5 ∧ v.pick = 1
      · have ek : kidN (mvN d n) v.pick q = ((j - 1 : Nat) : Int) + d := by unfold kidN; rw [e3, if_pos hc9, e5]; omega
        have ek2 : (kidN n v.pick q).toNat = j - 1 := by unfold kidN; rw [if_pos hc9]; omega
        rw [ek, ek2]
        exact ih (j - 1) (by omega) (by omega) (by omega) _
      · have ek : kidN (mvN d n) v.pick q = ((firstP l (j - 1) - 1 : Nat) : Int) + d := by unfold kidN; rw [e3, if_neg hc9, e2]; omega
        have ek2 : (kidN n v.pick q).toNat = firstP l (j - 1) - 1 := by unfold kidN; rw [if_neg hc9]; omega
        rw [ek, ek2]
        exact ih (firstP l (j - 1) - 1) (by omega) (by omega) (by omega) _
/-- The description's own. -/
def wrD (l : List Nd) (v : Vl) : Option Wd := wrV l (l.length - 1) v
theorem wr_sub {l : List Nd} {i : Nat} (hi : i < l.length) (h : okTo l i) (v : Vl) : wrD (subL l i) v = wrV l i v := by
  have hle := firstP_le l i
  have hlen := subL_length hi
  have hin := first_in h
  have hat : ∀ j, firstP l i ≤ j → j ≤ i → 0 ≤ (j : Int) + -(firstP l i : Int) ∧ atN (subL l i) ((j : Int) + -(firstP l i : Int)).toNat = mvN (-(firstP l i : Int)) (atN l j) := fun j h1 h2 => by
    refine ⟨by omega, ?_⟩
    unfold subL
    rw [atN_map (by rw [seg_length (by omega)]; omega), seg_at (by omega)]
    congr 2; omega
  have := wr_moved hat (fun j h1 h2 => ⟨h j h2, hin j h1 h2⟩) i hle (Nat.le_refl i) v
  unfold wrD
  rw [hlen, show i + 1 - firstP l i - 1 = ((i : Int) + -(firstP l i : Int)).toNat by omega, this]
end Go.Proofs.Ytgdlbahfmddkaaa
/- Tokens of a text: what follows for whole texts. -/
namespace Go.Proofs.Ytgdlbahfmddkaaa
open Go
set_option linter.unusedVariables false

/-- What a read text is. -/
structure Whole (l : List UInt8) (p k : Nat) (r : List Tok) : Prop where
  ne : r ≠ []
  last : r.getLast? = some { kind := 10, at_ := p + l.length }
  low : ∀ t ∈ r, p + k ≤ t.at_
  kinds : ∀ t ∈ r.dropLast, 1 ≤ t.kind ∧ t.kind ≤ 9 ∧ t.at_ < p + l.length ∧ l.getD (t.at_ - p) 0 ≠ 32
  rise : r.Pairwise (fun a b => a.at_ < b.at_)
  gap : ∀ t, r.head? = some t → ∀ i, k ≤ i → p + i < t.at_ → l.getD i 0 = 32
end Go.Proofs.Ytgdlbahfmddkaaa
