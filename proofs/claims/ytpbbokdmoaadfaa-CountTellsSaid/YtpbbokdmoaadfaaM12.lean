/- What the statements ask of spans: plain mathematics. -/
import Derived.Test.YtpbbokdmoaadfaaM11
namespace Go.Proofs.Ytpbbokdmoaadfaa
open Go
set_option linter.unusedVariables false
set_option linter.unusedSimpArgs false
inductive Vs where
  | nil
  | cons (kind : Int) (byte : UInt8) (text : List UInt8) (pick : Int) (kids : Vs) (rest : Vs)
structure Vl where
  kind : Int
  byte : UInt8
  text : List UInt8
  pick : Int
  kids : Vs
def vl0 : Vl := ⟨0, 0, [], 0, .nil⟩
def Vs.list : Vs -> List Vl
  | .nil => []
  | .cons k b t p ks r => ⟨k, b, t, p, ks⟩ :: r.list
def Vs.of : List Vl -> Vs
  | [] => .nil
  | v :: vs => .cons v.kind v.byte v.text v.pick v.kids (Vs.of vs)
theorem Vs.of_list : ∀ s, Vs.of s.list = s
  | .nil => rfl
  | .cons k b t p ks r => by rw [Vs.list, Vs.of, Vs.of_list r]
theorem Vs.list_of : ∀ l, (Vs.of l).list = l
  | [] => rfl
  | v :: l => by rw [Vs.of, Vs.list, Vs.list_of l]
def Vs.len (s : Vs) : Nat := s.list.length
def Vs.at (s : Vs) (j : Nat) : Vl := s.list.getD j vl0
def cntVs : Vs -> Nat
  | .nil => 0
  | .cons _ _ _ _ ks r => 1 + cntVs ks + cntVs r
def cntV (v : Vl) : Nat := 1 + cntVs v.kids
theorem cntVs_at : ∀ (s : Vs) (j : Nat), j < s.len -> cntV (s.at j) <= cntVs s
  | .nil, j, h => absurd h (Nat.not_lt_zero j)
  | .cons k b t p ks r, 0, h => by show 1 + cntVs ks <= _; rw [cntVs]; omega
  | .cons k b t p ks r, j + 1, h => by
    have := cntVs_at r j (by unfold Vs.len at h ⊢; rw [Vs.list, List.length_cons] at h; omega)
    have e : (Vs.cons k b t p ks r).at (j + 1) = r.at j := rfl
    rw [e, cntVs]; omega
theorem cntVs_len : ∀ s : Vs, s.len <= cntVs s
  | .nil => Nat.le_refl _
  | .cons k b t p ks r => by
    have := cntVs_len r
    unfold Vs.len at this ⊢
    rw [Vs.list, List.length_cons, cntVs]; omega
theorem cntV_kid {v : Vl} {i : Nat} (h : i < v.kids.len) : cntV (v.kids.at i) < cntV v := by
  have := cntVs_at v.kids i h
  unfold cntV at this ⊢
  omega
theorem Vs.at_get {s : Vs} {i : Nat} (h : i < s.len) : s.list[i]? = some (s.at i) := by
  unfold Vs.at Vs.len at *
  rw [List.getD_eq_getElem?_getD, List.getElem?_eq_getElem h]; rfl
theorem Vs.mem_at {s : Vs} {v : Vl} (h : v ∈ s.list) : ∃ i, i < s.len /\ s.at i = v := by
  obtain ⟨i, hi, rfl⟩ := List.mem_iff_getElem.1 h
  exact ⟨i, hi, by unfold Vs.at; rw [List.getD_eq_getElem?_getD, List.getElem?_eq_getElem hi]; rfl⟩
theorem Vl.kids_ind {P : Vl -> Prop} (h : ∀ v, (∀ x ∈ v.kids.list, P x) -> P v) : ∀ v, P v := fun v => by
  generalize hn : cntV v = n
  induction n using Nat.strongRecOn generalizing v with
  | ind n ih =>
    refine h v (fun x hx => ?_)
    obtain ⟨i, hi, rfl⟩ := Vs.mem_at hx
    exact ih _ (by have := cntV_kid hi; omega) _ rfl
def kidN (n : Nd) (p : Int) (j : Nat) : Int := if n.kind = 4 /\ j = 1 \/ n.kind = 5 /\ p = 1 then n.b else n.a
def headV (n : Nd) (k : Int) (b : UInt8) (t : List UInt8) (p : Int) (c : Nat) : Prop :=
  k = n.kind /\ (n.kind ≠ 2 -> b = 0) /\ (n.kind = 2 -> n.cls.getLsbD b.toNat = true) /\ t = (if n.kind = 3 then n.text else []) /\ (p = 0 \/ (n.kind = 5 /\ p = 1)) /\
    (n.kind = 1 \/ n.kind = 2 \/ n.kind = 3 -> c = 0) /\ (n.kind = 4 -> c = 2) /\ (n.kind = 5 \/ n.kind = 8 \/ n.kind = 9 -> c = 1) /\ (n.kind = 7 -> n.lo <= (c : Int) /\ (c : Int) <= n.hi)
instance (n : Nd) (k : Int) (b : UInt8) (t : List UInt8) (p : Int) (c : Nat) : Decidable (headV n k b t p c) := by unfold headV; infer_instance
abbrev Wd := List UInt8
def catW : List (Option Wd) -> Option Wd
  | [] => some []
  | none :: _ => none
  | some w :: rs => (catW rs).map (w ++ ·)
def fullW (n : Nd) (rs : List (Option Wd)) : Prop := n.kind = 6 \/ n.kind = 7 -> some [] ∉ rs
instance (n : Nd) (rs : List (Option Wd)) : Decidable (fullW n rs) := by unfold fullW; infer_instance
def byU (n : Nat) : UInt8 := UInt8.ofNat n
def capW (n : Nd) (b : UInt8) (w : Wd) : Option Wd :=
  if n.kind = 2 then some [b] else if n.kind = 3 then some n.text
  else if n.kind = 8 then (if w.length <= 255 then some (byU w.length :: w) else none)
  else if n.kind = 9 then (if w.length <= 65535 then some (byU (w.length / 256) :: byU (w.length % 256) :: w) else none)
  else some w
def valW (n : Nd) (k : Int) (b : UInt8) (t : List UInt8) (p : Int) (rs : List (Option Wd)) : Option Wd :=
  if headV n k b t p rs.length /\ fullW n rs then (catW rs).bind (capW n b) else none
def wrS (l : List Nd) : (Nat -> Nat) -> Vs -> List (Option Wd)
  | _, .nil => []
  | f, .cons k b t p ks r => valW (atN l (f 0)) k b t p (wrS l (fun j => (kidN (atN l (f 0)) p j).toNat) ks) :: wrS l (fun j => f (j + 1)) r
def wrV (l : List Nd) (i : Nat) (v : Vl) : Option Wd := valW (atN l i) v.kind v.byte v.text v.pick (wrS l (fun j => (kidN (atN l i) v.pick j).toNat) v.kids)
theorem wrS_length (l : List Nd) : ∀ (f : Nat -> Nat) (s : Vs), (wrS l f s).length = s.len
  | f, .nil => rfl
  | f, .cons k b t p ks r => by
    have := wrS_length l (fun j => f (j + 1)) r
    unfold Vs.len at this ⊢
    rw [wrS, List.length_cons, this, Vs.list, List.length_cons]
theorem wrS_get (l : List Nd) : ∀ (f : Nat -> Nat) (s : Vs) (j : Nat), j < s.len -> (wrS l f s)[j]? = some (wrV l (f j) (s.at j))
  | f, .nil, j, h => absurd h (Nat.not_lt_zero j)
  | f, .cons k b t p ks r, 0, h => rfl
  | f, .cons k b t p ks r, j + 1, h => by
    rw [wrS, List.getElem?_cons_succ, wrS_get l _ r j (by unfold Vs.len at h ⊢; rw [Vs.list, List.length_cons] at h; omega)]; rfl
theorem wrS_eq {l : List Nd} {f : Nat -> Nat} {s : Vs} {rs : List (Option Wd)} (hl : rs.length = s.len) (h : ∀ j, j < s.len -> rs[j]? = some (wrV l (f j) (s.at j))) : wrS l f s = rs := by
  refine List.ext_getElem? (fun j => ?_)
  rcases Nat.lt_or_ge j s.len with hj | hj
  · rw [wrS_get l f s j hj, h j hj]
  · rw [List.getElem?_eq_none (by rw [wrS_length]; exact hj), List.getElem?_eq_none (by omega)]
theorem catW_some : ∀ {rs : List (Option Wd)} {w : Wd}, catW rs = some w -> ∀ r ∈ rs, ∃ x, r = some x
  | [], w, h, r, hr => by cases hr
  | none :: rs, w, h, r, hr => by cases h
  | some y :: rs, w, h, r, hr => by
    rw [catW] at h
    rcases hc : catW rs with _ | z
    · rw [hc] at h; cases h
    · rcases List.mem_cons.1 hr with e | e
      · exact ⟨y, e⟩
      · exact catW_some hc r e
theorem catW_all : ∀ (ws : List Wd), catW (ws.map some) = some ws.flatten
  | [] => rfl
  | w :: ws => by rw [List.map_cons, catW, catW_all ws]; rfl
theorem catW_iff {rs : List (Option Wd)} {w : Wd} : catW rs = some w ↔ ∃ ws : List Wd, rs = ws.map some /\ w = ws.flatten := by
  constructor
  · intro h
    have hs := catW_some h
    have : ∃ ws : List Wd, rs = ws.map some := by
      clear h
      induction rs with
      | nil => exact ⟨[], rfl⟩
      | cons r rs ih =>
        obtain ⟨x, rfl⟩ := hs r (by simp)
        obtain ⟨ws, rfl⟩ := ih (fun r hr => hs r (List.mem_cons_of_mem _ hr))
        exact ⟨x :: ws, rfl⟩
    obtain ⟨ws, rfl⟩ := this
    rw [catW_all] at h
    exact ⟨ws, rfl, by injection h with h; exact h.symm⟩
  · rintro ⟨ws, rfl, rfl⟩
    exact catW_all ws
theorem valW_some {n : Nd} {k : Int} {b : UInt8} {t : List UInt8} {p : Int} {rs : List (Option Wd)} {w : Wd} : valW n k b t p rs = some w ↔ headV n k b t p rs.length /\ fullW n rs /\ ∃ ws : List Wd, rs = ws.map some /\ capW n b ws.flatten = some w := by
  unfold valW
  constructor
  · intro h
    split at h
    · rename_i h1
      rcases hc : catW rs with _ | x
      · rw [hc] at h; cases h
      · rw [hc] at h
        obtain ⟨ws, e1, e2⟩ := catW_iff.1 hc
        exact ⟨h1.1, h1.2, ws, e1, by rw [<- e2]; exact h⟩
    · cases h
  · rintro ⟨h1, h2, ws, rfl, h3⟩
    rw [if_pos ⟨h1, h2⟩, catW_all]; exact h3
theorem wrV_some {l : List Nd} {i : Nat} {v : Vl} {w : Wd} (h : wrV l i v = some w) : headV (atN l i) v.kind v.byte v.text v.pick v.kids.len /\
    ∃ ws : List Wd, ws.length = v.kids.len /\ (∀ j, j < v.kids.len -> wrV l (kidN (atN l i) v.pick j).toNat (v.kids.at j) = some (ws.getD j [])) /\ ((atN l i).kind = 6 \/ (atN l i).kind = 7 -> ∀ x ∈ ws, x ≠ []) /\ capW (atN l i) v.byte ws.flatten = some w := by
  unfold wrV at h
  obtain ⟨h1, h2, ws, h3, h4⟩ := valW_some.1 h
  rw [wrS_length] at h1
  have hl : ws.length = v.kids.len := by rw [<- wrS_length l _ v.kids, h3, List.length_map]
  refine ⟨h1, ws, hl, fun j hj => ?_, fun hk x hx e => ?_, h4⟩
  · have := wrS_get l (fun j => (kidN (atN l i) v.pick j).toNat) v.kids j hj
    rw [h3, List.getElem?_map, List.getElem?_eq_getElem (by omega)] at this
    injection this with this
    rw [<- this, List.getD_eq_getElem?_getD, List.getElem?_eq_getElem (by omega)]; rfl
  · refine h2 hk ?_
    rw [h3, <- e]
    exact List.mem_map_of_mem hx
theorem wrV_of {l : List Nd} {i : Nat} {v : Vl} {w : Wd} {ws : List Wd} (h1 : headV (atN l i) v.kind v.byte v.text v.pick v.kids.len) (hl : ws.length = v.kids.len) (h : ∀ j, j < v.kids.len -> wrV l (kidN (atN l i) v.pick j).toNat (v.kids.at j) = some (ws.getD j []))
    (hf : (atN l i).kind = 6 \/ (atN l i).kind = 7 -> ∀ x ∈ ws, x ≠ []) (hc : capW (atN l i) v.byte ws.flatten = some w) : wrV l i v = some w := by
  unfold wrV
  rw [wrS_eq (rs := ws.map some) (by rw [List.length_map]; exact hl) (fun j hj => by
    rw [h j hj, List.getElem?_map, List.getElem?_eq_getElem (by omega), List.getD_eq_getElem?_getD, List.getElem?_eq_getElem (by omega)]; rfl)]
  refine valW_some.2 ⟨by rw [List.length_map, hl]; exact h1, fun hk hm => ?_, ws, rfl, hc⟩
  obtain ⟨x, hx, e⟩ := List.mem_map.1 hm
  injection e with e
  exact hf hk x hx e
def plainP (v : Vl) (k : Int) (b : UInt8) (t : List UInt8) (p : Int) (c : Nat) : Prop := v.kind = k /\ v.byte = b /\ v.text = t /\ v.pick = p /\ v.kids.len = c
instance (v : Vl) (k : Int) (b : UInt8) (t : List UInt8) (p : Int) (c : Nat) : Decidable (plainP v k b t p c) := by unfold plainP; infer_instance
theorem wr_none {l : List Nd} {i : Nat} {v : Vl} (h : ¬ headV (atN l i) v.kind v.byte v.text v.pick v.kids.len) : wrV l i v = none := by
  unfold wrV valW
  rw [if_neg (fun hh => h (by have := hh.1; rw [wrS_length] at this; exact this))]
theorem wr_kid_none {l : List Nd} {i : Nat} {v : Vl} {j : Nat} (hj : j < v.kids.len) (h : wrV l (kidN (atN l i) v.pick j).toNat (v.kids.at j) = none) : wrV l i v = none := by
  cases hw : wrV l i v with
  | none => rfl
  | some w =>
    obtain ⟨-, ws, -, hk, -⟩ := wrV_some hw
    rw [hk j hj] at h; cases h
section
variable {l : List Nd} {i : Nat} {v : Vl} {n : Nd} (hn : atN l i = n)
include hn
theorem wr_k1 (hk : n.kind = 1) : wrV l i v = if plainP v 1 0 [] 0 0 then some [] else none := by
  by_cases h : plainP v 1 0 [] 0 0
  · rw [if_pos h]
    obtain ⟨h1, h2, h3, h4, h5⟩ := h
    refine wrV_of (ws := []) (by rw [hn]; unfold headV; rw [hk]; simp [h1, h2, h3, h4, h5]) (by rw [h5]; rfl) (fun j hj => by omega) (fun _ x hx => by cases hx) ?_
    rw [hn]; unfold capW; simp [hk]
  · rw [if_neg h]
    refine wr_none (fun hh => h ?_)
    rw [hn] at hh
    unfold headV at hh
    obtain ⟨a1, a2, a3, a4, a5, a6, -⟩ := hh
    rw [if_neg (by omega)] at a4
    exact ⟨by omega, a2 (by omega), a4, by omega, a6 (by omega)⟩
theorem wr_k2 (hk : n.kind = 2) : wrV l i v = if plainP v 2 v.byte [] 0 0 /\ n.cls.getLsbD v.byte.toNat = true then some [v.byte] else none := by
  by_cases h : plainP v 2 v.byte [] 0 0 /\ n.cls.getLsbD v.byte.toNat = true
  · rw [if_pos h]
    obtain ⟨⟨h1, h2, h3, h4, h5⟩, h6⟩ := h
    refine wrV_of (ws := []) (by rw [hn]; unfold headV; rw [hk]; simp [h1, h3, h4, h5, h6]) (by rw [h5]; rfl) (fun j hj => by omega) (fun _ x hx => by cases hx) ?_
    rw [hn]; unfold capW; simp [hk]
  · rw [if_neg h]
    refine wr_none (fun hh => h ?_)
    rw [hn] at hh
    unfold headV at hh
    obtain ⟨a1, a2, a3, a4, a5, a6, -⟩ := hh
    rw [if_neg (by omega)] at a4
    exact ⟨⟨by omega, rfl, a4, by omega, a6 (by omega)⟩, a3 hk⟩
theorem wr_k3 (hk : n.kind = 3) : wrV l i v = if plainP v 3 0 n.text 0 0 then some n.text else none := by
  by_cases h : plainP v 3 0 n.text 0 0
  · rw [if_pos h]
    obtain ⟨h1, h2, h3, h4, h5⟩ := h
    refine wrV_of (ws := []) (by rw [hn]; unfold headV; rw [hk]; simp [h1, h2, h3, h4, h5]) (by rw [h5]; rfl) (fun j hj => by omega) (fun _ x hx => by cases hx) ?_
    rw [hn]; unfold capW; simp [hk]
  · rw [if_neg h]
    refine wr_none (fun hh => h ?_)
    rw [hn] at hh
    unfold headV at hh
    obtain ⟨a1, a2, a3, a4, a5, a6, -⟩ := hh
    rw [if_pos hk] at a4
    exact ⟨by omega, a2 (by omega), a4, by omega, a6 (by omega)⟩
def joinW : Option Wd -> Option Wd -> Option Wd
  | some x, some y => some (x ++ y)
  | _, _ => none
theorem wr_k4 (hk : n.kind = 4) : wrV l i v = if plainP v 4 0 [] 0 2 then joinW (wrV l n.a.toNat (v.kids.at 0)) (wrV l n.b.toNat (v.kids.at 1)) else none := by
  have k0 : ∀ p, kidN n p 0 = n.a := fun p => by unfold kidN; rw [if_neg (by omega)]
  have k1 : ∀ p, kidN n p 1 = n.b := fun p => by unfold kidN; rw [if_pos (.inl ⟨hk, rfl⟩)]
  by_cases h : plainP v 4 0 [] 0 2
  · rw [if_pos h]
    obtain ⟨h1, h2, h3, h4, h5⟩ := h
    cases hx : wrV l n.a.toNat (v.kids.at 0) with
    | none => exact wr_kid_none (j := 0) (by omega) (by rw [hn, k0]; exact hx)
    | some x =>
      cases hy : wrV l n.b.toNat (v.kids.at 1) with
      | none => exact wr_kid_none (j := 1) (by omega) (by rw [hn, k1]; exact hy)
      | some y =>
        refine wrV_of (ws := [x, y]) (by rw [hn]; unfold headV; rw [hk]; simp [h1, h2, h3, h4, h5]) (by rw [h5]; rfl) (fun j hj => ?_) (fun h => by rw [hn] at h; omega) ?_
        · rw [hn]
          rcases (by omega : j = 0 \/ j = 1) with rfl | rfl
          · rw [k0]; exact hx
          · rw [k1]; exact hy
        · rw [hn]; unfold capW; simp [hk]
  · rw [if_neg h]
    refine wr_none (fun hh => h ?_)
    rw [hn] at hh
    unfold headV at hh
    obtain ⟨a1, a2, a3, a4, a5, a6, a7, -⟩ := hh
    rw [if_neg (by omega)] at a4
    exact ⟨by omega, a2 (by omega), a4, by omega, a7 hk⟩
theorem wr_k5 (hk : n.kind = 5) : wrV l i v = if plainP v 5 0 [] 0 1 then wrV l n.a.toNat (v.kids.at 0) else if plainP v 5 0 [] 1 1 then wrV l n.b.toNat (v.kids.at 0) else none := by
  have key : ∀ (p : Int) (q : Nat), (p = 0 \/ p = 1) -> plainP v 5 0 [] p 1 -> (kidN n p 0).toNat = q -> wrV l i v = wrV l q (v.kids.at 0) := fun p q hp h hq => by
    obtain ⟨h1, h2, h3, h4, h5⟩ := h
    cases hx : wrV l q (v.kids.at 0) with
    | none => exact wr_kid_none (j := 0) (by omega) (by rw [hn, h4, hq]; exact hx)
    | some x =>
      refine wrV_of (ws := [x]) (by rw [hn]; unfold headV; rw [hk]; simp [h1, h2, h3, h4, h5, hp]) (by rw [h5]; rfl) (fun j hj => ?_) (fun h => by rw [hn] at h; omega) ?_
      · obtain rfl : j = 0 := by omega
        rw [hn, h4, hq]; exact hx
      · rw [hn]; unfold capW; simp [hk]
  by_cases h : plainP v 5 0 [] 0 1
  · rw [if_pos h]
    exact key 0 _ (.inl rfl) h (by unfold kidN; rw [if_neg (by omega)])
  · rw [if_neg h]
    by_cases h' : plainP v 5 0 [] 1 1
    · rw [if_pos h']
      exact key 1 _ (.inr rfl) h' (by unfold kidN; rw [if_pos (.inr ⟨hk, rfl⟩)])
    · rw [if_neg h']
      refine wr_none (fun hh => ?_)
      rw [hn] at hh
      unfold headV at hh
      obtain ⟨a1, a2, a3, a4, a5, a6, a7, a8, -⟩ := hh
      rw [if_neg (by omega)] at a4
      rcases a5 with a5 | ⟨-, a5⟩
      · exact h ⟨by omega, a2 (by omega), a4, a5, a8 (by omega)⟩
      · exact h' ⟨by omega, a2 (by omega), a4, a5, a8 (by omega)⟩
theorem wr_k67 (hk : n.kind = 6 \/ n.kind = 7) {ws : List Wd} (h : plainP v n.kind 0 [] 0 v.kids.len) (h7 : n.kind = 7 -> n.lo <= (v.kids.len : Int) /\ (v.kids.len : Int) <= n.hi) (hl : ws.length = v.kids.len) (hw : ∀ j, j < v.kids.len -> wrV l n.a.toNat (v.kids.at j) = some (ws.getD j [])) (hne : ∀ x ∈ ws, x ≠ []) : wrV l i v = some ws.flatten := by
  obtain ⟨h1, h2, h3, h4, -⟩ := h
  have hkd : ∀ p j, kidN n p j = n.a := fun p j => by unfold kidN; rw [if_neg (by omega)]
  refine wrV_of (ws := ws) (by rw [hn]; unfold headV; refine ⟨h1, fun _ => h2, fun h => by omega, by rw [if_neg (by omega)]; exact h3, .inl h4, fun h => by omega, fun h => by omega, fun h => by omega, h7⟩) hl (fun j hj => by rw [hn, hkd]; exact hw j hj) (fun _ => hne) ?_
  rw [hn]; unfold capW; rw [if_neg (by omega), if_neg (by omega), if_neg (by omega), if_neg (by omega)]
theorem wr_k67_no (hk : n.kind = 6 \/ n.kind = 7) (h : ¬ (plainP v n.kind 0 [] 0 v.kids.len /\ (n.kind = 7 -> n.lo <= (v.kids.len : Int) /\ (v.kids.len : Int) <= n.hi))) : wrV l i v = none := by
  refine wr_none (fun hh => h ?_)
  rw [hn] at hh
  unfold headV at hh
  obtain ⟨a1, a2, a3, a4, a5, a6, a7, a8, a9⟩ := hh
  rw [if_neg (by omega)] at a4
  exact ⟨⟨a1, a2 (by omega), a4, by omega, rfl⟩, a9⟩
def frmW (k : Int) : Option Wd -> Option Wd
  | none => none
  | some x => if k = 8 then (if x.length <= 255 then some (byU x.length :: x) else none) else (if x.length <= 65535 then some (byU (x.length / 256) :: byU (x.length % 256) :: x) else none)
theorem wr_k89 (hk : n.kind = 8 \/ n.kind = 9) : wrV l i v = if plainP v n.kind 0 [] 0 1 then frmW n.kind (wrV l n.a.toNat (v.kids.at 0)) else none := by
  have hkd : ∀ p j, kidN n p j = n.a := fun p j => by unfold kidN; rw [if_neg (by omega)]
  by_cases h : plainP v n.kind 0 [] 0 1
  · rw [if_pos h]
    obtain ⟨h1, h2, h3, h4, h5⟩ := h
    cases hx : wrV l n.a.toNat (v.kids.at 0) with
    | none => exact wr_kid_none (j := 0) (by omega) (by rw [hn, hkd]; exact hx)
    | some x =>
      have hcap : capW n v.byte [x].flatten = frmW n.kind (some x) := by
        unfold capW frmW
        simp only [List.flatten_cons, List.flatten_nil, List.append_nil]
        rw [if_neg (by omega), if_neg (by omega)]
        rcases hk with e | e
        · simp [e]
        · simp [e]
      cases hf : frmW n.kind (some x) with
      | none =>
        cases hw : wrV l i v with
        | none => rfl
        | some w =>
          exfalso
          obtain ⟨-, ws, hl, hkk, -, hc⟩ := wrV_some hw
          rw [hn] at hkk hc
          obtain ⟨y, rfl⟩ := List.length_eq_one_iff.1 (by rw [hl, h5] : ws.length = 1)
          have := hkk 0 (by omega)
          rw [hkd, hx] at this
          have : x = y := by simpa using this
          subst this
          rw [hcap, hf] at hc
          cases hc
      | some z =>
        refine wrV_of (ws := [x]) (by rw [hn]; unfold headV; refine ⟨h1, fun _ => h2, fun h => by omega, by rw [if_neg (by omega)]; exact h3, .inl h4, fun h => by omega, fun h => by omega, fun _ => h5, fun h => by omega⟩) (by rw [h5]; rfl) (fun j hj => ?_) (fun h => by rw [hn] at h; omega) ?_
        · obtain rfl : j = 0 := by omega
          rw [hn, hkd]; exact hx
        · rw [hn, hcap, hf]
  · rw [if_neg h]
    refine wr_none (fun hh => h ?_)
    rw [hn] at hh
    unfold headV at hh
    obtain ⟨a1, a2, a3, a4, a5, a6, a7, a8, -⟩ := hh
    rw [if_neg (by omega)] at a4
    exact ⟨a1, a2 (by omega), a4, by omega, a8 (by omega)⟩
end
theorem kind_range {l : List Nd} (hF : Form l) {i : Nat} (hi : i < l.length) : 1 <= (atN l i).kind /\ (atN l i).kind <= 9 := by
  obtain ⟨-, hk⟩ := hF.2.1 i hi
  omega
def runL (g : Wd -> List Vl) : Nat -> Wd -> List (List Vl)
  | 0, u => if u = [] then [[]] else []
  | f + 1, u => if u = [] then [[]] else (List.range u.length).flatMap fun k => (g (u.take (k + 1))).flatMap fun x => (runL g f (u.drop (k + 1))).map (x :: ·)
def vlsN (l : List Nd) : Nat -> Nat -> Wd -> List Vl
  | 0, _, _ => []
  | f + 1, i, u =>
    if (atN l i).kind = 1 then (if u = [] then [⟨1, 0, [], 0, .nil⟩] else [])
    else if (atN l i).kind = 2 then (if u.length = 1 /\ (atN l i).cls.getLsbD (u.getD 0 0).toNat = true then [⟨2, u.getD 0 0, [], 0, .nil⟩] else [])
    else if (atN l i).kind = 3 then (if u = (atN l i).text then [⟨3, 0, (atN l i).text, 0, .nil⟩] else [])
    else if (atN l i).kind = 4 then (List.range (u.length + 1)).flatMap fun k => (vlsN l f (atN l i).a.toNat (u.take k)).flatMap fun x => (vlsN l f (atN l i).b.toNat (u.drop k)).map fun y => ⟨4, 0, [], 0, Vs.of [x, y]⟩
    else if (atN l i).kind = 5 then (vlsN l f (atN l i).a.toNat u).map (fun x => ⟨5, 0, [], 0, Vs.of [x]⟩) ++ (vlsN l f (atN l i).b.toNat u).map (fun x => ⟨5, 0, [], 1, Vs.of [x]⟩)
    else if (atN l i).kind = 6 then (runL (vlsN l f (atN l i).a.toNat) u.length u).map fun xs => ⟨6, 0, [], 0, Vs.of xs⟩
    else if (atN l i).kind = 7 then ((runL (vlsN l f (atN l i).a.toNat) u.length u).filter fun xs => decide ((atN l i).lo <= (xs.length : Int) /\ (xs.length : Int) <= (atN l i).hi)).map fun xs => ⟨7, 0, [], 0, Vs.of xs⟩
    else if (atN l i).kind = 8 then (if 1 <= u.length /\ u.length - 1 <= 255 /\ u.getD 0 0 = byU (u.length - 1) then (vlsN l f (atN l i).a.toNat (u.drop 1)).map (fun x => ⟨8, 0, [], 0, Vs.of [x]⟩) else [])
    else if (atN l i).kind = 9 then (if 2 <= u.length /\ u.length - 2 <= 65535 /\ u.getD 0 0 = byU ((u.length - 2) / 256) /\ u.getD 1 0 = byU ((u.length - 2) % 256) then (vlsN l f (atN l i).a.toNat (u.drop 2)).map (fun x => ⟨9, 0, [], 0, Vs.of [x]⟩) else [])
    else []
theorem mem_runL {g : Wd -> List Vl} : ∀ (f : Nat) (u : Wd) (xs : List Vl), u.length <= f -> (xs ∈ runL g f u ↔ ∃ ws : List Wd, ws.length = xs.length /\ ws.flatten = u /\ (∀ j, j < xs.length -> xs.getD j vl0 ∈ g (ws.getD j [])) /\ ∀ w ∈ ws, w ≠ [])
  | f, u, xs, hf => by
    by_cases hu : u = []
    · have e : runL g f u = [[]] := by cases f <;> (unfold runL; rw [if_pos hu])
      rw [e, List.mem_singleton]
      constructor
      · rintro rfl
        exact ⟨[], rfl, by rw [hu]; rfl, fun j hj => absurd hj (Nat.not_lt_zero j), fun w hw => by cases hw⟩
      · rintro ⟨ws, h1, h2, -, h4⟩
        cases ws with
        | nil => exact List.length_eq_zero_iff.1 h1.symm
        | cons w ws =>
          exfalso
          rw [hu, List.flatten_cons] at h2
          exact h4 w (by simp) (List.append_eq_nil_iff.1 h2).1
    · cases f with
      | zero => exact absurd (List.length_eq_zero_iff.1 (by omega)) hu
      | succ f =>
        unfold runL
        rw [if_neg hu, List.mem_flatMap]
        constructor
        · rintro ⟨k, hk, hx⟩
          obtain ⟨x, hx1, hx2⟩ := List.mem_flatMap.1 hx
          obtain ⟨ys, hy1, rfl⟩ := List.mem_map.1 hx2
          have hkl := List.mem_range.1 hk
          obtain ⟨ws, h1, h2, h3, h4⟩ := (mem_runL f (u.drop (k + 1)) ys (by rw [List.length_drop]; omega)).1 hy1
          refine ⟨u.take (k + 1) :: ws, by simp [h1], by rw [List.flatten_cons, h2, List.take_append_drop], fun j hj => ?_, fun w hw => ?_⟩
          · cases j with
            | zero => exact hx1
            | succ j => exact h3 j (by simpa using hj)
          · rcases List.mem_cons.1 hw with e | e
            · intro e2
              rw [e2] at e
              have := congrArg List.length e
              rw [List.length_take] at this
              simp at this
              exact hu (List.length_eq_zero_iff.1 (by omega))
            · exact h4 w e
        · rintro ⟨ws, h1, h2, h3, h4⟩
          cases ws with
          | nil => exact absurd h2.symm hu
          | cons w ws =>
            cases xs with
            | nil => cases h1
            | cons x xs =>
              have hw := h4 w (by simp)
              have hwl : 0 < w.length := List.length_pos_iff.2 hw
              have hul : u.length = w.length + ws.flatten.length := by rw [<- h2, List.flatten_cons, List.length_append]
              have ht : u.take (w.length - 1 + 1) = w := by rw [show w.length - 1 + 1 = w.length by omega, <- h2, List.flatten_cons, List.take_left]
              have hd : u.drop (w.length - 1 + 1) = ws.flatten := by rw [show w.length - 1 + 1 = w.length by omega, <- h2, List.flatten_cons, List.drop_left]
              refine ⟨w.length - 1, List.mem_range.2 (by omega), List.mem_flatMap.2 ⟨x, ?_, List.mem_map.2 ⟨xs, ?_, rfl⟩⟩⟩
              · rw [ht]; exact h3 0 (by simp)
              · rw [hd]
                refine (mem_runL f _ _ (by omega)).2 ⟨ws, by simpa using h1, rfl, fun j hj => h3 (j + 1) (by simpa using hj), fun w' hw' => h4 w' (List.mem_cons_of_mem _ hw')⟩
theorem vs_nil {s : Vs} (h : s.len = 0) : s = .nil := by
  cases s with
  | nil => rfl
  | cons k b t p ks r => unfold Vs.len at h; rw [Vs.list, List.length_cons] at h; omega
theorem vs_one {s : Vs} (h : s.len = 1) : s = Vs.of [s.at 0] := by
  have e : s.list = [s.at 0] := by
    unfold Vs.len at h
    unfold Vs.at
    generalize s.list = r at *
    rcases r with _ | ⟨x, _ | ⟨y, r⟩⟩ <;> simp_all
  have := congrArg Vs.of e
  rwa [Vs.of_list] at this
theorem vs_two {s : Vs} (h : s.len = 2) : s = Vs.of [s.at 0, s.at 1] := by
  have e : s.list = [s.at 0, s.at 1] := by
    unfold Vs.len at h
    unfold Vs.at
    generalize s.list = r at *
    rcases r with _ | ⟨x, _ | ⟨y, _ | ⟨z, r⟩⟩⟩ <;> simp_all
  have := congrArg Vs.of e
  rwa [Vs.of_list] at this
theorem plain_is {v : Vl} {k : Int} {b : UInt8} {t : List UInt8} {p : Int} {c : Nat} (h : plainP v k b t p c) : v = ⟨k, b, t, p, v.kids⟩ := by
  obtain ⟨h1, h2, h3, h4, -⟩ := h
  obtain ⟨vk, vb, vt, vp, ks⟩ := v
  simp only at h1 h2 h3 h4
  rw [h1, h2, h3, h4]
section
variable {l : List Nd} {i : Nat} {u : Wd} {v : Vl} {A B : Wd -> List Vl}
theorem vl_k4 (hk : (atN l i).kind = 4) (hA : ∀ u v, v ∈ A u ↔ wrV l (atN l i).a.toNat v = some u) (hB : ∀ u v, v ∈ B u ↔ wrV l (atN l i).b.toNat v = some u) :
    v ∈ ((List.range (u.length + 1)).flatMap fun k => (A (u.take k)).flatMap fun x => (B (u.drop k)).map fun y => (⟨4, 0, [], 0, Vs.of [x, y]⟩ : Vl)) ↔ wrV l i v = some u := by
  rw [wr_k4 rfl hk]
  constructor
  · intro h
    obtain ⟨k, hk2, h⟩ := List.mem_flatMap.1 h
    obtain ⟨x, hx, h⟩ := List.mem_flatMap.1 h
    obtain ⟨y, hy, rfl⟩ := List.mem_map.1 h
    rw [if_pos ⟨rfl, rfl, rfl, rfl, rfl⟩]
    have e0 : (Vs.of [x, y]).at 0 = x := by unfold Vs.at; rw [Vs.list_of]; rfl
    have e1 : (Vs.of [x, y]).at 1 = y := by unfold Vs.at; rw [Vs.list_of]; rfl
    simp only [e0, e1]
    rw [(hA _ _).1 hx, (hB _ _).1 hy]
    unfold joinW
    simp only [List.take_append_drop]
  · intro h
    by_cases hp : plainP v 4 0 [] 0 2
    · rw [if_pos hp] at h
      cases hx : wrV l (atN l i).a.toNat (v.kids.at 0) with
      | none => rw [hx] at h; cases h
      | some x =>
        cases hy : wrV l (atN l i).b.toNat (v.kids.at 1) with
        | none => rw [hx, hy] at h; cases h
        | some y =>
          rw [hx, hy] at h
          have hu : x ++ y = u := Option.some.inj h
          refine List.mem_flatMap.2 ⟨x.length, List.mem_range.2 (by rw [<- hu, List.length_append]; omega), List.mem_flatMap.2 ⟨v.kids.at 0, ?_, List.mem_map.2 ⟨v.kids.at 1, ?_, ?_⟩⟩⟩
          · rw [hA, hx, <- hu, List.take_left]
          · rw [hB, hy, <- hu, List.drop_left]
          · rw [plain_is hp, <- vs_two hp.2.2.2.2]
    · rw [if_neg hp] at h; cases h
theorem vl_k5 (hk : (atN l i).kind = 5) (hA : ∀ u v, v ∈ A u ↔ wrV l (atN l i).a.toNat v = some u) (hB : ∀ u v, v ∈ B u ↔ wrV l (atN l i).b.toNat v = some u) :
    v ∈ ((A u).map (fun x => (⟨5, 0, [], 0, Vs.of [x]⟩ : Vl)) ++ (B u).map (fun x => (⟨5, 0, [], 1, Vs.of [x]⟩ : Vl))) ↔ wrV l i v = some u := by
  rw [wr_k5 rfl hk]
  have e0 : ∀ x, (Vs.of [x]).at 0 = x := fun x => by unfold Vs.at; rw [Vs.list_of]; rfl
  constructor
  · intro h
    rcases List.mem_append.1 h with h | h
    · obtain ⟨x, hx, rfl⟩ := List.mem_map.1 h
      rw [if_pos ⟨rfl, rfl, rfl, rfl, rfl⟩]
      simp only [e0]
      exact (hA _ _).1 hx
    · obtain ⟨x, hx, rfl⟩ := List.mem_map.1 h
      rw [if_neg (fun h => by have := h.2.2.2.1; simp at this), if_pos ⟨rfl, rfl, rfl, rfl, rfl⟩]
      simp only [e0]
      exact (hB _ _).1 hx
  · intro h
    by_cases hp : plainP v 5 0 [] 0 1
    · rw [if_pos hp] at h
      exact List.mem_append_left _ (List.mem_map.2 ⟨v.kids.at 0, (hA _ _).2 h, by rw [plain_is hp, <- vs_one hp.2.2.2.2]⟩)
    · rw [if_neg hp] at h
      by_cases hq : plainP v 5 0 [] 1 1
      · rw [if_pos hq] at h
        exact List.mem_append_right _ (List.mem_map.2 ⟨v.kids.at 0, (hB _ _).2 h, by rw [plain_is hq, <- vs_one hq.2.2.2.2]⟩)
      · rw [if_neg hq] at h; cases h
theorem vl_run (hk : (atN l i).kind = 6 \/ (atN l i).kind = 7) (hA : ∀ u v, v ∈ A u ↔ wrV l (atN l i).a.toNat v = some u) (h7 : (atN l i).kind = 7 -> (atN l i).lo <= (v.kids.len : Int) /\ (v.kids.len : Int) <= (atN l i).hi) (hp : plainP v (atN l i).kind 0 [] 0 v.kids.len) :
    v.kids.list ∈ runL A u.length u ↔ wrV l i v = some u := by
  rw [mem_runL _ _ _ (Nat.le_refl _)]
  have hgd : ∀ j, v.kids.list.getD j vl0 = v.kids.at j := fun j => rfl
  constructor
  · rintro ⟨ws, h1, h2, h3, h4⟩
    rw [<- h2]
    refine wr_k67 rfl hk hp h7 h1 (fun j hj => ?_) h4
    rw [<- hA, <- hgd]; exact h3 j hj
  · intro h
    obtain ⟨hh, ws, h1, h2, h3, h4⟩ := wrV_some h
    have hkd : ∀ j, kidN (atN l i) v.pick j = (atN l i).a := fun j => by unfold kidN; rw [if_neg (by omega)]
    unfold capW at h4
    rw [if_neg (by omega), if_neg (by omega), if_neg (by omega), if_neg (by omega)] at h4
    exact ⟨ws, h1, Option.some.inj h4, fun j hj => by
      rw [hgd, hA]
      have := h2 j hj
      rwa [hkd] at this, h3 hk⟩
theorem head_one {u : Wd} (h : 1 <= u.length) : u = u.getD 0 0 :: u.drop 1 := by
  cases u with
  | nil => simp at h
  | cons a u => rfl
theorem head_two {u : Wd} (h : 2 <= u.length) : u = u.getD 0 0 :: u.getD 1 0 :: u.drop 2 := by
  rcases u with _ | ⟨a, _ | ⟨b, u⟩⟩
  · simp at h
  · simp at h
  · rfl
theorem vl_k8 (hk : (atN l i).kind = 8) (hA : ∀ u v, v ∈ A u ↔ wrV l (atN l i).a.toNat v = some u) :
    v ∈ (if 1 <= u.length /\ u.length - 1 <= 255 /\ u.getD 0 0 = byU (u.length - 1) then (A (u.drop 1)).map (fun x => (⟨8, 0, [], 0, Vs.of [x]⟩ : Vl)) else []) ↔ wrV l i v = some u := by
  rw [wr_k89 rfl (.inl hk), hk]
  have e0 : ∀ x, (Vs.of [x]).at 0 = x := fun x => by unfold Vs.at; rw [Vs.list_of]; rfl
  constructor
  · intro h
    split at h
    · rename_i hc
      obtain ⟨x, hx, rfl⟩ := List.mem_map.1 h
      rw [if_pos ⟨rfl, rfl, rfl, rfl, rfl⟩]
      simp only [e0]
      rw [(hA _ _).1 hx]
      unfold frmW
      simp only [List.length_drop]
      rw [if_pos trivial, if_pos hc.2.1, <- hc.2.2, <- head_one hc.1]
    · cases h
  · intro h
    by_cases hp : plainP v 8 0 [] 0 1
    · rw [if_pos hp] at h
      cases hx : wrV l (atN l i).a.toNat (v.kids.at 0) with
      | none => rw [hx] at h; cases h
      | some x =>
        rw [hx] at h
        unfold frmW at h
        simp only at h
        rw [if_pos trivial] at h
        split at h
        · rename_i hc
          have hu : byU x.length :: x = u := Option.some.inj h
          subst hu
          rw [if_pos ⟨by simp, by simpa using hc, by simp⟩]
          exact List.mem_map.2 ⟨v.kids.at 0, by rw [hA, hx]; rfl, by rw [plain_is hp, <- vs_one hp.2.2.2.2]⟩
        · cases h
    · rw [if_neg hp] at h; cases h
theorem vl_k9 (hk : (atN l i).kind = 9) (hA : ∀ u v, v ∈ A u ↔ wrV l (atN l i).a.toNat v = some u) :
    v ∈ (if 2 <= u.length /\ u.length - 2 <= 65535 /\ u.getD 0 0 = byU ((u.length - 2) / 256) /\ u.getD 1 0 = byU ((u.length - 2) % 256) then (A (u.drop 2)).map (fun x => (⟨9, 0, [], 0, Vs.of [x]⟩ : Vl)) else []) ↔ wrV l i v = some u := by
  rw [wr_k89 rfl (.inr hk), hk]
  have e0 : ∀ x, (Vs.of [x]).at 0 = x := fun x => by unfold Vs.at; rw [Vs.list_of]; rfl
  constructor
  · intro h
    split at h
    · rename_i hc
      obtain ⟨x, hx, rfl⟩ := List.mem_map.1 h
      rw [if_pos ⟨rfl, rfl, rfl, rfl, rfl⟩]
      simp only [e0]
      rw [(hA _ _).1 hx]
      unfold frmW
      simp only [List.length_drop]
      rw [if_neg (by decide), if_pos hc.2.1, <- hc.2.2.1, <- hc.2.2.2, <- head_two hc.1]
    · cases h
  · intro h
    by_cases hp : plainP v 9 0 [] 0 1
    · rw [if_pos hp] at h
      cases hx : wrV l (atN l i).a.toNat (v.kids.at 0) with
      | none => rw [hx] at h; cases h
      | some x =>
        rw [hx] at h
        unfold frmW at h
        simp only at h
        rw [if_neg (by decide)] at h
        split at h
        · rename_i hc
          have hu : byU (x.length / 256) :: byU (x.length % 256) :: x = u := Option.some.inj h
          subst hu
          rw [if_pos ⟨by simp, by simpa using hc, by simp, by simp⟩]
          exact List.mem_map.2 ⟨v.kids.at 0, by rw [hA, hx]; rfl, by rw [plain_is hp, <- vs_one hp.2.2.2.2]⟩
        · cases h
    · rw [if_neg hp] at h; cases h
end
theorem mem_vls {l : List Nd} (hF : Form l) : ∀ (f i : Nat) (u : Wd) (v : Vl), i < l.length -> i < f -> (v ∈ vlsN l f i u ↔ wrV l i v = some u)
  | 0, i, u, v, _, h => absurd h (Nat.not_lt_zero i)
  | f + 1, i, u, v, hi, hif => by
    obtain ⟨n, hn⟩ : ∃ n, n = atN l i := ⟨_, rfl⟩
    have ho := hF.2.1 i hi
    rw [<- hn] at ho
    have hcs := ho.cs hn.symm
    have hA : (4 <= n.kind) -> n.a.toNat < i := fun hk => by
      cases hcs with
      | leaf h1 hf => unfold leafK at h1; omega
      | one h1 hi0 ha hb h7 hr hcl hf => omega
      | two h1 hi0 hb ha hf0 hl hcl hf => have := firstP_le l (i - 1); omega
    have hB : (n.kind = 4 \/ n.kind = 5) -> n.b.toNat < i := fun hk => by
      cases hcs with
      | leaf h1 hf => unfold leafK at h1; omega
      | one h1 hi0 ha hb h7 hr hcl hf => omega
      | two h1 hi0 hb ha hf0 hl hcl hf => omega
    have hMA : 4 <= n.kind -> ∀ u v, v ∈ vlsN l f n.a.toNat u ↔ wrV l n.a.toNat v = some u := fun hk u v => mem_vls hF f _ u v (by have := hA hk; omega) (by have := hA hk; omega)
    have hMB : (n.kind = 4 \/ n.kind = 5) -> ∀ u v, v ∈ vlsN l f n.b.toNat u ↔ wrV l n.b.toNat v = some u := fun hk u v => mem_vls hF f _ u v (by have := hB hk; omega) (by have := hB hk; omega)
    have hkr := kind_range hF hi
    rw [<- hn] at hkr
    unfold vlsN
    rw [<- hn]
    by_cases k1 : n.kind = 1
    · rw [if_pos k1, wr_k1 hn.symm k1]
      constructor
      · intro h
        split at h
        · rename_i hu
          rw [List.mem_singleton.1 h, if_pos ⟨rfl, rfl, rfl, rfl, rfl⟩, hu]
        · cases h
      · intro h
        by_cases hp : plainP v 1 0 [] 0 0
        · rw [if_pos hp] at h
          rw [if_pos (Option.some.inj h).symm, List.mem_singleton, plain_is hp, vs_nil hp.2.2.2.2]
        · rw [if_neg hp] at h; cases h
    rw [if_neg k1]
    by_cases k2 : n.kind = 2
    · rw [if_pos k2, wr_k2 hn.symm k2]
      constructor
      · intro h
        split at h
        · rename_i hu
          rw [List.mem_singleton.1 h, if_pos ⟨⟨rfl, rfl, rfl, rfl, rfl⟩, hu.2⟩]
          have := head_one (u := u) (by omega)
          rw [List.drop_of_length_le (by omega)] at this
          exact congrArg some this.symm
        · cases h
      · intro h
        by_cases hp : plainP v 2 v.byte [] 0 0 /\ n.cls.getLsbD v.byte.toNat = true
        · rw [if_pos hp] at h
          have hu : [v.byte] = u := Option.some.inj h
          subst hu
          rw [if_pos ⟨rfl, hp.2⟩, List.mem_singleton]
          conv => lhs; rw [plain_is hp.1, vs_nil hp.1.2.2.2.2]
          rfl
        · rw [if_neg hp] at h; cases h
    rw [if_neg k2]
    by_cases k3 : n.kind = 3
    · rw [if_pos k3, wr_k3 hn.symm k3]
      constructor
      · intro h
        split at h
        · rename_i hu
          rw [List.mem_singleton.1 h, if_pos ⟨rfl, rfl, rfl, rfl, rfl⟩, hu]
        · cases h
      · intro h
        by_cases hp : plainP v 3 0 n.text 0 0
        · rw [if_pos hp] at h
          rw [if_pos (Option.some.inj h).symm, List.mem_singleton]
          conv => lhs; rw [plain_is hp, vs_nil hp.2.2.2.2]
        · rw [if_neg hp] at h; cases h
    rw [if_neg k3]
    by_cases k4 : n.kind = 4
    · rw [if_pos k4]
      have hMA := hMA (by omega)
      have hMB := hMB (.inl k4)
      rw [hn] at hMA hMB k4 ⊢
      exact vl_k4 k4 hMA hMB
    rw [if_neg k4]
    by_cases k5 : n.kind = 5
    · rw [if_pos k5]
      have hMA := hMA (by omega)
      have hMB := hMB (.inr k5)
      rw [hn] at hMA hMB k5 ⊢
      exact vl_k5 k5 hMA hMB
    rw [if_neg k5]
    have hMA := hMA (by omega)
    by_cases k6 : n.kind = 6
    · rw [if_pos k6]
      rw [hn] at hMA k6 ⊢
      constructor
      · intro h
        obtain ⟨xs, hx, rfl⟩ := List.mem_map.1 h
        refine (vl_run (.inl k6) hMA (fun h => by omega) (by rw [k6]; exact ⟨rfl, rfl, rfl, rfl, rfl⟩)).1 ?_
        simp only [Vs.list_of]; exact hx
      · intro h
        have hp : plainP v (atN l i).kind 0 [] 0 v.kids.len := by
          by_cases hh : plainP v (atN l i).kind 0 [] 0 v.kids.len
          · exact hh
          · rw [wr_k67_no rfl (.inl k6) (fun h => hh h.1)] at h; cases h
        refine List.mem_map.2 ⟨v.kids.list, (vl_run (.inl k6) hMA (fun h => by omega) hp).2 h, ?_⟩
        rw [Vs.of_list]
        conv => rhs; rw [plain_is hp, k6]
    rw [if_neg k6]
    by_cases k7 : n.kind = 7
    · rw [if_pos k7]
      rw [hn] at hMA k7 ⊢
      constructor
      · intro h
        obtain ⟨xs, hx, rfl⟩ := List.mem_map.1 h
        obtain ⟨hx, hb⟩ := List.mem_filter.1 hx
        have hb := of_decide_eq_true hb
        have hln : (Vs.of xs).len = xs.length := by unfold Vs.len; rw [Vs.list_of]
        refine (vl_run (.inr k7) hMA (fun _ => by simp only [hln]; exact hb) (by rw [k7]; exact ⟨rfl, rfl, rfl, rfl, rfl⟩)).1 ?_
        simp only [Vs.list_of]; exact hx
      · intro h
        have hp : plainP v (atN l i).kind 0 [] 0 v.kids.len /\ ((atN l i).kind = 7 -> (atN l i).lo <= (v.kids.len : Int) /\ (v.kids.len : Int) <= (atN l i).hi) := by
          by_cases hh : plainP v (atN l i).kind 0 [] 0 v.kids.len /\ ((atN l i).kind = 7 -> (atN l i).lo <= (v.kids.len : Int) /\ (v.kids.len : Int) <= (atN l i).hi)
          · exact hh
          · rw [wr_k67_no rfl (.inr k7) hh] at h; cases h
        refine List.mem_map.2 ⟨v.kids.list, List.mem_filter.2 ⟨(vl_run (.inr k7) hMA hp.2 hp.1).2 h, decide_eq_true (hp.2 k7)⟩, ?_⟩
        rw [Vs.of_list]
        conv => rhs; rw [plain_is hp.1, k7]
    rw [if_neg k7]
    by_cases k8 : n.kind = 8
    · rw [if_pos k8]
      rw [hn] at hMA k8 ⊢
      exact vl_k8 k8 hMA
    rw [if_neg k8]
    have k9 : n.kind = 9 := by omega
    rw [if_pos k9]
    rw [hn] at hMA k9 ⊢
    exact vl_k9 k9 hMA
end Go.Proofs.Ytpbbokdmoaadfaa
