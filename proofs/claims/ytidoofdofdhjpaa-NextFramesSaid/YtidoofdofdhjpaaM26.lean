/- What a value writes, kind by kind: the plain mathematics. -/
import Derived.Test.YtidoofdofdhjpaaM25
namespace Go.Proofs.Ytidoofdofdhjpaa
open Go
set_option linter.unusedVariables false
set_option linter.unusedSimpArgs false
def plainP (v : Vl) (k : Int) (b : UInt8) (t : List UInt8) (p : Int) (c : Nat) : Prop := v.kind = k /\ v.byte = b /\ v.text = t /\ v.pick = p /\ v.kids.len = c
instance (v : Vl) (k : Int) (b : UInt8) (t : List UInt8) (p : Int) (c : Nat) : Decidable (plainP v k b t p c) := by unfold plainP; infer_instance
theorem wr_none {l : List Nd} {i : Nat} {v : Vl} (h : ¬ headV (atN l i) v.kind v.byte v.text v.pick v.kids.len) : wrV l i v = none := by
 unfold wrV valW
 rw [if_neg (fun hh => h (by have := hh.1; rw [wrS_length] at this; exact this))]
theorem wr_kid_none {l : List Nd} {i : Nat} {v : Vl} {j : Nat} (hj : j < v.kids.len) (h : wrV l (kidN (atN l i) v.pick j).toNat (v.kids.at j) = none) : wrV l i v = none := by
 cases hw : wrV l i v with
 | none => rfl
 | some w =>
  obtain ⟨-, ws, -, hk, -⟩ := wrV_some hw
  rw [hk j hj] at h; cases h
section
variable {l : List Nd} {i : Nat} {v : Vl} {n : Nd} (hn : atN l i = n)
include hn
theorem wr_k1 (hk : n.kind = 1) : wrV l i v = if plainP v 1 0 [] 0 0 then some [] else none := by
 by_cases h : plainP v 1 0 [] 0 0
 ·rw [if_pos h]
  obtain ⟨h1, h2, h3, h4, h5⟩ := h
  refine wrV_of (ws := []) (by rw [hn]; unfold headV; rw [hk]; simp [h1, h2, h3, h4, h5]) (by rw [h5]; rfl) (fun j hj => by omega) (fun _ x hx => by cases hx) ?_
  rw [hn]; unfold capW; simp [hk]
 ·rw [if_neg h]
  refine wr_none (fun hh => h ?_)
  rw [hn] at hh
  unfold headV at hh
  obtain ⟨a1, a2, a3, a4, a5, a6, -⟩ := hh
  rw [if_neg (by omega)] at a4
  exact ⟨by omega, a2 (by omega), a4, by omega, a6 (by omega)⟩
theorem wr_k2 (hk : n.kind = 2) : wrV l i v = if plainP v 2 v.byte [] 0 0 /\ n.cls.getLsbD v.byte.toNat = true then some [v.byte] else none := by
 by_cases h : plainP v 2 v.byte [] 0 0 /\ n.cls.getLsbD v.byte.toNat = true
 ·rw [if_pos h]
  obtain ⟨⟨h1, h2, h3, h4, h5⟩, h6⟩ := h
  refine wrV_of (ws := []) (by rw [hn]; unfold headV; rw [hk]; simp [h1, h3, h4, h5, h6]) (by rw [h5]; rfl) (fun j hj => by omega) (fun _ x hx => by cases hx) ?_
  rw [hn]; unfold capW; simp [hk]
 ·rw [if_neg h]
  refine wr_none (fun hh => h ?_)
  rw [hn] at hh
  unfold headV at hh
  obtain ⟨a1, a2, a3, a4, a5, a6, -⟩ := hh
  rw [if_neg (by omega)] at a4
  exact ⟨⟨by omega, rfl, a4, by omega, a6 (by omega)⟩, a3 hk⟩
theorem wr_k3 (hk : n.kind = 3) : wrV l i v = if plainP v 3 0 n.text 0 0 then some n.text else none := by
 by_cases h : plainP v 3 0 n.text 0 0
 ·rw [if_pos h]
  obtain ⟨h1, h2, h3, h4, h5⟩ := h
  refine wrV_of (ws := []) (by rw [hn]; unfold headV; rw [hk]; simp [h1, h2, h3, h4, h5]) (by rw [h5]; rfl) (fun j hj => by omega) (fun _ x hx => by cases hx) ?_
  rw [hn]; unfold capW; simp [hk]
 ·rw [if_neg h]
  refine wr_none (fun hh => h ?_)
  rw [hn] at hh
  unfold headV at hh
  obtain ⟨a1, a2, a3, a4, a5, a6, -⟩ := hh
  rw [if_pos hk] at a4
  exact ⟨by omega, a2 (by omega), a4, by omega, a6 (by omega)⟩
def joinW : Option Wd -> Option Wd -> Option Wd
 | some x, some y => some (x ++ y)
 | _, _ => none
theorem wr_k4 (hk : n.kind = 4) : wrV l i v = if plainP v 4 0 [] 0 2 then joinW (wrV l n.a.toNat (v.kids.at 0)) (wrV l n.b.toNat (v.kids.at 1)) else none := by
 have k0 : ∀ p, kidN n p 0 = n.a := fun p => by unfold kidN; rw [if_neg (by omega)]
 have k1 : ∀ p, kidN n p 1 = n.b := fun p => by unfold kidN; rw [if_pos (.inl ⟨hk, rfl⟩)]
 by_cases h : plainP v 4 0 [] 0 2
 ·rw [if_pos h]
  obtain ⟨h1, h2, h3, h4, h5⟩ := h
  cases hx : wrV l n.a.toNat (v.kids.at 0) with
  | none => exact wr_kid_none (j := 0) (by omega) (by rw [hn, k0]; exact hx)
  | some x =>
   cases hy : wrV l n.b.toNat (v.kids.at 1) with
   | none => exact wr_kid_none (j := 1) (by omega) (by rw [hn, k1]; exact hy)
   | some y =>
    refine wrV_of (ws := [x, y]) (by rw [hn]; unfold headV; rw [hk]; simp [h1, h2, h3, h4, h5]) (by rw [h5]; rfl) (fun j hj => ?_) (fun h => by rw [hn] at h; omega) ?_
    ·rw [hn]
     rcases (by omega : j = 0 \/ j = 1) with rfl | rfl
     ·rw [k0]; exact hx
     ·rw [k1]; exact hy
    ·rw [hn]; unfold capW; simp [hk]
 ·rw [if_neg h]
  refine wr_none (fun hh => h ?_)
  rw [hn] at hh
  unfold headV at hh
  obtain ⟨a1, a2, a3, a4, a5, a6, a7, -⟩ := hh
  rw [if_neg (by omega)] at a4
  exact ⟨by omega, a2 (by omega), a4, by omega, a7 hk⟩
theorem wr_k5 (hk : n.kind = 5) : wrV l i v = if plainP v 5 0 [] 0 1 then wrV l n.a.toNat (v.kids.at 0) else if plainP v 5 0 [] 1 1 then wrV l n.b.toNat (v.kids.at 0) else none := by
 have key : ∀ (p : Int) (q : Nat), (p = 0 \/ p = 1) -> plainP v 5 0 [] p 1 -> (kidN n p 0).toNat = q -> wrV l i v = wrV l q (v.kids.at 0) := fun p q hp h hq => by
  obtain ⟨h1, h2, h3, h4, h5⟩ := h
  cases hx : wrV l q (v.kids.at 0) with
  | none => exact wr_kid_none (j := 0) (by omega) (by rw [hn, h4, hq]; exact hx)
  | some x =>
   refine wrV_of (ws := [x]) (by rw [hn]; unfold headV; rw [hk]; simp [h1, h2, h3, h4, h5, hp]) (by rw [h5]; rfl) (fun j hj => ?_) (fun h => by rw [hn] at h; omega) ?_
   ·obtain rfl : j = 0 := by omega
    rw [hn, h4, hq]; exact hx
   ·rw [hn]; unfold capW; simp [hk]
 by_cases h : plainP v 5 0 [] 0 1
 ·rw [if_pos h]
  exact key 0 _ (.inl rfl) h (by unfold kidN; rw [if_neg (by omega)])
 ·rw [if_neg h]
  by_cases h' : plainP v 5 0 [] 1 1
  ·rw [if_pos h']
   exact key 1 _ (.inr rfl) h' (by unfold kidN; rw [if_pos (.inr ⟨hk, rfl⟩)])
  ·rw [if_neg h']
   refine wr_none (fun hh => ?_)
   rw [hn] at hh
   unfold headV at hh
   obtain ⟨a1, a2, a3, a4, a5, a6, a7, a8, -⟩ := hh
   rw [if_neg (by omega)] at a4
   rcases a5 with a5 | ⟨-, a5⟩
   ·exact h ⟨by omega, a2 (by omega), a4, a5, a8 (by omega)⟩
   ·exact h' ⟨by omega, a2 (by omega), a4, a5, a8 (by omega)⟩
theorem wr_k67 (hk : n.kind = 6 \/ n.kind = 7) {ws : List Wd} (h : plainP v n.kind 0 [] 0 v.kids.len) (h7 : n.kind = 7 -> n.lo <= (v.kids.len : Int) /\ (v.kids.len : Int) <= n.hi) (hl : ws.length = v.kids.len) (hw : ∀ j, j < v.kids.len -> wrV l n.a.toNat (v.kids.at j) = some (ws.getD j [])) (hne : ∀ x ∈ ws, x ≠ []) : wrV l i v = some ws.flatten := by
 obtain ⟨h1, h2, h3, h4, -⟩ := h
 have hkd : ∀ p j, kidN n p j = n.a := fun p j => by unfold kidN; rw [if_neg (by omega)]
 refine wrV_of (ws := ws) (by rw [hn]; unfold headV; refine ⟨h1, fun _ => h2, fun h => by omega, by rw [if_neg (by omega)]; exact h3, .inl h4, fun h => by omega, fun h => by omega, fun h => by omega, h7⟩) hl (fun j hj => by rw [hn, hkd]; exact hw j hj) (fun _ => hne) ?_
 rw [hn]; unfold capW; rw [if_neg (by omega), if_neg (by omega), if_neg (by omega), if_neg (by omega)]
theorem wr_k67_no (hk : n.kind = 6 \/ n.kind = 7) (h : ¬ (plainP v n.kind 0 [] 0 v.kids.len /\ (n.kind = 7 -> n.lo <= (v.kids.len : Int) /\ (v.kids.len : Int) <= n.hi))) : wrV l i v = none := by
 refine wr_none (fun hh => h ?_)
 rw [hn] at hh
 unfold headV at hh
 obtain ⟨a1, a2, a3, a4, a5, a6, a7, a8, a9⟩ := hh
 rw [if_neg (by omega)] at a4
 exact ⟨⟨a1, a2 (by omega), a4, by omega, rfl⟩, a9⟩
def frmW (k : Int) : Option Wd -> Option Wd
 | none => none
 | some x => if k = 8 then (if x.length <= 255 then some (byU x.length :: x) else none) else (if x.length <= 65535 then some (byU (x.length / 256) :: byU (x.length % 256) :: x) else none)
theorem wr_k89 (hk : n.kind = 8 \/ n.kind = 9) : wrV l i v = if plainP v n.kind 0 [] 0 1 then frmW n.kind (wrV l n.a.toNat (v.kids.at 0)) else none := by
 have hkd : ∀ p j, kidN n p j = n.a := fun p j => by unfold kidN; rw [if_neg (by omega)]
 by_cases h : plainP v n.kind 0 [] 0 1
 ·rw [if_pos h]
  obtain ⟨h1, h2, h3, h4, h5⟩ := h
  cases hx : wrV l n.a.toNat (v.kids.at 0) with
  | none => exact wr_kid_none (j := 0) (by omega) (by rw [hn, hkd]; exact hx)
  | some x =>
   have hcap : capW n v.byte [x].flatten = frmW n.kind (some x) := by
    unfold capW frmW
    simp only [List.flatten_cons, List.flatten_nil, List.append_nil]
    rw [if_neg (by omega), if_neg (by omega)]
    rcases hk with e | e
    ·simp [e]
    ·simp [e]
   cases hf : frmW n.kind (some x) with
   | none =>
    cases hw : wrV l i v with
    | none => rfl
    | some w =>
     exfalso
     obtain ⟨-, ws, hl, hkk, -, hc⟩ := wrV_some hw
     rw [hn] at hkk hc
     obtain ⟨y, rfl⟩ := List.length_eq_one_iff.1 (by rw [hl, h5] : ws.length = 1)
     have := hkk 0 (by omega)
     rw [hkd, hx] at this
     have : x = y := by simpa using this
     subst this
     rw [hcap, hf] at hc
     cases hc
   | some z =>
    refine wrV_of (ws := [x]) (by rw [hn]; unfold headV; refine ⟨h1, fun _ => h2, fun h => by omega, by rw [if_neg (by omega)]; exact h3, .inl h4, fun h => by omega, fun h => by omega, fun _ => h5, fun h => by omega⟩) (by rw [h5]; rfl) (fun j hj => ?_) (fun h => by rw [hn] at h; omega) ?_
    ·obtain rfl : j = 0 := by omega
     rw [hn, hkd]; exact hx
    ·rw [hn, hcap, hf]
 ·rw [if_neg h]
  refine wr_none (fun hh => h ?_)
  rw [hn] at hh
  unfold headV at hh
  obtain ⟨a1, a2, a3, a4, a5, a6, a7, a8, -⟩ := hh
  rw [if_neg (by omega)] at a4
  exact ⟨a1, a2 (by omega), a4, by omega, a8 (by omega)⟩
end
theorem kind_range {l : List Nd} (hF : Form l) {i : Nat} (hi : i < l.length) : 1 <= (atN l i).kind /\ (atN l i).kind <= 9 := by
 obtain ⟨-, hk⟩ := hF.2.1 i hi
 omega
def runL (g : Wd -> List Vl) : Nat -> Wd -> List (List Vl)
 | 0, u => if u = [] then [[]] else []
 | f + 1, u => if u = [] then [[]] else (List.range u.length).flatMap fun k => (g (u.take (k + 1))).flatMap fun x => (runL g f (u.drop (k + 1))).map (x :: ·)
def vlsN (l : List Nd) : Nat -> Nat -> Wd -> List Vl
 | 0, _, _ => []
 | f + 1, i, u =>
  if (atN l i).kind = 1 then (if u = [] then [⟨1, 0, [], 0, .nil⟩] else [])
  else if (atN l i).kind = 2 then (if u.length = 1 /\ (atN l i).cls.getLsbD (u.getD 0 0).toNat = true then [⟨2, u.getD 0 0, [], 0, .nil⟩] else [])
  else if (atN l i).kind = 3 then (if u = (atN l i).text then [⟨3, 0, (atN l i).text, 0, .nil⟩] else [])
  else if (atN l i).kind = 4 then (List.range (u.length + 1)).flatMap fun k => (vlsN l f (atN l i).a.toNat (u.take k)).flatMap fun x => (vlsN l f (atN l i).b.toNat (u.drop k)).map fun y => ⟨4, 0, [], 0, Vs.of [x, y]⟩
  else if (atN l i).kind = 5 then (vlsN l f (atN l i).a.toNat u).map (fun x => ⟨5, 0, [], 0, Vs.of [x]⟩) ++ (vlsN l f (atN l i).b.toNat u).map (fun x => ⟨5, 0, [], 1, Vs.of [x]⟩)
  else if (atN l i).kind = 6 then (runL (vlsN l f (atN l i).a.toNat) u.length u).map fun xs => ⟨6, 0, [], 0, Vs.of xs⟩
  else if (atN l i).kind = 7 then ((runL (vlsN l f (atN l i).a.toNat) u.length u).filter fun xs => decide ((atN l i).lo <= (xs.length : Int) /\ (xs.length : Int) <= (atN l i).hi)).map fun xs => ⟨7, 0, [], 0, Vs.of xs⟩
  else if (atN l i).kind = 8 then (if 1 <= u.length /\ u.length - 1 <= 255 /\ u.getD 0 0 = byU (u.length - 1) then (vlsN l f (atN l i).a.toNat (u.drop 1)).map (fun x => ⟨8, 0, [], 0, Vs.of [x]⟩) else [])
  else if (atN l i).kind = 9 then (if 2 <= u.length /\ u.length - 2 <= 65535 /\ u.getD 0 0 = byU ((u.length - 2) / 256) /\ u.getD 1 0 = byU ((u.length - 2) % 256) then (vlsN l f (atN l i).a.toNat (u.drop 2)).map (fun x => ⟨9, 0, [], 0, Vs.of [x]⟩) else [])
  else []
theorem mem_runL {g : Wd -> List Vl} : ∀ (f : Nat) (u : Wd) (xs : List Vl), u.length <= f -> (xs ∈ runL g f u ↔ ∃ ws : List Wd, ws.length = xs.length /\ ws.flatten = u /\ (∀ j, j < xs.length -> xs.getD j vl0 ∈ g (ws.getD j [])) /\ ∀ w ∈ ws, w ≠ [])
 | f, u, xs, hf => by
  by_cases hu : u = []
  ·have e : runL g f u = [[]] := by cases f <;> (unfold runL; rw [if_pos hu])
   rw [e, List.mem_singleton]
   constructor
   ·rintro rfl
    exact ⟨[], rfl, by rw [hu]; rfl, fun j hj => absurd hj (Nat.not_lt_zero j), fun w hw => by cases hw⟩
   ·rintro ⟨ws, h1, h2, -, h4⟩
    cases ws with
    | nil => exact List.length_eq_zero_iff.1 h1.symm
    | cons w ws =>
     exfalso
     rw [hu, List.flatten_cons] at h2
     exact h4 w (by simp) (List.append_eq_nil_iff.1 h2).1
  ·cases f with
   | zero => exact absurd (List.length_eq_zero_iff.1 (by omega)) hu
   | succ f =>
    unfold runL
    rw [if_neg hu, List.mem_flatMap]
    constructor
    ·rintro ⟨k, hk, hx⟩
     obtain ⟨x, hx1, hx2⟩ := List.mem_flatMap.1 hx
     obtain ⟨ys, hy1, rfl⟩ := List.mem_map.1 hx2
     have hkl := List.mem_range.1 hk
     obtain ⟨ws, h1, h2, h3, h4⟩ := (mem_runL f (u.drop (k + 1)) ys (by rw [List.length_drop]; omega)).1 hy1
     refine ⟨u.take (k + 1) :: ws, by simp [h1], by rw [List.flatten_cons, h2, List.take_append_drop], fun j hj => ?_, fun w hw => ?_⟩
     ·cases j with
      | zero => exact hx1
      | succ j => exact h3 j (by simpa using hj)
     ·rcases List.mem_cons.1 hw with e | e
      ·intro e2
       rw [e2] at e
       have := congrArg List.length e
       rw [List.length_take] at this
       simp at this
       exact hu (List.length_eq_zero_iff.1 (by omega))
      ·exact h4 w e
    ·rintro ⟨ws, h1, h2, h3, h4⟩
     cases ws with
     | nil => exact absurd h2.symm hu
     | cons w ws =>
      cases xs with
      | nil => cases h1
      | cons x xs =>
       have hw := h4 w (by simp)
       have hwl : 0 < w.length := List.length_pos_iff.2 hw
       have hul : u.length = w.length + ws.flatten.length := by rw [<- h2, List.flatten_cons, List.length_append]
       have ht : u.take (w.length - 1 + 1) = w := by rw [show w.length - 1 + 1 = w.length by omega, <- h2, List.flatten_cons, List.take_left]
       have hd : u.drop (w.length - 1 + 1) = ws.flatten := by rw [show w.length - 1 + 1 = w.length by omega, <- h2, List.flatten_cons, List.drop_left]
       refine ⟨w.length - 1, List.mem_range.2 (by omega), List.mem_flatMap.2 ⟨x, ?_, List.mem_map.2 ⟨xs, ?_, rfl⟩⟩⟩
       ·rw [ht]; exact h3 0 (by simp)
       ·rw [hd]
        refine (mem_runL f _ _ (by omega)).2 ⟨ws, by simpa using h1, rfl, fun j hj => h3 (j + 1) (by simpa using hj), fun w' hw' => h4 w' (List.mem_cons_of_mem _ hw')⟩
theorem vs_nil {s : Vs} (h : s.len = 0) : s = .nil := by
 cases s with
 | nil => rfl
 | cons k b t p ks r => unfold Vs.len at h; rw [Vs.list, List.length_cons] at h; omega
theorem vs_one {s : Vs} (h : s.len = 1) : s = Vs.of [s.at 0] := by
 have e : s.list = [s.at 0] := by
  unfold Vs.len at h
  unfold Vs.at
  generalize s.list = r at *
  rcases r with _ | ⟨x, _ | ⟨y, r⟩⟩ <;> simp_all
 have := congrArg Vs.of e
 rwa [Vs.of_list] at this
theorem vs_two {s : Vs} (h : s.len = 2) : s = Vs.of [s.at 0, s.at 1] := by
 have e : s.list = [s.at 0, s.at 1] := by
  unfold Vs.len at h
  unfold Vs.at
  generalize s.list = r at *
  rcases r with _ | ⟨x, _ | ⟨y, _ | ⟨z, r⟩⟩⟩ <;> simp_all
 have := congrArg Vs.of e
 rwa [Vs.of_list] at this
theorem plain_is {v : Vl} {k : Int} {b : UInt8} {t : List UInt8} {p : Int} {c : Nat} (h : plainP v k b t p c) : v = ⟨k, b, t, p, v.kids⟩ := by
 obtain ⟨h1, h2, h3, h4, -⟩ := h
 obtain ⟨vk, vb, vt, vp, ks⟩ := v
 simp only at h1 h2 h3 h4
 rw [h1, h2, h3, h4]
section
variable {l : List Nd} {i : Nat} {u : Wd} {v : Vl} {A B : Wd -> List Vl}
theorem vl_k4 (hk : (atN l i).kind = 4) (hA : ∀ u v, v ∈ A u ↔ wrV l (atN l i).a.toNat v = some u) (hB : ∀ u v, v ∈ B u ↔ wrV l (atN l i).b.toNat v = some u) :
 v ∈ ((List.range (u.length + 1)).flatMap fun k => (A (u.take k)).flatMap fun x => (B (u.drop k)).map fun y => (⟨4, 0, [], 0, Vs.of [x, y]⟩ : Vl)) ↔ wrV l i v = some u := by
 rw [wr_k4 rfl hk]
 constructor
 ·intro h
  obtain ⟨k, hk2, h⟩ := List.mem_flatMap.1 h
  obtain ⟨x, hx, h⟩ := List.mem_flatMap.1 h
  obtain ⟨y, hy, rfl⟩ := List.mem_map.1 h
  rw [if_pos ⟨rfl, rfl, rfl, rfl, rfl⟩]
  have e0 : (Vs.of [x, y]).at 0 = x := by unfold Vs.at; rw [Vs.list_of]; rfl
  have e1 : (Vs.of [x, y]).at 1 = y := by unfold Vs.at; rw [Vs.list_of]; rfl
  simp only [e0, e1]
  rw [(hA _ _).1 hx, (hB _ _).1 hy]
  unfold joinW
  simp only [List.take_append_drop]
 ·intro h
  by_cases hp : plainP v 4 0 [] 0 2
  ·rw [if_pos hp] at h
   cases hx : wrV l (atN l i).a.toNat (v.kids.at 0) with
   | none => rw [hx] at h; cases h
   | some x =>
    cases hy : wrV l (atN l i).b.toNat (v.kids.at 1) with
    | none => rw [hx, hy] at h; cases h
    | some y =>
     rw [hx, hy] at h
     have hu : x ++ y = u := Option.some.inj h
     refine List.mem_flatMap.2 ⟨x.length, List.mem_range.2 (by rw [<- hu, List.length_append]; omega), List.mem_flatMap.2 ⟨v.kids.at 0, ?_, List.mem_map.2 ⟨v.kids.at 1, ?_, ?_⟩⟩⟩
     ·rw [hA, hx, <- hu, List.take_left]
     ·rw [hB, hy, <- hu, List.drop_left]
     ·rw [plain_is hp, <- vs_two hp.2.2.2.2]
  ·rw [if_neg hp] at h; cases h
theorem vl_k5 (hk : (atN l i).kind = 5) (hA : ∀ u v, v ∈ A u ↔ wrV l (atN l i).a.toNat v = some u) (hB : ∀ u v, v ∈ B u ↔ wrV l (atN l i).b.toNat v = some u) :
 v ∈ ((A u).map (fun x => (⟨5, 0, [], 0, Vs.of [x]⟩ : Vl)) ++ (B u).map (fun x => (⟨5, 0, [], 1, Vs.of [x]⟩ : Vl))) ↔ wrV l i v = some u := by
 rw [wr_k5 rfl hk]
 have e0 : ∀ x, (Vs.of [x]).at 0 = x := fun x => by unfold Vs.at; rw [Vs.list_of]; rfl
 constructor
 ·intro h
  rcases List.mem_append.1 h with h | h
  ·obtain ⟨x, hx, rfl⟩ := List.mem_map.1 h
   rw [if_pos ⟨rfl, rfl, rfl, rfl, rfl⟩]
   simp only [e0]
   exact (hA _ _).1 hx
  ·obtain ⟨x, hx, rfl⟩ := List.mem_map.1 h
   rw [if_neg (fun h => by have := h.2.2.2.1; simp at this), if_pos ⟨rfl, rfl, rfl, rfl, rfl⟩]
   simp only [e0]
   exact (hB _ _).1 hx
 ·intro h
  by_cases hp : plainP v 5 0 [] 0 1
  ·rw [if_pos hp] at h
   exact List.mem_append_left _ (List.mem_map.2 ⟨v.kids.at 0, (hA _ _).2 h, by rw [plain_is hp, <- vs_one hp.2.2.2.2]⟩)
  ·rw [if_neg hp] at h
   by_cases hq : plainP v 5 0 [] 1 1
   ·rw [if_pos hq] at h
    exact List.mem_append_right _ (List.mem_map.2 ⟨v.kids.at 0, (hB _ _).2 h, by rw [plain_is hq, <- vs_one hq.2.2.2.2]⟩)
   ·rw [if_neg hq] at h; cases h
theorem vl_run (hk : (atN l i).kind = 6 \/ (atN l i).kind = 7) (hA : ∀ u v, v ∈ A u ↔ wrV l (atN l i).a.toNat v = some u) (h7 : (atN l i).kind = 7 -> (atN l i).lo <= (v.kids.len : Int) /\ (v.kids.len : Int) <= (atN l i).hi) (hp : plainP v (atN l i).kind 0 [] 0 v.kids.len) :
 v.kids.list ∈ runL A u.length u ↔ wrV l i v = some u := by
 rw [mem_runL _ _ _ (Nat.le_refl _)]
 have hgd : ∀ j, v.kids.list.getD j vl0 = v.kids.at j := fun j => rfl
 constructor
 ·rintro ⟨ws, h1, h2, h3, h4⟩
  rw [<- h2]
  refine wr_k67 rfl hk hp h7 h1 (fun j hj => ?_) h4
  rw [<- hA, <- hgd]; exact h3 j hj
 ·intro h
  obtain ⟨hh, ws, h1, h2, h3, h4⟩ := wrV_some h
  have hkd : ∀ j, kidN (atN l i) v.pick j = (atN l i).a := fun j => by unfold kidN; rw [if_neg (by omega)]
  unfold capW at h4
  rw [if_neg (by omega), if_neg (by omega), if_neg (by omega), if_neg (by omega)] at h4
  exact ⟨ws, h1, Option.some.inj h4, fun j hj => by
   rw [hgd, hA]
   have := h2 j hj
   rwa [hkd] at this, h3 hk⟩
theorem head_one {u : Wd} (h : 1 <= u.length) : u = u.getD 0 0 :: u.drop 1 := by
 cases u with
 | nil => simp at h
 | cons a u => rfl
theorem head_two {u : Wd} (h : 2 <= u.length) : u = u.getD 0 0 :: u.getD 1 0 :: u.drop 2 := by
 rcases u with _ | ⟨a, _ | ⟨b, u⟩⟩
 ·simp at h
 ·simp at h
 ·rfl
theorem vl_k8 (hk : (atN l i).kind = 8) (hA : ∀ u v, v ∈ A u ↔ wrV l (atN l i).a.toNat v = some u) :
 v ∈ (if 1 <= u.length /\ u.length - 1 <= 255 /\ u.getD 0 0 = byU (u.length - 1) then (A (u.drop 1)).map (fun x => (⟨8, 0, [], 0, Vs.of [x]⟩ : Vl)) else []) ↔ wrV l i v = some u := by
 rw [wr_k89 rfl (.inl hk), hk]
 have e0 : ∀ x, (Vs.of [x]).at 0 = x := fun x => by unfold Vs.at; rw [Vs.list_of]; rfl
 constructor
 ·intro h
  split at h
  ·rename_i hc
   obtain ⟨x, hx, rfl⟩ := List.mem_map.1 h
   rw [if_pos ⟨rfl, rfl, rfl, rfl, rfl⟩]
   simp only [e0]
   rw [(hA _ _).1 hx]
   unfold frmW
   simp only [List.length_drop]
   rw [if_pos trivial, if_pos hc.2.1, <- hc.2.2, <- head_one hc.1]
  ·cases h
 ·intro h
  by_cases hp : plainP v 8 0 [] 0 1
  ·rw [if_pos hp] at h
   cases hx : wrV l (atN l i).a.toNat (v.kids.at 0) with
   | none => rw [hx] at h; cases h
   | some x =>
    rw [hx] at h
    unfold frmW at h
    simp only at h
    rw [if_pos trivial] at h
    split at h
    ·rename_i hc
     have hu : byU x.length :: x = u := Option.some.inj h
     subst hu
     rw [if_pos ⟨by simp, by simpa using hc, by simp⟩]
     exact List.mem_map.2 ⟨v.kids.at 0, by rw [hA, hx]; rfl, by rw [plain_is hp, <- vs_one hp.2.2.2.2]⟩
    ·cases h
  ·rw [if_neg hp] at h; cases h
theorem vl_k9 (hk : (atN l i).kind = 9) (hA : ∀ u v, v ∈ A u ↔ wrV l (atN l i).a.toNat v = some u) :
 v ∈ (if 2 <= u.length /\ u.length - 2 <= 65535 /\ u.getD 0 0 = byU ((u.length - 2) / 256) /\ u.getD 1 0 = byU ((u.length - 2) % 256) then (A (u.drop 2)).map (fun x => (⟨9, 0, [], 0, Vs.of [x]⟩ : Vl)) else []) ↔ wrV l i v = some u := by
 rw [wr_k89 rfl (.inr hk), hk]
 have e0 : ∀ x, (Vs.of [x]).at 0 = x := fun x => by unfold Vs.at; rw [Vs.list_of]; rfl
 constructor
 ·intro h
  split at h
  ·rename_i hc
   obtain ⟨x, hx, rfl⟩ := List.mem_map.1 h
   rw [if_pos ⟨rfl, rfl, rfl, rfl, rfl⟩]
   simp only [e0]
   rw [(hA _ _).1 hx]
   unfold frmW
   simp only [List.length_drop]
   rw [if_neg (by decide), if_pos hc.2.1, <- hc.2.2.1, <- hc.2.2.2, <- head_two hc.1]
  ·cases h
 ·intro h
  by_cases hp : plainP v 9 0 [] 0 1
  ·rw [if_pos hp] at h
   cases hx : wrV l (atN l i).a.toNat (v.kids.at 0) with
   | none => rw [hx] at h; cases h
   | some x =>
    rw [hx] at h
    unfold frmW at h
    simp only at h
    rw [if_neg (by decide)] at h
    split at h
    ·rename_i hc
     have hu : byU (x.length / 256) :: byU (x.length % 256) :: x = u := Option.some.inj h
     subst hu
     rw [if_pos ⟨by simp, by simpa using hc, by simp, by simp⟩]
     exact List.mem_map.2 ⟨v.kids.at 0, by rw [hA, hx]; rfl, by rw [plain_is hp, <- vs_one hp.2.2.2.2]⟩
    ·cases h
  ·rw [if_neg hp] at h; cases h
end
theorem mem_vls {l : List Nd} (hF : Form l) : ∀ (f i : Nat) (u : Wd) (v : Vl), i < l.length -> i < f -> (v ∈ vlsN l f i u ↔ wrV l i v = some u)
 | 0, i, u, v, _, h => absurd h (Nat.not_lt_zero i)
 | f + 1, i, u, v, hi, hif => by
  obtain ⟨n, hn⟩ : ∃ n, n = atN l i := ⟨_, rfl⟩
  have ho := hF.2.1 i hi
  rw [<- hn] at ho
  have hcs := ho.cs hn.symm
  have hA : (4 <= n.kind) -> n.a.toNat < i := fun hk => by
   cases hcs with
   | leaf h1 hf => unfold leafK at h1; omega
   | one h1 hi0 ha hb h7 hr hcl hf => omega
   | two h1 hi0 hb ha hf0 hl hcl hf => have := firstP_le l (i - 1); omega
  have hB : (n.kind = 4 \/ n.kind = 5) -> n.b.toNat < i := fun hk => by
   cases hcs with
   | leaf h1 hf => unfold leafK at h1; omega
   | one h1 hi0 ha hb h7 hr hcl hf => omega
   | two h1 hi0 hb ha hf0 hl hcl hf => omega
  have hMA : 4 <= n.kind -> ∀ u v, v ∈ vlsN l f n.a.toNat u ↔ wrV l n.a.toNat v = some u := fun hk u v => mem_vls hF f _ u v (by have := hA hk; omega) (by have := hA hk; omega)
  have hMB : (n.kind = 4 \/ n.kind = 5) -> ∀ u v, v ∈ vlsN l f n.b.toNat u ↔ wrV l n.b.toNat v = some u := fun hk u v => mem_vls hF f _ u v (by have := hB hk; omega) (by have := hB hk; omega)
  have hkr := kind_range hF hi
  rw [<- hn] at hkr
  unfold vlsN
  rw [<- hn]
  by_cases k1 : n.kind = 1
  ·rw [if_pos k1, wr_k1 hn.symm k1]
   constructor
   ·intro h
    split at h
    ·rename_i hu
     rw [List.mem_singleton.1 h, if_pos ⟨rfl, rfl, rfl, rfl, rfl⟩, hu]
    ·cases h
   ·intro h
    by_cases hp : plainP v 1 0 [] 0 0
    ·rw [if_pos hp] at h
     rw [if_pos (Option.some.inj h).symm, List.mem_singleton, plain_is hp, vs_nil hp.2.2.2.2]
    ·rw [if_neg hp] at h; cases h
  rw [if_neg k1]
  by_cases k2 : n.kind = 2
  ·rw [if_pos k2, wr_k2 hn.symm k2]
   constructor
   ·intro h
    split at h
    ·rename_i hu
     rw [List.mem_singleton.1 h, if_pos ⟨⟨rfl, rfl, rfl, rfl, rfl⟩, hu.2⟩]
     have := head_one (u := u) (by omega)
     rw [List.drop_of_length_le (by omega)] at this
     exact congrArg some this.symm
    ·cases h
   ·intro h
    by_cases hp : plainP v 2 v.byte [] 0 0 /\ n.cls.getLsbD v.byte.toNat = true
    ·rw [if_pos hp] at h
     have hu : [v.byte] = u := Option.some.inj h
     subst hu
     rw [if_pos ⟨rfl, hp.2⟩, List.mem_singleton]
     conv => lhs; rw [plain_is hp.1, vs_nil hp.1.2.2.2.2]
     rfl
    ·rw [if_neg hp] at h; cases h
  rw [if_neg k2]
  by_cases k3 : n.kind = 3
  ·rw [if_pos k3, wr_k3 hn.symm k3]
   constructor
   ·intro h
    split at h
    ·rename_i hu
     rw [List.mem_singleton.1 h, if_pos ⟨rfl, rfl, rfl, rfl, rfl⟩, hu]
    ·cases h
   ·intro h
    by_cases hp : plainP v 3 0 n.text 0 0
    ·rw [if_pos hp] at h
     rw [if_pos (Option.some.inj h).symm, List.mem_singleton]
     conv => lhs; rw [plain_is hp, vs_nil hp.2.2.2.2]
    ·rw [if_neg hp] at h; cases h
  rw [if_neg k3]
  by_cases k4 : n.kind = 4
  ·rw [if_pos k4]
   have hMA := hMA (by omega)
   have hMB := hMB (.inl k4)
   rw [hn] at hMA hMB k4 ⊢
   exact vl_k4 k4 hMA hMB
  rw [if_neg k4]
  by_cases k5 : n.kind = 5
  ·rw [if_pos k5]
   have hMA := hMA (by omega)
   have hMB := hMB (.inr k5)
   rw [hn] at hMA hMB k5 ⊢
   exact vl_k5 k5 hMA hMB
  rw [if_neg k5]
  have hMA := hMA (by omega)
  by_cases k6 : n.kind = 6
  ·rw [if_pos k6]
   rw [hn] at hMA k6 ⊢
   constructor
   ·intro h
    obtain ⟨xs, hx, rfl⟩ := List.mem_map.1 h
    refine (vl_run (.inl k6) hMA (fun h => by omega) (by rw [k6]; exact ⟨rfl, rfl, rfl, rfl, rfl⟩)).1 ?_
    simp only [Vs.list_of]; exact hx
   ·intro h
    have hp : plainP v (atN l i).kind 0 [] 0 v.kids.len := by
     by_cases hh : plainP v (atN l i).kind 0 [] 0 v.kids.len
     ·exact hh
     ·rw [wr_k67_no rfl (.inl k6) (fun h => hh h.1)] at h; cases h
    refine List.mem_map.2 ⟨v.kids.list, (vl_run (.inl k6) hMA (fun h => by omega) hp).2 h, ?_⟩
    rw [Vs.of_list]
    conv => rhs; rw [plain_is hp, k6]
  rw [if_neg k6]
  by_cases k7 : n.kind = 7
  ·rw [if_pos k7]
   rw [hn] at hMA k7 ⊢
   constructor
   ·intro h
    obtain ⟨xs, hx, rfl⟩ := List.mem_map.1 h
    obtain ⟨hx, hb⟩ := List.mem_filter.1 hx
    have hb := of_decide_eq_true hb
    have hln : (Vs.of xs).len = xs.length := by unfold Vs.len; rw [Vs.list_of]
    refine (vl_run (.inr k7) hMA (fun _ => by simp only [hln]; exact hb) (by rw [k7]; exact ⟨rfl, rfl, rfl, rfl, rfl⟩)).1 ?_
    simp only [Vs.list_of]; exact hx
   ·intro h
    have hp : plainP v (atN l i).kind 0 [] 0 v.kids.len /\ ((atN l i).kind = 7 -> (atN l i).lo <= (v.kids.len : Int) /\ (v.kids.len : Int) <= (atN l i).hi) := by
     by_cases hh : plainP v (atN l i).kind 0 [] 0 v.kids.len /\ ((atN l i).kind = 7 -> (atN l i).lo <= (v.kids.len : Int) /\ (v.kids.len : Int) <= (atN l i).hi)
     ·exact hh
     ·rw [wr_k67_no rfl (.inr k7) hh] at h; cases h
    refine List.mem_map.2 ⟨v.kids.list, List.mem_filter.2 ⟨(vl_run (.inr k7) hMA hp.2 hp.1).2 h, decide_eq_true (hp.2 k7)⟩, ?_⟩
    rw [Vs.of_list]
    conv => rhs; rw [plain_is hp.1, k7]
  rw [if_neg k7]
  by_cases k8 : n.kind = 8
  ·rw [if_pos k8]
   rw [hn] at hMA k8 ⊢
   exact vl_k8 k8 hMA
  rw [if_neg k8]
  have k9 : n.kind = 9 := by omega
  rw [if_pos k9]
  rw [hn] at hMA k9 ⊢
  exact vl_k9 k9 hMA
theorem nodup_fm {α β : Type} {l : List α} {f : α -> List β} (hl : l.Nodup) (h : ∀ a ∈ l, (f a).Nodup) (hx : ∀ a ∈ l, ∀ b ∈ l, ∀ y, y ∈ f a -> y ∈ f b -> a = b) : (l.flatMap f).Nodup := by
 unfold List.Nodup
 rw [List.pairwise_flatMap]
 refine ⟨h, List.Pairwise.imp_of_mem (R := fun a b => a ≠ b) ?_ hl⟩
 intro a b ha hb hab x hx1 y hy1 he
 subst he
 exact hab (hx a ha b hb x hx1 hy1)
theorem nodup_mp {α β : Type} {l : List α} {f : α -> β} (hl : l.Nodup) (hx : ∀ a ∈ l, ∀ b ∈ l, f a = f b -> a = b) : (l.map f).Nodup := by
 unfold List.Nodup
 rw [List.pairwise_map]
 refine List.Pairwise.imp_of_mem (R := fun a b => a ≠ b) ?_ hl
 intro a b ha hb hab he
 exact hab (hx a ha b hb he)
theorem nodup_fl {α : Type} {l : List α} {p : α -> Bool} (hl : l.Nodup) : (l.filter p).Nodup := List.Pairwise.filter p hl
theorem nodup_ap {α : Type} {a b : List α} (ha : a.Nodup) (hb : b.Nodup) (h : ∀ x, x ∈ a -> x ∈ b -> False) : (a ++ b).Nodup := by
 unfold List.Nodup
 rw [List.pairwise_append]
 exact ⟨ha, hb, fun x hx y hy he => h x hx (he ▸ hy)⟩
theorem of_inj {a b : List Vl} (h : Vs.of a = Vs.of b) : a = b := by
 have := congrArg Vs.list h
 rwa [Vs.list_of, Vs.list_of] at this
theorem take_inj {u : Wd} {j k : Nat} (hj : j <= u.length) (hk : k <= u.length) (h : u.take j = u.take k) : j = k := by
 have := congrArg List.length h
 rw [List.length_take, List.length_take] at this; omega
theorem nodup_runL {g : Wd -> List Vl} (hg : ∀ u, (g u).Nodup) (hd : ∀ x u u', x ∈ g u -> x ∈ g u' -> u = u') : ∀ (f : Nat) (u : Wd), (runL g f u).Nodup
 | 0, u => by
  unfold runL; split
  ·exact List.pairwise_singleton _ _
  ·exact List.Pairwise.nil
 | f + 1, u => by
  unfold runL; split
  ·exact List.pairwise_singleton _ _
  ·refine nodup_fm List.nodup_range (fun k hk => nodup_fm (hg _) (fun x hx => nodup_mp (nodup_runL hg hd f _) (fun a _ b _ he => (List.cons.inj he).2)) ?_) ?_
   ·intro a ha b hb y hy1 hy2
    obtain ⟨xs, _, rfl⟩ := List.mem_map.1 hy1
    obtain ⟨ys, _, h⟩ := List.mem_map.1 hy2
    exact ((List.cons.inj h).1).symm
   ·intro j hj k hk y hy1 hy2
    obtain ⟨a, ha, hy1⟩ := List.mem_flatMap.1 hy1
    obtain ⟨b, hb, hy2⟩ := List.mem_flatMap.1 hy2
    obtain ⟨xs, _, rfl⟩ := List.mem_map.1 hy1
    obtain ⟨ys, _, h⟩ := List.mem_map.1 hy2
    obtain rfl := (List.cons.inj h).1
    have hj := List.mem_range.1 hj
    have hk := List.mem_range.1 hk
    have := take_inj (by omega) (by omega) (hd _ _ _ ha hb)
    omega
theorem nodup_vls {l : List Nd} (hF : Form l) : ∀ (f i : Nat) (u : Wd), i < l.length -> i < f -> (vlsN l f i u).Nodup
 | 0, i, u, _, h => absurd h (Nat.not_lt_zero i)
 | f + 1, i, u, hi, hif => by
  obtain ⟨n, hn⟩ : ∃ n, n = atN l i := ⟨_, rfl⟩
  have ho := hF.2.1 i hi
  rw [<- hn] at ho
  have hcs := ho.cs hn.symm
  have hA : (4 <= n.kind) -> n.a.toNat < i := fun hk => by
   cases hcs with
   | leaf h1 hf => unfold leafK at h1; omega
   | one h1 hi0 ha hb h7 hr hcl hf => omega
   | two h1 hi0 hb ha hf0 hl hcl hf => have := firstP_le l (i - 1); omega
  have hB : (n.kind = 4 \/ n.kind = 5) -> n.b.toNat < i := fun hk => by
   cases hcs with
   | leaf h1 hf => unfold leafK at h1; omega
   | one h1 hi0 ha hb h7 hr hcl hf => omega
   | two h1 hi0 hb ha hf0 hl hcl hf => omega
  have hNA : 4 <= n.kind -> ∀ u, (vlsN l f n.a.toNat u).Nodup := fun hk u => nodup_vls hF f _ u (by have := hA hk; omega) (by have := hA hk; omega)
  have hNB : (n.kind = 4 \/ n.kind = 5) -> ∀ u, (vlsN l f n.b.toNat u).Nodup := fun hk u => nodup_vls hF f _ u (by have := hB hk; omega) (by have := hB hk; omega)
  have hDA : 4 <= n.kind -> ∀ x u u', x ∈ vlsN l f n.a.toNat u -> x ∈ vlsN l f n.a.toNat u' -> u = u' := fun hk x u u' h h' => by
   have e1 := (mem_vls hF f _ u x (by have := hA hk; omega) (by have := hA hk; omega)).1 h
   have e2 := (mem_vls hF f _ u' x (by have := hA hk; omega) (by have := hA hk; omega)).1 h'
   exact Option.some.inj (e1.symm.trans e2)
  have one : ∀ v : Vl, List.Nodup [v] := fun v => List.pairwise_singleton _ _
  have ofx : ∀ {k : Int} {x y : Vl} {p : Int}, (⟨k, 0, [], p, Vs.of [x]⟩ : Vl) = ⟨k, 0, [], p, Vs.of [y]⟩ -> x = y := fun h => (List.cons.inj (of_inj (Vl.mk.inj h).2.2.2.2)).1
  have ofs : ∀ {k : Int} {x y : List Vl} {p : Int}, (⟨k, 0, [], p, Vs.of x⟩ : Vl) = ⟨k, 0, [], p, Vs.of y⟩ -> x = y := fun h => of_inj (Vl.mk.inj h).2.2.2.2
  unfold vlsN
  rw [<- hn]
  by_cases k1 : n.kind = 1
  ·rw [if_pos k1]; split
   ·exact one _
   ·exact List.Pairwise.nil
  rw [if_neg k1]
  by_cases k2 : n.kind = 2
  ·rw [if_pos k2]; split
   ·exact one _
   ·exact List.Pairwise.nil
  rw [if_neg k2]
  by_cases k3 : n.kind = 3
  ·rw [if_pos k3]; split
   ·exact one _
   ·exact List.Pairwise.nil
  rw [if_neg k3]
  by_cases k4 : n.kind = 4
  ·rw [if_pos k4]
   have h4 : 4 <= n.kind := by omega
   refine nodup_fm List.nodup_range (fun k hk => nodup_fm (hNA h4 _) (fun x hx => nodup_mp (hNB (.inl k4) _) ?_) ?_) ?_
   ·intro a _ b _ he
    exact (List.cons.inj (List.cons.inj (of_inj (Vl.mk.inj he).2.2.2.2)).2).1
   ·intro a ha b hb y hy1 hy2
    obtain ⟨x, _, rfl⟩ := List.mem_map.1 hy1
    obtain ⟨z, _, he⟩ := List.mem_map.1 hy2
    exact ((List.cons.inj (of_inj (Vl.mk.inj he).2.2.2.2)).1).symm
   ·intro j hj k hk y hy1 hy2
    obtain ⟨a, ha, hy1⟩ := List.mem_flatMap.1 hy1
    obtain ⟨b, hb, hy2⟩ := List.mem_flatMap.1 hy2
    obtain ⟨x, _, rfl⟩ := List.mem_map.1 hy1
    obtain ⟨z, _, he⟩ := List.mem_map.1 hy2
    obtain rfl := (List.cons.inj (of_inj (Vl.mk.inj he).2.2.2.2)).1
    have hj := List.mem_range.1 hj
    have hk := List.mem_range.1 hk
    exact take_inj (by omega) (by omega) (hDA h4 _ _ _ ha hb)
  rw [if_neg k4]
  by_cases k5 : n.kind = 5
  ·rw [if_pos k5]
   refine nodup_ap (nodup_mp (hNA (by omega) _) fun a _ b _ he => ofx he) (nodup_mp (hNB (.inr k5) _) fun a _ b _ he => ofx he) ?_
   intro v h1 h2
   obtain ⟨x, _, rfl⟩ := List.mem_map.1 h1
   obtain ⟨y, _, he⟩ := List.mem_map.1 h2
   exact absurd (Vl.mk.inj he).2.2.2.1 (by decide)
  rw [if_neg k5]
  by_cases k6 : n.kind = 6
  ·rw [if_pos k6]
   exact nodup_mp (nodup_runL (hNA (by omega)) (hDA (by omega)) _ _) fun a _ b _ he => ofs he
  rw [if_neg k6]
  by_cases k7 : n.kind = 7
  ·rw [if_pos k7]
   exact nodup_mp (nodup_fl (nodup_runL (hNA (by omega)) (hDA (by omega)) _ _)) fun a _ b _ he => ofs he
  rw [if_neg k7]
  by_cases k8 : n.kind = 8
  ·rw [if_pos k8]; split
   ·exact nodup_mp (hNA (by omega) _) fun a _ b _ he => ofx he
   ·exact List.Pairwise.nil
  rw [if_neg k8]
  by_cases k9 : n.kind = 9
  ·rw [if_pos k9]; split
   ·exact nodup_mp (hNA (by omega) _) fun a _ b _ he => ofx he
   ·exact List.Pairwise.nil
  rw [if_neg k9]
  exact List.Pairwise.nil
def runT (g : Wd -> List Vl) (t : Nat) (u : Wd) : List (List Vl) := (runL g u.length u).filter fun xs => decide (xs.length = t)
theorem mem_runT {g : Wd -> List Vl} {t : Nat} {u : Wd} {xs : List Vl} : xs ∈ runT g t u ↔ xs.length = t /\ ∃ ws : List Wd, ws.length = xs.length /\ ws.flatten = u /\ (∀ j, j < xs.length -> xs.getD j vl0 ∈ g (ws.getD j [])) /\ ∀ w ∈ ws, w ≠ [] := by
 unfold runT
 rw [List.mem_filter, mem_runL _ _ _ (Nat.le_refl _), decide_eq_true_iff]
 exact and_comm
theorem len_fc {α β : Type} {f : α -> List β} {n : Nat} : ∀ {l : List α}, (∀ a ∈ l, (f a).length = n) -> (l.flatMap f).length = l.length * n
 | [], _ => by simp
 | a :: l, h => by
  rw [List.flatMap_cons, List.length_append, h a (by simp), len_fc (fun b hb => h b (List.mem_cons_of_mem _ hb)), List.length_cons, Nat.succ_mul, Nat.add_comm]
theorem len_cut {α β γ : Type} {n : Nat} {f : Nat -> List α} {g : Nat -> List β} {m : α -> β -> γ} :
 ((List.range n).flatMap fun k => (f k).flatMap fun x => (g k).map (m x)).length = ((List.range n).map fun k => (f k).length * (g k).length).sum := by
 rw [List.length_flatMap]
 congr 1
 refine List.map_congr_left fun k _ => len_fc fun a _ => List.length_map _
theorem getD_ap {α : Type} {d : α} {a : List α} {x : α} {j : Nat} (h : j < a.length) : (a ++ [x]).getD j d = a.getD j d := by
 rw [List.getD_eq_getElem?_getD, List.getD_eq_getElem?_getD, List.getElem?_append_left h]
theorem getD_ap1 {α : Type} {d : α} {a : List α} {x : α} {j : Nat} (h : j = a.length) : (a ++ [x]).getD j d = x := by
 rw [List.getD_eq_getElem?_getD, List.getElem?_append_right (by omega), h, Nat.sub_self]; rfl
theorem snocC_of {α : Type} {a : List α} {t : Nat} (h : a.length = t + 1) : ∃ b x, a = b ++ [x] /\ b.length = t := by
 have hn : a ≠ [] := fun e => by rw [e] at h; simp at h
 exact ⟨a.dropLast, a.getLast hn, (List.dropLast_concat_getLast hn).symm, by rw [List.length_dropLast]; omega⟩
theorem nodup_runT {g : Wd -> List Vl} (hg : ∀ u, (g u).Nodup) (hd : ∀ x u u', x ∈ g u -> x ∈ g u' -> u = u') {t : Nat} {u : Wd} : (runT g t u).Nodup := nodup_fl (nodup_runL hg hd _ _)
theorem runT_word {g : Wd -> List Vl} (hd : ∀ x u u', x ∈ g u -> x ∈ g u' -> u = u') {t : Nat} {u u' : Wd} {xs : List Vl} (h : xs ∈ runT g t u) (h' : xs ∈ runT g t u') : u = u' := by
 obtain ⟨_, ws, h1, h2, h3, h4⟩ := mem_runT.1 h
 obtain ⟨_, ws', h1', h2', h3', h4'⟩ := mem_runT.1 h'
 have : ws = ws' := by
  refine List.ext_getElem (by omega) fun j hj hj' => ?_
  have e1 := h3 j (by omega)
  have e2 := h3' j (by omega)
  have := hd _ _ _ e1 e2
  rw [List.getD_eq_getElem?_getD, List.getD_eq_getElem?_getD, List.getElem?_eq_getElem hj, List.getElem?_eq_getElem hj'] at this
  exact this
 rw [<- h2, <- h2', this]
theorem len_zero {g : Wd -> List Vl} {u : Wd} (hg : ∀ u, (g u).Nodup) (hd : ∀ x u u', x ∈ g u -> x ∈ g u' -> u = u') : (runT g 0 u).length = if u = [] then 1 else 0 := by
 split
 ·rename_i h
  have : (runT g 0 u).Perm [[]] := (List.perm_ext_iff_of_nodup (nodup_runT hg hd) (List.pairwise_singleton _ _)).2 fun xs => by
   rw [mem_runT, List.mem_singleton]
   constructor
   ·intro h; exact List.length_eq_zero_iff.1 h.1
   ·intro hx; subst hx; subst h
    exact ⟨rfl, [], rfl, rfl, fun j hj => absurd hj (Nat.not_lt_zero j), fun w hw => by cases hw⟩
  rw [this.length_eq]; rfl
 ·rename_i h
  rw [List.length_eq_zero_iff]
  refine List.eq_nil_iff_forall_not_mem.2 fun xs hx => ?_
  obtain ⟨h0, ws, h1, h2, _⟩ := mem_runT.1 hx
  have : ws = [] := List.length_eq_zero_iff.1 (by omega)
  subst this; exact h h2.symm
theorem len_more {g : Wd -> List Vl} {t : Nat} {u : Wd} (hg : ∀ u, (g u).Nodup) (hd : ∀ x u u', x ∈ g u -> x ∈ g u' -> u = u') :
 (runT g (t + 1) u).length = ((List.range u.length).map fun k => (runT g t (u.take k)).length * (g (u.drop k)).length).sum := by
 have hP : (runT g (t + 1) u).Perm ((List.range u.length).flatMap fun k => (runT g t (u.take k)).flatMap fun xs => (g (u.drop k)).map fun x => xs ++ [x]) := by
  refine (List.perm_ext_iff_of_nodup (nodup_runT hg hd) ?_).2 fun xs => ?_
  ·refine nodup_fm List.nodup_range (fun k hk => nodup_fm (nodup_runT hg hd) (fun ys hy => nodup_mp (hg _) (fun a _ b _ he => (List.cons.inj (List.append_cancel_left he)).1)) ?_) ?_
   ·intro a ha b hb y hy1 hy2
    obtain ⟨x, _, rfl⟩ := List.mem_map.1 hy1
    obtain ⟨z, _, he⟩ := List.mem_map.1 hy2
    exact ((List.append_inj' he rfl).1).symm
   ·intro j hj k hk y hy1 hy2
    obtain ⟨a, ha, hy1⟩ := List.mem_flatMap.1 hy1
    obtain ⟨b, hb, hy2⟩ := List.mem_flatMap.1 hy2
    obtain ⟨x, _, rfl⟩ := List.mem_map.1 hy1
    obtain ⟨z, _, he⟩ := List.mem_map.1 hy2
    obtain rfl := (List.append_inj' he rfl).1
    have hj := List.mem_range.1 hj
    have hk := List.mem_range.1 hk
    exact take_inj (by omega) (by omega) (runT_word hd ha hb)
  ·rw [mem_runT]
   constructor
   ·rintro ⟨hl, ws, h1, h2, h3, h4⟩
    obtain ⟨ys, x, rfl, hy⟩ := snocC_of hl
    obtain ⟨vs, w, rfl, hv⟩ := snocC_of (h1.trans hl)
    have hw : w ≠ [] := h4 w (by simp)
    have hwl : 0 < w.length := List.length_pos_iff.2 hw
    rw [List.flatten_append] at h2
    simp only [List.flatten_cons, List.flatten_nil, List.append_nil] at h2
    subst h2
    refine List.mem_flatMap.2 ⟨vs.flatten.length, List.mem_range.2 (by rw [List.length_append]; omega), List.mem_flatMap.2 ⟨ys, ?_, List.mem_map.2 ⟨x, ?_, rfl⟩⟩⟩
    ·rw [List.take_left', mem_runT]
     ·refine ⟨hy, vs, by omega, rfl, fun j hj => ?_, fun w hw => h4 w (List.mem_append_left _ hw)⟩
      have := h3 j (by rw [List.length_append]; omega)
      rwa [getD_ap hj, getD_ap (by omega)] at this
     ·rfl
    ·rw [List.drop_left' rfl]
     have := h3 t (by rw [List.length_append]; simp; omega)
     rwa [getD_ap1 hy.symm, getD_ap1 hv.symm] at this
   ·intro h
    obtain ⟨k, hk, h⟩ := List.mem_flatMap.1 h
    obtain ⟨ys, hy, h⟩ := List.mem_flatMap.1 h
    obtain ⟨x, hx, rfl⟩ := List.mem_map.1 h
    have hk := List.mem_range.1 hk
    obtain ⟨hl, ws, h1, h2, h3, h4⟩ := mem_runT.1 hy
    refine ⟨by rw [List.length_append, hl]; rfl, ws ++ [u.drop k], by rw [List.length_append, List.length_append, h1]; rfl, ?_, fun j hj => ?_, ?_⟩
    ·rw [List.flatten_append, h2]; simp
    ·rw [List.length_append] at hj
     by_cases hjl : j < ys.length
     ·rw [getD_ap hjl, getD_ap (by omega)]; exact h3 j hjl
     ·have : j = ys.length := by simp at hj; omega
      rw [getD_ap1 this, getD_ap1 (by omega)]; exact hx
    ·intro w hw
     rcases List.mem_append.1 hw with hw | hw
     ·exact h4 w hw
     ·rw [List.mem_singleton.1 hw]
      intro e
      have := congrArg List.length e
      rw [List.length_drop] at this; simp at this; omega
 rw [hP.length_eq, len_cut]
theorem len_keys {α : Type} {key : α -> Nat} {p : Nat -> Bool} {M : Nat} : ∀ {l : List α}, (∀ x ∈ l, key x < M) ->
 (l.filter fun x => p (key x)).length = ((List.range M).map fun t => if p t then (l.filter fun x => decide (key x = t)).length else 0).sum
 | [], _ => by
  have : ∀ m, ((List.range m).map fun t => if p t = true then (0 : Nat) else 0).sum = 0 := fun m => by
   induction m with
   | zero => rfl
   | succ m ih => rw [List.range_succ, List.map_append, List.sum_append, ih]; simp
  exact (this M).symm
 | a :: l, h => by
  have ih := len_keys (p := p) (fun x hx => h x (List.mem_cons_of_mem _ hx))
  have step : ∀ m, ((List.range m).map fun t => if p t = true then ((a :: l).filter fun x => decide (key x = t)).length else 0).sum = ((List.range m).map fun t => if p t = true then (l.filter fun x => decide (key x = t)).length else 0).sum + (if p (key a) = true /\ key a < m then 1 else 0) := fun m => by
   induction m with
   | zero => rw [if_neg (by omega)]; rfl
   | succ m ihm =>
    rw [List.range_succ, List.map_append, List.map_append, List.sum_append, List.sum_append, ihm]
    simp only [List.map_cons, List.map_nil, List.sum_cons, List.sum_nil]
    by_cases hm : key a = m
    ·rw [if_neg (by omega), List.filter_cons_of_pos (by simpa using hm)]
     by_cases hp : p m = true
     ·rw [if_pos hp, if_pos hp, if_pos ⟨by rw [hm]; exact hp, by omega⟩, List.length_cons]; omega
     ·rw [if_neg hp, if_neg hp, if_neg (by rw [hm]; exact fun h => hp h.1)]; omega
    ·rw [List.filter_cons_of_neg (by simpa using hm)]
     have hc : (if p (key a) = true /\ key a < m + 1 then 1 else 0) = (if p (key a) = true /\ key a < m then 1 else 0) := by
      by_cases hc : p (key a) = true /\ key a < m
      ·rw [if_pos hc, if_pos ⟨hc.1, by omega⟩]
      ·rw [if_neg hc, if_neg (fun h => hc ⟨h.1, by omega⟩)]
     rw [hc]; omega
  rw [step M, <- ih]
  by_cases hp : p (key a) = true
  ·rw [List.filter_cons_of_pos (p := fun x => p (key x)) hp, if_pos ⟨hp, h a (by simp)⟩, List.length_cons]
  ·rw [List.filter_cons_of_neg (p := fun x => p (key x)) hp, if_neg (fun h => hp h.1)]; rfl
theorem runL_short {g : Wd -> List Vl} {u : Wd} {xs : List Vl} (h : xs ∈ runL g u.length u) : xs.length <= u.length := by
 obtain ⟨ws, h1, h2, _, h4⟩ := (mem_runL _ _ _ (Nat.le_refl _)).1 h
 have : ∀ vs : List Wd, (∀ w ∈ vs, w ≠ []) -> vs.length <= vs.flatten.length := fun vs => by
  induction vs with
  | nil => intro _; exact Nat.le_refl _
  | cons a l ih =>
   intro h
   have := ih fun w hw => h w (List.mem_cons_of_mem _ hw)
   have h0 : 0 < a.length := List.length_pos_iff.2 (h a (by simp))
   rw [List.flatten_cons, List.length_append, List.length_cons]; omega
 have := this ws h4
 rw [h2] at this; omega
theorem len_runs {g : Wd -> List Vl} {u : Wd} {M : Nat} {p : Nat -> Bool} (hM : u.length < M) : ((runL g u.length u).filter fun xs => p xs.length).length = ((List.range M).map fun t => if p t then (runT g t u).length else 0).sum :=
 len_keys fun xs hx => by have := runL_short hx; omega
def cntN (l : List Nd) (i : Nat) (u : Wd) : Nat := (vlsN l (i + 1) i u).length
def cntT (l : List Nd) (i t : Nat) (u : Wd) : Nat := (runT (vlsN l (i + 1) i) t u).length
section
variable {l : List Nd} {i : Nat} {u : Wd} (hF : Form l)
include hF
theorem vls_mem_eq {f : Nat} (hi : i < l.length) (hif : i < f) {x : Vl} {u : Wd} : x ∈ vlsN l f i u ↔ x ∈ vlsN l (i + 1) i u :=
 (mem_vls hF f i u x hi hif).trans (mem_vls hF (i + 1) i u x hi (by omega)).symm
theorem vls_det {f : Nat} (hi : i < l.length) (hif : i < f) (x : Vl) (u u' : Wd) (h : x ∈ vlsN l f i u) (h' : x ∈ vlsN l f i u') : u = u' :=
 Option.some.inj (((mem_vls hF f i u x hi hif).1 h).symm.trans ((mem_vls hF f i u' x hi hif).1 h'))
theorem cnt_eq {f : Nat} (hi : i < l.length) (hif : i < f) {u : Wd} : (vlsN l f i u).length = cntN l i u :=
 ((List.perm_ext_iff_of_nodup (nodup_vls hF f i u hi hif) (nodup_vls hF (i + 1) i u hi (by omega))).2 fun x => vls_mem_eq hF hi hif).length_eq
theorem cntT_eq {f t : Nat} (hi : i < l.length) (hif : i < f) {u : Wd} : (runT (vlsN l f i) t u).length = cntT l i t u :=
 ((List.perm_ext_iff_of_nodup (nodup_runT (fun u => nodup_vls hF f i u hi hif) (vls_det hF hi hif)) (nodup_runT (fun u => nodup_vls hF (i + 1) i u hi (by omega)) (vls_det hF hi (by omega)))).2 fun xs => by
   rw [mem_runT, mem_runT]
   constructor
   ·rintro ⟨h, ws, h1, h2, h3, h4⟩; exact ⟨h, ws, h1, h2, fun j hj => (vls_mem_eq hF hi hif).1 (h3 j hj), h4⟩
   ·rintro ⟨h, ws, h1, h2, h3, h4⟩; exact ⟨h, ws, h1, h2, fun j hj => (vls_mem_eq hF hi hif).2 (h3 j hj), h4⟩).length_eq
theorem cntT_zero (hi : i < l.length) : cntT l i 0 u = if u = [] then 1 else 0 :=
 len_zero (fun u => nodup_vls hF (i + 1) i u hi (by omega)) (vls_det hF hi (by omega))
theorem cntT_more {t : Nat} (hi : i < l.length) : cntT l i (t + 1) u = ((List.range u.length).map fun k => cntT l i t (u.take k) * cntN l i (u.drop k)).sum :=
 len_more (fun u => nodup_vls hF (i + 1) i u hi (by omega)) (vls_det hF hi (by omega))
omit hF in
theorem cnt_k1 (hk : (atN l i).kind = 1) : cntN l i u = if u = [] then 1 else 0 := by
 unfold cntN vlsN; rw [if_pos hk]; split <;> rfl
omit hF in
theorem cnt_k2 (hk : (atN l i).kind = 2) : cntN l i u = if u.length = 1 /\ (atN l i).cls.getLsbD (u.getD 0 0).toNat = true then 1 else 0 := by
 unfold cntN vlsN; rw [if_neg (by omega), if_pos hk]; split <;> rfl
omit hF in
theorem cnt_k3 (hk : (atN l i).kind = 3) : cntN l i u = if u = (atN l i).text then 1 else 0 := by
 unfold cntN vlsN; rw [if_neg (by omega), if_neg (by omega), if_pos hk]; split <;> rfl
theorem cnt_kidA (hi : i < l.length) (hk : 4 <= (atN l i).kind) : (atN l i).a.toNat < i := by
 have hcs := (hF.2.1 i hi).cs rfl
 cases hcs with
 | leaf h1 hf => unfold leafK at h1; omega
 | one h1 hi0 ha hb h7 hr hcl hf => omega
 | two h1 hi0 hb ha hf0 hl hcl hf => have := firstP_le l (i - 1); omega
theorem cnt_kidB (hi : i < l.length) (hk : (atN l i).kind = 4 \/ (atN l i).kind = 5) : (atN l i).b.toNat < i := by
 have hcs := (hF.2.1 i hi).cs rfl
 cases hcs with
 | leaf h1 hf => unfold leafK at h1; omega
 | one h1 hi0 ha hb h7 hr hcl hf => omega
 | two h1 hi0 hb ha hf0 hl hcl hf => omega
theorem cnt_k4 (hi : i < l.length) (hk : (atN l i).kind = 4) : cntN l i u = ((List.range (u.length + 1)).map fun k => cntN l (atN l i).a.toNat (u.take k) * cntN l (atN l i).b.toNat (u.drop k)).sum := by
 have ha := cnt_kidA hF hi (by omega)
 have hb := cnt_kidB hF hi (.inl hk)
 conv => lhs; unfold cntN vlsN
 rw [if_neg (by omega), if_neg (by omega), if_neg (by omega), if_pos hk, len_cut (m := fun x y => (⟨4, 0, [], 0, Vs.of [x, y]⟩ : Vl))]
 congr 1
 refine List.map_congr_left fun k _ => ?_
 rw [cnt_eq hF (by omega) ha, cnt_eq hF (by omega) hb]
theorem cnt_k5 (hi : i < l.length) (hk : (atN l i).kind = 5) : cntN l i u = cntN l (atN l i).a.toNat u + cntN l (atN l i).b.toNat u := by
 have ha := cnt_kidA hF hi (by omega)
 have hb := cnt_kidB hF hi (.inr hk)
 conv => lhs; unfold cntN vlsN
 rw [if_neg (by omega), if_neg (by omega), if_neg (by omega), if_neg (by omega), if_pos hk, List.length_append, List.length_map, List.length_map, cnt_eq hF (by omega) ha, cnt_eq hF (by omega) hb]
theorem cnt_k6 (hi : i < l.length) (hk : (atN l i).kind = 6) {M : Nat} (hM : u.length < M) : cntN l i u = ((List.range M).map fun t => cntT l (atN l i).a.toNat t u).sum := by
 have ha := cnt_kidA hF hi (by omega)
 conv => lhs; unfold cntN vlsN
 rw [if_neg (by omega), if_neg (by omega), if_neg (by omega), if_neg (by omega), if_neg (by omega), if_pos hk, List.length_map]
 have := len_runs (g := vlsN l i (atN l i).a.toNat) (p := fun _ => true) hM
 rw [List.filter_eq_self.2 (fun _ _ => rfl)] at this
 rw [this]
 congr 1
 refine List.map_congr_left fun k _ => ?_
 rw [if_pos rfl, cntT_eq hF (by omega) ha]
theorem cnt_k7 (hi : i < l.length) (hk : (atN l i).kind = 7) {M : Nat} (hM : u.length < M) : cntN l i u = ((List.range M).map fun (t : Nat) => if (atN l i).lo <= (t : Int) /\ (t : Int) <= (atN l i).hi then cntT l (atN l i).a.toNat t u else 0).sum := by
 have ha := cnt_kidA hF hi (by omega)
 conv => lhs; unfold cntN vlsN
 rw [if_neg (by omega), if_neg (by omega), if_neg (by omega), if_neg (by omega), if_neg (by omega), if_neg (by omega), if_pos hk, List.length_map]
 rw [len_runs (g := vlsN l i (atN l i).a.toNat) (p := fun t => decide ((atN l i).lo <= (t : Int) /\ (t : Int) <= (atN l i).hi)) hM]
 congr 1
 refine List.map_congr_left fun k _ => ?_
 simp only [decide_eq_true_eq]
 rw [cntT_eq hF (by omega) ha]
theorem cnt_k8 (hi : i < l.length) (hk : (atN l i).kind = 8) : cntN l i u = if 1 <= u.length /\ u.length - 1 <= 255 /\ u.getD 0 0 = byU (u.length - 1) then cntN l (atN l i).a.toNat (u.drop 1) else 0 := by
 have ha := cnt_kidA hF hi (by omega)
 conv => lhs; unfold cntN vlsN
 rw [if_neg (by omega), if_neg (by omega), if_neg (by omega), if_neg (by omega), if_neg (by omega), if_neg (by omega), if_neg (by omega), if_pos hk]
 split
 ·rw [List.length_map, cnt_eq hF (by omega) ha]
 ·rfl
theorem cnt_k9 (hi : i < l.length) (hk : (atN l i).kind = 9) : cntN l i u = if 2 <= u.length /\ u.length - 2 <= 65535 /\ u.getD 0 0 = byU ((u.length - 2) / 256) /\ u.getD 1 0 = byU ((u.length - 2) % 256) then cntN l (atN l i).a.toNat (u.drop 2) else 0 := by
 have ha := cnt_kidA hF hi (by omega)
 conv => lhs; unfold cntN vlsN
 rw [if_neg (by omega), if_neg (by omega), if_neg (by omega), if_neg (by omega), if_neg (by omega), if_neg (by omega), if_neg (by omega), if_neg (by omega), if_pos hk]
 split
 ·rw [List.length_map, cnt_eq hF (by omega) ha]
 ·rfl
end
end Go.Proofs.Ytidoofdofdhjpaa
