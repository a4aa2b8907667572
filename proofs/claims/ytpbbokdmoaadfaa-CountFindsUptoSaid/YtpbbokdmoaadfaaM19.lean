/- What the statements of layer 11 ask of words: plain mathematics. -/
import Derived.Test.YtpbbokdmoaadfaaM18
namespace Go.Proofs.Ytpbbokdmoaadfaa
set_option linter.all false
open Go
theorem kind_range {l : List Nd} (hF : Form l) {i : Nat} (hi : i < l.length) : 1 <= (atN l i).kind /\ (atN l i).kind <= 9 := by
 obtain ⟨-, hk⟩ := hF.2.1 i hi
 omega
def runL (g : Wd -> List Vl) : Nat -> Wd -> List (List Vl)
 | 0, u => if u = [] then [[]] else []
 | f + 1, u => if u = [] then [[]] else (List.range u.length).flatMap fun k => (g (u.take (k + 1))).flatMap fun x => (runL g f (u.drop (k + 1))).map (x :: ·)
def vlsN (l : List Nd) : Nat -> Nat -> Wd -> List Vl
 | 0, _, _ => []
 | f + 1, i, u =>
  if (atN l i).kind = 1 then (if u = [] then [⟨1, 0, [], 0, .nil⟩] else [])
  else if (atN l i).kind = 2 then (if u.length = 1 /\ (atN l i).cls.getLsbD (u.getD 0 0).toNat = true then [⟨2, u.getD 0 0, [], 0, .nil⟩] else [])
  else if (atN l i).kind = 3 then (if u = (atN l i).text then [⟨3, 0, (atN l i).text, 0, .nil⟩] else [])
  else if (atN l i).kind = 4 then (List.range (u.length + 1)).flatMap fun k => (vlsN l f (atN l i).a.toNat (u.take k)).flatMap fun x => (vlsN l f (atN l i).b.toNat (u.drop k)).map fun y => ⟨4, 0, [], 0, Vs.of [x, y]⟩
  else if (atN l i).kind = 5 then (vlsN l f (atN l i).a.toNat u).map (fun x => ⟨5, 0, [], 0, Vs.of [x]⟩) ++ (vlsN l f (atN l i).b.toNat u).map (fun x => ⟨5, 0, [], 1, Vs.of [x]⟩)
  else if (atN l i).kind = 6 then (runL (vlsN l f (atN l i).a.toNat) u.length u).map fun xs => ⟨6, 0, [], 0, Vs.of xs⟩
  else if (atN l i).kind = 7 then ((runL (vlsN l f (atN l i).a.toNat) u.length u).filter fun xs => decide ((atN l i).lo <= (xs.length : Int) /\ (xs.length : Int) <= (atN l i).hi)).map fun xs => ⟨7, 0, [], 0, Vs.of xs⟩
  else if (atN l i).kind = 8 then (if 1 <= u.length /\ u.length - 1 <= 255 /\ u.getD 0 0 = byU (u.length - 1) then (vlsN l f (atN l i).a.toNat (u.drop 1)).map (fun x => ⟨8, 0, [], 0, Vs.of [x]⟩) else [])
  else if (atN l i).kind = 9 then (if 2 <= u.length /\ u.length - 2 <= 65535 /\ u.getD 0 0 = byU ((u.length - 2) / 256) /\ u.getD 1 0 = byU ((u.length - 2) % 256) then (vlsN l f (atN l i).a.toNat (u.drop 2)).map (fun x => ⟨9, 0, [], 0, Vs.of [x]⟩) else [])
  else []
theorem mem_runL {g : Wd -> List Vl} : ∀ (f : Nat) (u : Wd) (xs : List Vl), u.length <= f -> (xs ∈ runL g f u ↔ ∃ ws : List Wd, ws.length = xs.length /\ ws.flatten = u /\ (∀ j, j < xs.length -> xs.getD j vl0 ∈ g (ws.getD j [])) /\ ∀ w ∈ ws, w ≠ [])
 | f, u, xs, hf => by
  by_cases hu : u = []
  ·have e : runL g f u = [[]] := by cases f <;> (unfold runL; rw [if_pos hu])
   rw [e, List.mem_singleton]
   constructor
   ·rintro rfl
    exact ⟨[], rfl, by rw [hu]; rfl, fun j hj => absurd hj (Nat.not_lt_zero j), fun w hw => by cases hw⟩
   ·rintro ⟨ws, h1, h2, -, h4⟩
    cases ws with
    | nil => exact List.length_eq_zero_iff.1 h1.symm
    | cons w ws =>
     exfalso
     rw [hu, List.flatten_cons] at h2
     exact h4 w (by simp) (List.append_eq_nil_iff.1 h2).1
  ·cases f with
   | zero => exact absurd (List.length_eq_zero_iff.1 (by omega)) hu
   | succ f =>
    unfold runL
    rw [if_neg hu, List.mem_flatMap]
    constructor
    ·rintro ⟨k, hk, hx⟩
     obtain ⟨x, hx1, hx2⟩ := List.mem_flatMap.1 hx
     obtain ⟨ys, hy1, rfl⟩ := List.mem_map.1 hx2
     have hkl := List.mem_range.1 hk
     obtain ⟨ws, h1, h2, h3, h4⟩ := (mem_runL f (u.drop (k + 1)) ys (by rw [List.length_drop]; omega)).1 hy1
     refine ⟨u.take (k + 1) :: ws, by simp [h1], by rw [List.flatten_cons, h2, List.take_append_drop], fun j hj => ?_, fun w hw => ?_⟩
     ·cases j with
      | zero => exact hx1
      | succ j => exact h3 j (by simpa using hj)
     ·rcases List.mem_cons.1 hw with e | e
      ·intro e2
       rw [e2] at e
       have := congrArg List.length e
       rw [List.length_take] at this
       simp at this
       exact hu (List.length_eq_zero_iff.1 (by omega))
      ·exact h4 w e
    ·rintro ⟨ws, h1, h2, h3, h4⟩
     cases ws with
     | nil => exact absurd h2.symm hu
     | cons w ws =>
      cases xs with
      | nil => cases h1
      | cons x xs =>
       have hw := h4 w (by simp)
       have hwl : 0 < w.length := List.length_pos_iff.2 hw
       have hul : u.length = w.length + ws.flatten.length := by rw [<- h2, List.flatten_cons, List.length_append]
       have ht : u.take (w.length - 1 + 1) = w := by rw [show w.length - 1 + 1 = w.length by omega, <- h2, List.flatten_cons, List.take_left]
       have hd : u.drop (w.length - 1 + 1) = ws.flatten := by rw [show w.length - 1 + 1 = w.length by omega, <- h2, List.flatten_cons, List.drop_left]
       refine ⟨w.length - 1, List.mem_range.2 (by omega), List.mem_flatMap.2 ⟨x, ?_, List.mem_map.2 ⟨xs, ?_, rfl⟩⟩⟩
       ·rw [ht]; exact h3 0 (by simp)
       ·rw [hd]
        refine (mem_runL f _ _ (by omega)).2 ⟨ws, by simpa using h1, rfl, fun j hj => h3 (j + 1) (by simpa using hj), fun w' hw' => h4 w' (List.mem_cons_of_mem _ hw')⟩
theorem vs_nil {s : Vs} (h : s.len = 0) : s = .nil := by
 cases s with
 | nil => rfl
 | cons k b t p ks r => unfold Vs.len at h; rw [Vs.list, List.length_cons] at h; omega
theorem vs_one {s : Vs} (h : s.len = 1) : s = Vs.of [s.at 0] := by
 have e : s.list = [s.at 0] := by
  unfold Vs.len at h
  unfold Vs.at
  generalize s.list = r at *
  rcases r with _ | ⟨x, _ | ⟨y, r⟩⟩ <;> simp_all
 have := congrArg Vs.of e
 rwa [Vs.of_list] at this
theorem vs_two {s : Vs} (h : s.len = 2) : s = Vs.of [s.at 0, s.at 1] := by
 have e : s.list = [s.at 0, s.at 1] := by
  unfold Vs.len at h
  unfold Vs.at
  generalize s.list = r at *
  rcases r with _ | ⟨x, _ | ⟨y, _ | ⟨z, r⟩⟩⟩ <;> simp_all
 have := congrArg Vs.of e
 rwa [Vs.of_list] at this
theorem plain_is {v : Vl} {k : Int} {b : UInt8} {t : List UInt8} {p : Int} {c : Nat} (h : plainP v k b t p c) : v = ⟨k, b, t, p, v.kids⟩ := by
 obtain ⟨h1, h2, h3, h4, -⟩ := h
 obtain ⟨vk, vb, vt, vp, ks⟩ := v
 simp only at h1 h2 h3 h4
 rw [h1, h2, h3, h4]
section
variable {l : List Nd} {i : Nat} {u : Wd} {v : Vl} {A B : Wd -> List Vl}
theorem vl_k4 (hk : (atN l i).kind = 4) (hA : ∀ u v, v ∈ A u ↔ wrV l (atN l i).a.toNat v = some u) (hB : ∀ u v, v ∈ B u ↔ wrV l (atN l i).b.toNat v = some u) :
 v ∈ ((List.range (u.length + 1)).flatMap fun k => (A (u.take k)).flatMap fun x => (B (u.drop k)).map fun y => (⟨4, 0, [], 0, Vs.of [x, y]⟩ : Vl)) ↔ wrV l i v = some u := by
 rw [wr_k4 rfl hk]
 constructor
 ·intro h
  obtain ⟨k, hk2, h⟩ := List.mem_flatMap.1 h
  obtain ⟨x, hx, h⟩ := List.mem_flatMap.1 h
  obtain ⟨y, hy, rfl⟩ := List.mem_map.1 h
  rw [if_pos ⟨rfl, rfl, rfl, rfl, rfl⟩]
  have e0 : (Vs.of [x, y]).at 0 = x := by unfold Vs.at; rw [Vs.list_of]; rfl
  have e1 : (Vs.of [x, y]).at 1 = y := by unfold Vs.at; rw [Vs.list_of]; rfl
  simp only [e0, e1]
  rw [(hA _ _).1 hx, (hB _ _).1 hy]
  unfold joinW
  simp only [List.take_append_drop]
 ·intro h
  by_cases hp : plainP v 4 0 [] 0 2
  ·rw [if_pos hp] at h
   cases hx : wrV l (atN l i).a.toNat (v.kids.at 0) with
   | none => rw [hx] at h; cases h
   | some x =>
    cases hy : wrV l (atN l i).b.toNat (v.kids.at 1) with
    | none => rw [hx, hy] at h; cases h
    | some y =>
     rw [hx, hy] at h
     have hu : x ++ y = u := Option.some.inj h
     refine List.mem_flatMap.2 ⟨x.length, List.mem_range.2 (by rw [<- hu, List.length_append]; omega), List.mem_flatMap.2 ⟨v.kids.at 0, ?_, List.mem_map.2 ⟨v.kids.at 1, ?_, ?_⟩⟩⟩
     ·rw [hA, hx, <- hu, List.take_left]
     ·rw [hB, hy, <- hu, List.drop_left]
     ·rw [plain_is hp, <- vs_two hp.2.2.2.2]
  ·rw [if_neg hp] at h; cases h
theorem vl_k5 (hk : (atN l i).kind = 5) (hA : ∀ u v, v ∈ A u ↔ wrV l (atN l i).a.toNat v = some u) (hB : ∀ u v, v ∈ B u ↔ wrV l (atN l i).b.toNat v = some u) :
 v ∈ ((A u).map (fun x => (⟨5, 0, [], 0, Vs.of [x]⟩ : Vl)) ++ (B u).map (fun x => (⟨5, 0, [], 1, Vs.of [x]⟩ : Vl))) ↔ wrV l i v = some u := by
 rw [wr_k5 rfl hk]
 have e0 : ∀ x, (Vs.of [x]).at 0 = x := fun x => by unfold Vs.at; rw [Vs.list_of]; rfl
 constructor
 ·intro h
  rcases List.mem_append.1 h with h | h
  ·obtain ⟨x, hx, rfl⟩ := List.mem_map.1 h
   rw [if_pos ⟨rfl, rfl, rfl, rfl, rfl⟩]
   simp only [e0]
   exact (hA _ _).1 hx
  ·obtain ⟨x, hx, rfl⟩ := List.mem_map.1 h
   rw [if_neg (fun h => by have := h.2.2.2.1; simp at this), if_pos ⟨rfl, rfl, rfl, rfl, rfl⟩]
   simp only [e0]
   exact (hB _ _).1 hx
 ·intro h
  by_cases hp : plainP v 5 0 [] 0 1
  ·rw [if_pos hp] at h
   exact List.mem_append_left _ (List.mem_map.2 ⟨v.kids.at 0, (hA _ _).2 h, by rw [plain_is hp, <- vs_one hp.2.2.2.2]⟩)
  ·rw [if_neg hp] at h
   by_cases hq : plainP v 5 0 [] 1 1
   ·rw [if_pos hq] at h
    exact List.mem_append_right _ (List.mem_map.2 ⟨v.kids.at 0, (hB _ _).2 h, by rw [plain_is hq, <- vs_one hq.2.2.2.2]⟩)
   ·rw [if_neg hq] at h; cases h
theorem vl_run (hk : (atN l i).kind = 6 \/ (atN l i).kind = 7) (hA : ∀ u v, v ∈ A u ↔ wrV l (atN l i).a.toNat v = some u) (h7 : (atN l i).kind = 7 -> (atN l i).lo <= (v.kids.len : Int) /\ (v.kids.len : Int) <= (atN l i).hi) (hp : plainP v (atN l i).kind 0 [] 0 v.kids.len) :
 v.kids.list ∈ runL A u.length u ↔ wrV l i v = some u := by
 rw [mem_runL _ _ _ (Nat.le_refl _)]
 have hgd : ∀ j, v.kids.list.getD j vl0 = v.kids.at j := fun j => rfl
 constructor
 ·rintro ⟨ws, h1, h2, h3, h4⟩
  rw [<- h2]
  refine wr_k67 rfl hk hp h7 h1 (fun j hj => ?_) h4
  rw [<- hA, <- hgd]; exact h3 j hj
 ·intro h
  obtain ⟨hh, ws, h1, h2, h3, h4⟩ := wrV_some h
  have hkd : ∀ j, kidN (atN l i) v.pick j = (atN l i).a := fun j => by unfold kidN; rw [if_neg (by omega)]
  unfold capW at h4
  rw [if_neg (by omega), if_neg (by omega), if_neg (by omega), if_neg (by omega)] at h4
  exact ⟨ws, h1, Option.some.inj h4, fun j hj => by
   rw [hgd, hA]
   have := h2 j hj
   rwa [hkd] at this, h3 hk⟩
theorem head_one {u : Wd} (h : 1 <= u.length) : u = u.getD 0 0 :: u.drop 1 := by
 cases u with
 | nil => simp at h
 | cons a u => rfl
theorem head_two {u : Wd} (h : 2 <= u.length) : u = u.getD 0 0 :: u.getD 1 0 :: u.drop 2 := by
 rcases u with _ | ⟨a, _ | ⟨b, u⟩⟩
 ·simp at h
 ·simp at h
 ·rfl
theorem vl_k8 (hk : (atN l i).kind = 8) (hA : ∀ u v, v ∈ A u ↔ wrV l (atN l i).a.toNat v = some u) :
 v ∈ (if 1 <= u.length /\ u.length - 1 <= 255 /\ u.getD 0 0 = byU (u.length - 1) then (A (u.drop 1)).map (fun x => (⟨8, 0, [], 0, Vs.of [x]⟩ : Vl)) else []) ↔ wrV l i v = some u := by
 rw [wr_k89 rfl (.inl hk), hk]
 have e0 : ∀ x, (Vs.of [x]).at 0 = x := fun x => by unfold Vs.at; rw [Vs.list_of]; rfl
 constructor
 ·intro h
  split at h
  ·rename_i hc
   obtain ⟨x, hx, rfl⟩ := List.mem_map.1 h
   rw [if_pos ⟨rfl, rfl, rfl, rfl, rfl⟩]
   simp only [e0]
   rw [(hA _ _).1 hx]
   unfold frmW
   simp only [List.length_drop]
   rw [if_pos trivial, if_pos hc.2.1, <- hc.2.2, <- head_one hc.1]
  ·cases h
 ·intro h
  by_cases hp : plainP v 8 0 [] 0 1
  ·rw [if_pos hp] at h
   cases hx : wrV l (atN l i).a.toNat (v.kids.at 0) with
   | none => rw [hx] at h; cases h
   | some x =>
    rw [hx] at h
    unfold frmW at h
    simp only at h
    rw [if_pos trivial] at h
    split at h
    ·rename_i hc
     have hu : byU x.length :: x = u := Option.some.inj h
     subst hu
     rw [if_pos ⟨by simp, by simpa using hc, by simp⟩]
     exact List.mem_map.2 ⟨v.kids.at 0, by rw [hA, hx]; rfl, by rw [plain_is hp, <- vs_one hp.2.2.2.2]⟩
    ·cases h
  ·rw [if_neg hp] at h; cases h
theorem vl_k9 (hk : (atN l i).kind = 9) (hA : ∀ u v, v ∈ A u ↔ wrV l (atN l i).a.toNat v = some u) :
 v ∈ (if 2 <= u.length /\ u.length - 2 <= 65535 /\ u.getD 0 0 = byU ((u.length - 2) / 256) /\ u.getD 1 0 = byU ((u.length - 2) % 256) then (A (u.drop 2)).map (fun x => (⟨9, 0, [], 0, Vs.of [x]⟩ : Vl)) else []) ↔ wrV l i v = some u := by
 rw [wr_k89 rfl (.inr hk), hk]
 have e0 : ∀ x, (Vs.of [x]).at 0 = x := fun x => by unfold Vs.at; rw [Vs.list_of]; rfl
 constructor
 ·intro h
  split at h
  ·rename_i hc
   obtain ⟨x, hx, rfl⟩ := List.mem_map.1 h
   rw [if_pos ⟨rfl, rfl, rfl, rfl, rfl⟩]
   simp only [e0]
   rw [(hA _ _).1 hx]
   unfold frmW
   simp only [List.length_drop]
   rw [if_neg (by decide), if_pos hc.2.1, <- hc.2.2.1, <- hc.2.2.2, <- head_two hc.1]
  ·cases h
 ·intro h
  by_cases hp : plainP v 9 0 [] 0 1
  ·rw [if_pos hp] at h
   cases hx : wrV l (atN l i).a.toNat (v.kids.at 0) with
   | none => rw [hx] at h; cases h
   | some x =>
    rw [hx] at h
    unfold frmW at h
    simp only at h
    rw [if_neg (by decide)] at h
    split at h
    ·rename_i hc
     have hu : byU (x.length / 256) :: byU (x.length % 256) :: x = u := Option.some.inj h
     subst hu
     rw [if_pos ⟨by simp, by simpa using hc, by simp, by simp⟩]
     exact List.mem_map.2 ⟨v.kids.at 0, by rw [hA, hx]; rfl, by rw [plain_is hp, <- vs_one hp.2.2.2.2]⟩
    ·cases h
  ·rw [if_neg hp] at h; cases h
end
theorem mem_vls {l : List Nd} (hF : Form l) : ∀ (f i : Nat) (u : Wd) (v : Vl), i < l.length -> i < f -> (v ∈ vlsN l f i u ↔ wrV l i v = some u)
 | 0, i, u, v, _, h => absurd h (Nat.not_lt_zero i)
 | f + 1, i, u, v, hi, hif => by
  obtain ⟨n, hn⟩ : ∃ n, n = atN l i := ⟨_, rfl⟩
  have ho := hF.2.1 i hi
  rw [<- hn] at ho
  have hcs := ho.cs hn.symm
  have hA : (4 <= n.kind) -> n.a.toNat < i := fun hk => by
   cases hcs with
   | leaf h1 hf => unfold leafK at h1; omega
   | one h1 hi0 ha hb h7 hr hcl hf => omega
   | two h1 hi0 hb ha hf0 hl hcl hf => have := firstP_le l (i - 1); omega
  have hB : (n.kind = 4 \/ n.kind = 5) -> n.b.toNat < i := fun hk => by
   cases hcs with
   | leaf h1 hf => unfold leafK at h1; omega
   | one h1 hi0 ha hb h7 hr hcl hf => omega
   | two h1 hi0 hb ha hf0 hl hcl hf => omega
  have hMA : 4 <= n.kind -> ∀ u v, v ∈ vlsN l f n.a.toNat u ↔ wrV l n.a.toNat v = some u := fun hk u v => mem_vls hF f _ u v (by have := hA hk; omega) (by have := hA hk; omega)
  have hMB : (n.kind = 4 \/ n.kind = 5) -> ∀ u v, v ∈ vlsN l f n.b.toNat u ↔ wrV l n.b.toNat v = some u := fun hk u v => mem_vls hF f _ u v (by have := hB hk; omega) (by have := hB hk; omega)
  have hkr := kind_range hF hi
  rw [<- hn] at hkr
  unfold vlsN
  rw [<- hn]
  by_cases k1 : n.kind = 1
  ·rw [if_pos k1, wr_k1 hn.symm k1]
   constructor
   ·intro h
    split at h
    ·rename_i hu
     rw [List.mem_singleton.1 h, if_pos ⟨rfl, rfl, rfl, rfl, rfl⟩, hu]
    ·cases h
   ·intro h
    by_cases hp : plainP v 1 0 [] 0 0
    ·rw [if_pos hp] at h
     rw [if_pos (Option.some.inj h).symm, List.mem_singleton, plain_is hp, vs_nil hp.2.2.2.2]
    ·rw [if_neg hp] at h; cases h
  rw [if_neg k1]
  by_cases k2 : n.kind = 2
  ·rw [if_pos k2, wr_k2 hn.symm k2]
   constructor
   ·intro h
    split at h
    ·rename_i hu
     rw [List.mem_singleton.1 h, if_pos ⟨⟨rfl, rfl, rfl, rfl, rfl⟩, hu.2⟩]
     have := head_one (u := u) (by omega)
     rw [List.drop_of_length_le (by omega)] at this
     exact congrArg some this.symm
    ·cases h
   ·intro h
    by_cases hp : plainP v 2 v.byte [] 0 0 /\ n.cls.getLsbD v.byte.toNat = true
    ·rw [if_pos hp] at h
     have hu : [v.byte] = u := Option.some.inj h
     subst hu
     rw [if_pos ⟨rfl, hp.2⟩, List.mem_singleton]
     conv => lhs; rw [plain_is hp.1, vs_nil hp.1.2.2.2.2]
     rfl
    ·rw [if_neg hp] at h; cases h
  rw [if_neg k2]
  by_cases k3 : n.kind = 3
  ·rw [if_pos k3, wr_k3 hn.symm k3]
   constructor
   ·intro h
    split at h
    ·rename_i hu
     rw [List.mem_singleton.1 h, if_pos ⟨rfl, rfl, rfl, rfl, rfl⟩, hu]
    ·cases h
   ·intro h
    by_cases hp : plainP v 3 0 n.text 0 0
    ·rw [if_pos hp] at h
     rw [if_pos (Option.some.inj h).symm, List.mem_singleton]
     conv => lhs; rw [plain_is hp, vs_nil hp.2.2.2.2]
    ·rw [if_neg hp] at h; cases h
  rw [if_neg k3]
  by_cases k4 : n.kind = 4
  ·rw [if_pos k4]
   have hMA := hMA (by omega)
   have hMB := hMB (.inl k4)
   rw [hn] at hMA hMB k4 ⊢
   exact vl_k4 k4 hMA hMB
  rw [if_neg k4]
  by_cases k5 : n.kind = 5
  ·rw [if_pos k5]
   have hMA := hMA (by omega)
   have hMB := hMB (.inr k5)
   rw [hn] at hMA hMB k5 ⊢
   exact vl_k5 k5 hMA hMB
  rw [if_neg k5]
  have hMA := hMA (by omega)
  by_cases k6 : n.kind = 6
  ·rw [if_pos k6]
   rw [hn] at hMA k6 ⊢
   constructor
   ·intro h
    obtain ⟨xs, hx, rfl⟩ := List.mem_map.1 h
    refine (vl_run (.inl k6) hMA (fun h => by omega) (by rw [k6]; exact ⟨rfl, rfl, rfl, rfl, rfl⟩)).1 ?_
    simp only [Vs.list_of]; exact hx
   ·intro h
    have hp : plainP v (atN l i).kind 0 [] 0 v.kids.len := by
     by_cases hh : plainP v (atN l i).kind 0 [] 0 v.kids.len
     ·exact hh
     ·rw [wr_k67_no rfl (.inl k6) (fun h => hh h.1)] at h; cases h
    refine List.mem_map.2 ⟨v.kids.list, (vl_run (.inl k6) hMA (fun h => by omega) hp).2 h, ?_⟩
    rw [Vs.of_list]
    conv => rhs; rw [plain_is hp, k6]
  rw [if_neg k6]
  by_cases k7 : n.kind = 7
  ·rw [if_pos k7]
   rw [hn] at hMA k7 ⊢
   constructor
   ·intro h
    obtain ⟨xs, hx, rfl⟩ := List.mem_map.1 h
    obtain ⟨hx, hb⟩ := List.mem_filter.1 hx
    have hb := of_decide_eq_true hb
    have hln : (Vs.of xs).len = xs.length := by unfold Vs.len; rw [Vs.list_of]
    refine (vl_run (.inr k7) hMA (fun _ => by simp only [hln]; exact hb) (by rw [k7]; exact ⟨rfl, rfl, rfl, rfl, rfl⟩)).1 ?_
    simp only [Vs.list_of]; exact hx
   ·intro h
    have hp : plainP v (atN l i).kind 0 [] 0 v.kids.len /\ ((atN l i).kind = 7 -> (atN l i).lo <= (v.kids.len : Int) /\ (v.kids.len : Int) <= (atN l i).hi) := by
     by_cases hh : plainP v (atN l i).kind 0 [] 0 v.kids.len /\ ((atN l i).kind = 7 -> (atN l i).lo <= (v.kids.len : Int) /\ (v.kids.len : Int) <= (atN l i).hi)
     ·exact hh
     ·rw [wr_k67_no rfl (.inr k7) hh] at h; cases h
    refine List.mem_map.2 ⟨v.kids.list, List.mem_filter.2 ⟨(vl_run (.inr k7) hMA hp.2 hp.1).2 h, decide_eq_true (hp.2 k7)⟩, ?_⟩
    rw [Vs.of_list]
    conv => rhs; rw [plain_is hp.1, k7]
  rw [if_neg k7]
  by_cases k8 : n.kind = 8
  ·rw [if_pos k8]
   rw [hn] at hMA k8 ⊢
   exact vl_k8 k8 hMA
  rw [if_neg k8]
  have k9 : n.kind = 9 := by omega
  rw [if_pos k9]
  rw [hn] at hMA k9 ⊢
  exact vl_k9 k9 hMA
theorem nodup_fm {α β : Type} {l : List α} {f : α -> List β} (hl : l.Nodup) (h : ∀ a ∈ l, (f a).Nodup) (hx : ∀ a ∈ l, ∀ b ∈ l, ∀ y, y ∈ f a -> y ∈ f b -> a = b) : (l.flatMap f).Nodup := by
 unfold List.Nodup
 rw [List.pairwise_flatMap]
 refine ⟨h, List.Pairwise.imp_of_mem (R := fun a b => a ≠ b) ?_ hl⟩
 intro a b ha hb hab x hx1 y hy1 he
 subst he
 exact hab (hx a ha b hb x hx1 hy1)
theorem nodup_mp {α β : Type} {l : List α} {f : α -> β} (hl : l.Nodup) (hx : ∀ a ∈ l, ∀ b ∈ l, f a = f b -> a = b) : (l.map f).Nodup := by
 unfold List.Nodup
 rw [List.pairwise_map]
 refine List.Pairwise.imp_of_mem (R := fun a b => a ≠ b) ?_ hl
 intro a b ha hb hab he
 exact hab (hx a ha b hb he)
theorem nodup_fl {α : Type} {l : List α} {p : α -> Bool} (hl : l.Nodup) : (l.filter p).Nodup := List.Pairwise.filter p hl
theorem nodup_ap {α : Type} {a b : List α} (ha : a.Nodup) (hb : b.Nodup) (h : ∀ x, x ∈ a -> x ∈ b -> False) : (a ++ b).Nodup := by
 unfold List.Nodup
 rw [List.pairwise_append]
 exact ⟨ha, hb, fun x hx y hy he => h x hx (he ▸ hy)⟩
theorem of_inj {a b : List Vl} (h : Vs.of a = Vs.of b) : a = b := by
 have := congrArg Vs.list h
 rwa [Vs.list_of, Vs.list_of] at this
theorem take_inj {u : Wd} {j k : Nat} (hj : j <= u.length) (hk : k <= u.length) (h : u.take j = u.take k) : j = k := by
 have := congrArg List.length h
 rw [List.length_take, List.length_take] at this; omega
theorem nodup_runL {g : Wd -> List Vl} (hg : ∀ u, (g u).Nodup) (hd : ∀ x u u', x ∈ g u -> x ∈ g u' -> u = u') : ∀ (f : Nat) (u : Wd), (runL g f u).Nodup
 | 0, u => by
  unfold runL; split
  ·exact List.pairwise_singleton _ _
  ·exact List.Pairwise.nil
 | f + 1, u => by
  unfold runL; split
  ·exact List.pairwise_singleton _ _
  ·refine nodup_fm List.nodup_range (fun k hk => nodup_fm (hg _) (fun x hx => nodup_mp (nodup_runL hg hd f _) (fun a _ b _ he => (List.cons.inj he).2)) ?_) ?_
   ·intro a ha b hb y hy1 hy2
    obtain ⟨xs, _, rfl⟩ := List.mem_map.1 hy1
    obtain ⟨ys, _, h⟩ := List.mem_map.1 hy2
    exact ((List.cons.inj h).1).symm
   ·intro j hj k hk y hy1 hy2
    obtain ⟨a, ha, hy1⟩ := List.mem_flatMap.1 hy1
    obtain ⟨b, hb, hy2⟩ := List.mem_flatMap.1 hy2
    obtain ⟨xs, _, rfl⟩ := List.mem_map.1 hy1
    obtain ⟨ys, _, h⟩ := List.mem_map.1 hy2
    obtain rfl := (List.cons.inj h).1
    have hj := List.mem_range.1 hj
    have hk := List.mem_range.1 hk
    have := take_inj (by omega) (by omega) (hd _ _ _ ha hb)
    omega
theorem nodup_vls {l : List Nd} (hF : Form l) : ∀ (f i : Nat) (u : Wd), i < l.length -> i < f -> (vlsN l f i u).Nodup
 | 0, i, u, _, h => absurd h (Nat.not_lt_zero i)
 | f + 1, i, u, hi, hif => by
  obtain ⟨n, hn⟩ : ∃ n, n = atN l i := ⟨_, rfl⟩
  have ho := hF.2.1 i hi
  rw [<- hn] at ho
  have hcs := ho.cs hn.symm
  have hA : (4 <= n.kind) -> n.a.toNat < i := fun hk => by
   cases hcs with
   | leaf h1 hf => unfold leafK at h1; omega
   | one h1 hi0 ha hb h7 hr hcl hf => omega
   | two h1 hi0 hb ha hf0 hl hcl hf => have := firstP_le l (i - 1); omega
  have hB : (n.kind = 4 \/ n.kind = 5) -> n.b.toNat < i := fun hk => by
   cases hcs with
   | leaf h1 hf => unfold leafK at h1; omega
   | one h1 hi0 ha hb h7 hr hcl hf => omega
   | two h1 hi0 hb ha hf0 hl hcl hf => omega
  have hNA : 4 <= n.kind -> ∀ u, (vlsN l f n.a.toNat u).Nodup := fun hk u => nodup_vls hF f _ u (by have := hA hk; omega) (by have := hA hk; omega)
  have hNB : (n.kind = 4 \/ n.kind = 5) -> ∀ u, (vlsN l f n.b.toNat u).Nodup := fun hk u => nodup_vls hF f _ u (by have := hB hk; omega) (by have := hB hk; omega)
  have hDA : 4 <= n.kind -> ∀ x u u', x ∈ vlsN l f n.a.toNat u -> x ∈ vlsN l f n.a.toNat u' -> u = u' := fun hk x u u' h h' => by
   have e1 := (mem_vls hF f _ u x (by have := hA hk; omega) (by have := hA hk; omega)).1 h
   have e2 := (mem_vls hF f _ u' x (by have := hA hk; omega) (by have := hA hk; omega)).1 h'
   exact Option.some.inj (e1.symm.trans e2)
  have one : ∀ v : Vl, List.Nodup [v] := fun v => List.pairwise_singleton _ _
  have ofx : ∀ {k : Int} {x y : Vl} {p : Int}, (⟨k, 0, [], p, Vs.of [x]⟩ : Vl) = ⟨k, 0, [], p, Vs.of [y]⟩ -> x = y := fun h => (List.cons.inj (of_inj (Vl.mk.inj h).2.2.2.2)).1
  have ofs : ∀ {k : Int} {x y : List Vl} {p : Int}, (⟨k, 0, [], p, Vs.of x⟩ : Vl) = ⟨k, 0, [], p, Vs.of y⟩ -> x = y := fun h => of_inj (Vl.mk.inj h).2.2.2.2
  unfold vlsN
  rw [<- hn]
  by_cases k1 : n.kind = 1
  ·rw [if_pos k1]; split
   ·exact one _
   ·exact List.Pairwise.nil
  rw [if_neg k1]
  by_cases k2 : n.kind = 2
  ·rw [if_pos k2]; split
   ·exact one _
   ·exact List.Pairwise.nil
  rw [if_neg k2]
  by_cases k3 : n.kind = 3
  ·rw [if_pos k3]; split
   ·exact one _
   ·exact List.Pairwise.nil
  rw [if_neg k3]
  by_cases k4 : n.kind = 4
  ·rw [if_pos k4]
   have h4 : 4 <= n.kind := by omega
   refine nodup_fm List.nodup_range (fun k hk => nodup_fm (hNA h4 _) (fun x hx => nodup_mp (hNB (.inl k4) _) ?_) ?_) ?_
   ·intro a _ b _ he
    exact (List.cons.inj (List.cons.inj (of_inj (Vl.mk.inj he).2.2.2.2)).2).1
   ·intro a ha b hb y hy1 hy2
    obtain ⟨x, _, rfl⟩ := List.mem_map.1 hy1
    obtain ⟨z, _, he⟩ := List.mem_map.1 hy2
    exact ((List.cons.inj (of_inj (Vl.mk.inj he).2.2.2.2)).1).symm
   ·intro j hj k hk y hy1 hy2
    obtain ⟨a, ha, hy1⟩ := List.mem_flatMap.1 hy1
    obtain ⟨b, hb, hy2⟩ := List.mem_flatMap.1 hy2
    obtain ⟨x, _, rfl⟩ := List.mem_map.1 hy1
    obtain ⟨z, _, he⟩ := List.mem_map.1 hy2
    obtain rfl := (List.cons.inj (of_inj (Vl.mk.inj he).2.2.2.2)).1
    have hj := List.mem_range.1 hj
    have hk := List.mem_range.1 hk
    exact take_inj (by omega) (by omega) (hDA h4 _ _ _ ha hb)
  rw [if_neg k4]
  by_cases k5 : n.kind = 5
  ·rw [if_pos k5]
   refine nodup_ap (nodup_mp (hNA (by omega) _) fun a _ b _ he => ofx he) (nodup_mp (hNB (.inr k5) _) fun a _ b _ he => ofx he) ?_
   intro v h1 h2
   obtain ⟨x, _, rfl⟩ := List.mem_map.1 h1
   obtain ⟨y, _, he⟩ := List.mem_map.1 h2
   exact absurd (Vl.mk.inj he).2.2.2.1 (by decide)
  rw [if_neg k5]
  by_cases k6 : n.kind = 6
  ·rw [if_pos k6]
   exact nodup_mp (nodup_runL (hNA (by omega)) (hDA (by omega)) _ _) fun a _ b _ he => ofs he
  rw [if_neg k6]
  by_cases k7 : n.kind = 7
  ·rw [if_pos k7]
   exact nodup_mp (nodup_fl (nodup_runL (hNA (by omega)) (hDA (by omega)) _ _)) fun a _ b _ he => ofs he
  rw [if_neg k7]
  by_cases k8 : n.kind = 8
  ·rw [if_pos k8]; split
   ·exact nodup_mp (hNA (by omega) _) fun a _ b _ he => ofx he
   ·exact List.Pairwise.nil
  rw [if_neg k8]
  by_cases k9 : n.kind = 9
  ·rw [if_pos k9]; split
   ·exact nodup_mp (hNA (by omega) _) fun a _ b _ he => ofx he
   ·exact List.Pairwise.nil
  rw [if_neg k9]
  exact List.Pairwise.nil
def runT (g : Wd -> List Vl) (t : Nat) (u : Wd) : List (List Vl) := (runL g u.length u).filter fun xs => decide (xs.length = t)
theorem mem_runT {g : Wd -> List Vl} {t : Nat} {u : Wd} {xs : List Vl} : xs ∈ runT g t u ↔ xs.length = t /\ ∃ ws : List Wd, ws.length = xs.length /\ ws.flatten = u /\ (∀ j, j < xs.length -> xs.getD j vl0 ∈ g (ws.getD j [])) /\ ∀ w ∈ ws, w ≠ [] := by
 unfold runT
 rw [List.mem_filter, mem_runL _ _ _ (Nat.le_refl _), decide_eq_true_iff]
 exact and_comm
theorem len_fc {α β : Type} {f : α -> List β} {n : Nat} : ∀ {l : List α}, (∀ a ∈ l, (f a).length = n) -> (l.flatMap f).length = l.length * n
 | [], _ => by simp
 | a :: l, h => by
  rw [List.flatMap_cons, List.length_append, h a (by simp), len_fc (fun b hb => h b (List.mem_cons_of_mem _ hb)), List.length_cons, Nat.succ_mul, Nat.add_comm]
theorem len_cut {α β γ : Type} {n : Nat} {f : Nat -> List α} {g : Nat -> List β} {m : α -> β -> γ} :
 ((List.range n).flatMap fun k => (f k).flatMap fun x => (g k).map (m x)).length = ((List.range n).map fun k => (f k).length * (g k).length).sum := by
 rw [List.length_flatMap]
 congr 1
 refine List.map_congr_left fun k _ => len_fc fun a _ => List.length_map _
theorem getD_ap {α : Type} {d : α} {a : List α} {x : α} {j : Nat} (h : j < a.length) : (a ++ [x]).getD j d = a.getD j d := by
 rw [List.getD_eq_getElem?_getD, List.getD_eq_getElem?_getD, List.getElem?_append_left h]
theorem getD_ap1 {α : Type} {d : α} {a : List α} {x : α} {j : Nat} (h : j = a.length) : (a ++ [x]).getD j d = x := by
 rw [List.getD_eq_getElem?_getD, List.getElem?_append_right (by omega), h, Nat.sub_self]; rfl
theorem snocC_of {α : Type} {a : List α} {t : Nat} (h : a.length = t + 1) : ∃ b x, a = b ++ [x] /\ b.length = t := by
 have hn : a ≠ [] := fun e => by rw [e] at h; simp at h
 exact ⟨a.dropLast, a.getLast hn, (List.dropLast_concat_getLast hn).symm, by rw [List.length_dropLast]; omega⟩
theorem nodup_runT {g : Wd -> List Vl} (hg : ∀ u, (g u).Nodup) (hd : ∀ x u u', x ∈ g u -> x ∈ g u' -> u = u') {t : Nat} {u : Wd} : (runT g t u).Nodup := nodup_fl (nodup_runL hg hd _ _)
theorem runT_word {g : Wd -> List Vl} (hd : ∀ x u u', x ∈ g u -> x ∈ g u' -> u = u') {t : Nat} {u u' : Wd} {xs : List Vl} (h : xs ∈ runT g t u) (h' : xs ∈ runT g t u') : u = u' := by
 obtain ⟨_, ws, h1, h2, h3, h4⟩ := mem_runT.1 h
 obtain ⟨_, ws', h1', h2', h3', h4'⟩ := mem_runT.1 h'
 have : ws = ws' := by
  refine List.ext_getElem (by omega) fun j hj hj' => ?_
  have e1 := h3 j (by omega)
  have e2 := h3' j (by omega)
  have := hd _ _ _ e1 e2
  rw [List.getD_eq_getElem?_getD, List.getD_eq_getElem?_getD, List.getElem?_eq_getElem hj, List.getElem?_eq_getElem hj'] at this
  exact this
 rw [<- h2, <- h2', this]
theorem len_zero {g : Wd -> List Vl} {u : Wd} (hg : ∀ u, (g u).Nodup) (hd : ∀ x u u', x ∈ g u -> x ∈ g u' -> u = u') : (runT g 0 u).length = if u = [] then 1 else 0 := by
 split
 ·rename_i h
  have : (runT g 0 u).Perm [[]] := (List.perm_ext_iff_of_nodup (nodup_runT hg hd) (List.pairwise_singleton _ _)).2 fun xs => by
   rw [mem_runT, List.mem_singleton]
   constructor
   ·intro h; exact List.length_eq_zero_iff.1 h.1
   ·intro hx; subst hx; subst h
    exact ⟨rfl, [], rfl, rfl, fun j hj => absurd hj (Nat.not_lt_zero j), fun w hw => by cases hw⟩
  rw [this.length_eq]; rfl
 ·rename_i h
  rw [List.length_eq_zero_iff]
  refine List.eq_nil_iff_forall_not_mem.2 fun xs hx => ?_
  obtain ⟨h0, ws, h1, h2, _⟩ := mem_runT.1 hx
  have : ws = [] := List.length_eq_zero_iff.1 (by omega)
  subst this; exact h h2.symm
theorem len_more {g : Wd -> List Vl} {t : Nat} {u : Wd} (hg : ∀ u, (g u).Nodup) (hd : ∀ x u u', x ∈ g u -> x ∈ g u' -> u = u') :
 (runT g (t + 1) u).length = ((List.range u.length).map fun k => (runT g t (u.take k)).length * (g (u.drop k)).length).sum := by
 have hP : (runT g (t + 1) u).Perm ((List.range u.length).flatMap fun k => (runT g t (u.take k)).flatMap fun xs => (g (u.drop k)).map fun x => xs ++ [x]) := by
  refine (List.perm_ext_iff_of_nodup (nodup_runT hg hd) ?_).2 fun xs => ?_
  ·refine nodup_fm List.nodup_range (fun k hk => nodup_fm (nodup_runT hg hd) (fun ys hy => nodup_mp (hg _) (fun a _ b _ he => (List.cons.inj (List.append_cancel_left he)).1)) ?_) ?_
   ·intro a ha b hb y hy1 hy2
    obtain ⟨x, _, rfl⟩ := List.mem_map.1 hy1
    obtain ⟨z, _, he⟩ := List.mem_map.1 hy2
    exact ((List.append_inj' he rfl).1).symm
   ·intro j hj k hk y hy1 hy2
    obtain ⟨a, ha, hy1⟩ := List.mem_flatMap.1 hy1
    obtain ⟨b, hb, hy2⟩ := List.mem_flatMap.1 hy2
    obtain ⟨x, _, rfl⟩ := List.mem_map.1 hy1
    obtain ⟨z, _, he⟩ := List.mem_map.1 hy2
    obtain rfl := (List.append_inj' he rfl).1
    have hj := List.mem_range.1 hj
    have hk := List.mem_range.1 hk
    exact take_inj (by omega) (by omega) (runT_word hd ha hb)
  ·rw [mem_runT]
   constructor
   ·rintro ⟨hl, ws, h1, h2, h3, h4⟩
    obtain ⟨ys, x, rfl, hy⟩ := snocC_of hl
    obtain ⟨vs, w, rfl, hv⟩ := snocC_of (h1.trans hl)
    have hw : w ≠ [] := h4 w (by simp)
    have hwl : 0 < w.length := List.length_pos_iff.2 hw
    rw [List.flatten_append] at h2
    simp only [List.flatten_cons, List.flatten_nil, List.append_nil] at h2
    subst h2
    refine List.mem_flatMap.2 ⟨vs.flatten.length, List.mem_range.2 (by rw [List.length_append]; omega), List.mem_flatMap.2 ⟨ys, ?_, List.mem_map.2 ⟨x, ?_, rfl⟩⟩⟩
    ·rw [List.take_left', mem_runT]
     ·refine ⟨hy, vs, by omega, rfl, fun j hj => ?_, fun w hw => h4 w (List.mem_append_left _ hw)⟩
      have := h3 j (by rw [List.length_append]; omega)
      rwa [getD_ap hj, getD_ap (by omega)] at this
     ·rfl
    ·rw [List.drop_left' rfl]
     have := h3 t (by rw [List.length_append]; simp; omega)
     rwa [getD_ap1 hy.symm, getD_ap1 hv.symm] at this
   ·intro h
    obtain ⟨k, hk, h⟩ := List.mem_flatMap.1 h
    obtain ⟨ys, hy, h⟩ := List.mem_flatMap.1 h
    obtain ⟨x, hx, rfl⟩ := List.mem_map.1 h
    have hk := List.mem_range.1 hk
    obtain ⟨hl, ws, h1, h2, h3, h4⟩ := mem_runT.1 hy
    refine ⟨by rw [List.length_append, hl]; rfl, ws ++ [u.drop k], by rw [List.length_append, List.length_append, h1]; rfl, ?_, fun j hj => ?_, ?_⟩
    ·rw [List.flatten_append, h2]; simp
    ·rw [List.length_append] at hj
     by_cases hjl : j < ys.length
     ·rw [getD_ap hjl, getD_ap (by omega)]; exact h3 j hjl
     ·have : j = ys.length := by simp at hj; omega
      rw [getD_ap1 this, getD_ap1 (by omega)]; exact hx
    ·intro w hw
     rcases List.mem_append.1 hw with hw | hw
     ·exact h4 w hw
     ·rw [List.mem_singleton.1 hw]
      intro e
      have := congrArg List.length e
      rw [List.length_drop] at this; simp at this; omega
 rw [hP.length_eq, len_cut]
theorem len_keys {α : Type} {key : α -> Nat} {p : Nat -> Bool} {M : Nat} : ∀ {l : List α}, (∀ x ∈ l, key x < M) ->
 (l.filter fun x => p (key x)).length = ((List.range M).map fun t => if p t then (l.filter fun x => decide (key x = t)).length else 0).sum
 | [], _ => by
  have : ∀ m, ((List.range m).map fun t => if p t = true then (0 : Nat) else 0).sum = 0 := fun m => by
   induction m with
   | zero => rfl
   | succ m ih => rw [List.range_succ, List.map_append, List.sum_append, ih]; simp
  exact (this M).symm
 | a :: l, h => by
  have ih := len_keys (p := p) (fun x hx => h x (List.mem_cons_of_mem _ hx))
  have step : ∀ m, ((List.range m).map fun t => if p t = true then ((a :: l).filter fun x => decide (key x = t)).length else 0).sum = ((List.range m).map fun t => if p t = true then (l.filter fun x => decide (key x = t)).length else 0).sum + (if p (key a) = true /\ key a < m then 1 else 0) := fun m => by
   induction m with
   | zero => rw [if_neg (by omega)]; rfl
   | succ m ihm =>
    rw [List.range_succ, List.map_append, List.map_append, List.sum_append, List.sum_append, ihm]
    simp only [List.map_cons, List.map_nil, List.sum_cons, List.sum_nil]
    by_cases hm : key a = m
    ·rw [if_neg (by omega), List.filter_cons_of_pos (by simpa using hm)]
     by_cases hp : p m = true
     ·rw [if_pos hp, if_pos hp, if_pos ⟨by rw [hm]; exact hp, by omega⟩, List.length_cons]; omega
     ·rw [if_neg hp, if_neg hp, if_neg (by rw [hm]; exact fun h => hp h.1)]; omega
    ·rw [List.filter_cons_of_neg (by simpa using hm)]
     have hc : (if p (key a) = true /\ key a < m + 1 then 1 else 0) = (if p (key a) = true /\ key a < m then 1 else 0) := by
      by_cases hc : p (key a) = true /\ key a < m
      ·rw [if_pos hc, if_pos ⟨hc.1, by omega⟩]
      ·rw [if_neg hc, if_neg (fun h => hc ⟨h.1, by omega⟩)]
     rw [hc]; omega
  rw [step M, <- ih]
  by_cases hp : p (key a) = true
  ·rw [List.filter_cons_of_pos (p := fun x => p (key x)) hp, if_pos ⟨hp, h a (by simp)⟩, List.length_cons]
  ·rw [List.filter_cons_of_neg (p := fun x => p (key x)) hp, if_neg (fun h => hp h.1)]; rfl
theorem runL_short {g : Wd -> List Vl} {u : Wd} {xs : List Vl} (h : xs ∈ runL g u.length u) : xs.length <= u.length := by
 obtain ⟨ws, h1, h2, _, h4⟩ := (mem_runL _ _ _ (Nat.le_refl _)).1 h
 have : ∀ vs : List Wd, (∀ w ∈ vs, w ≠ []) -> vs.length <= vs.flatten.length := fun vs => by
  induction vs with
  | nil => intro _; exact Nat.le_refl _
  | cons a l ih =>
   intro h
   have := ih fun w hw => h w (List.mem_cons_of_mem _ hw)
   have h0 : 0 < a.length := List.length_pos_iff.2 (h a (by simp))
   rw [List.flatten_cons, List.length_append, List.length_cons]; omega
 have := this ws h4
 rw [h2] at this; omega
theorem len_runs {g : Wd -> List Vl} {u : Wd} {M : Nat} {p : Nat -> Bool} (hM : u.length < M) : ((runL g u.length u).filter fun xs => p xs.length).length = ((List.range M).map fun t => if p t then (runT g t u).length else 0).sum :=
 len_keys fun xs hx => by have := runL_short hx; omega
def cntN (l : List Nd) (i : Nat) (u : Wd) : Nat := (vlsN l (i + 1) i u).length
def cntT (l : List Nd) (i t : Nat) (u : Wd) : Nat := (runT (vlsN l (i + 1) i) t u).length
section
variable {l : List Nd} {i : Nat} {u : Wd} (hF : Form l)
include hF
theorem vls_mem_eq {f : Nat} (hi : i < l.length) (hif : i < f) {x : Vl} {u : Wd} : x ∈ vlsN l f i u ↔ x ∈ vlsN l (i + 1) i u :=
 (mem_vls hF f i u x hi hif).trans (mem_vls hF (i + 1) i u x hi (by omega)).symm
theorem vls_det {f : Nat} (hi : i < l.length) (hif : i < f) (x : Vl) (u u' : Wd) (h : x ∈ vlsN l f i u) (h' : x ∈ vlsN l f i u') : u = u' :=
 Option.some.inj (((mem_vls hF f i u x hi hif).1 h).symm.trans ((mem_vls hF f i u' x hi hif).1 h'))
theorem cnt_eq {f : Nat} (hi : i < l.length) (hif : i < f) {u : Wd} : (vlsN l f i u).length = cntN l i u :=
 ((List.perm_ext_iff_of_nodup (nodup_vls hF f i u hi hif) (nodup_vls hF (i + 1) i u hi (by omega))).2 fun x => vls_mem_eq hF hi hif).length_eq
theorem cntT_eq {f t : Nat} (hi : i < l.length) (hif : i < f) {u : Wd} : (runT (vlsN l f i) t u).length = cntT l i t u :=
 ((List.perm_ext_iff_of_nodup (nodup_runT (fun u => nodup_vls hF f i u hi hif) (vls_det hF hi hif)) (nodup_runT (fun u => nodup_vls hF (i + 1) i u hi (by omega)) (vls_det hF hi (by omega)))).2 fun xs => by
   rw [mem_runT, mem_runT]
   constructor
   ·rintro ⟨h, ws, h1, h2, h3, h4⟩; exact ⟨h, ws, h1, h2, fun j hj => (vls_mem_eq hF hi hif).1 (h3 j hj), h4⟩
   ·rintro ⟨h, ws, h1, h2, h3, h4⟩; exact ⟨h, ws, h1, h2, fun j hj => (vls_mem_eq hF hi hif).2 (h3 j hj), h4⟩).length_eq
theorem cntT_zero (hi : i < l.length) : cntT l i 0 u = if u = [] then 1 else 0 :=
 len_zero (fun u => nodup_vls hF (i + 1) i u hi (by omega)) (vls_det hF hi (by omega))
theorem cntT_more {t : Nat} (hi : i < l.length) : cntT l i (t + 1) u = ((List.range u.length).map fun k => cntT l i t (u.take k) * cntN l i (u.drop k)).sum :=
 len_more (fun u => nodup_vls hF (i + 1) i u hi (by omega)) (vls_det hF hi (by omega))
omit hF in
theorem cnt_k1 (hk : (atN l i).kind = 1) : cntN l i u = if u = [] then 1 else 0 := by
 unfold cntN vlsN; rw [if_pos hk]; split <;> rfl
omit hF in
theorem cnt_k2 (hk : (atN l i).kind = 2) : cntN l i u = if u.length = 1 /\ (atN l i).cls.getLsbD (u.getD 0 0).toNat = true then 1 else 0 := by
 unfold cntN vlsN; rw [if_neg (by omega), if_pos hk]; split <;> rfl
omit hF in
theorem cnt_k3 (hk : (atN l i).kind = 3) : cntN l i u = if u = (atN l i).text then 1 else 0 := by
 unfold cntN vlsN; rw [if_neg (by omega), if_neg (by omega), if_pos hk]; split <;> rfl
theorem cnt_kidA (hi : i < l.length) (hk : 4 <= (atN l i).kind) : (atN l i).a.toNat < i := by
 have hcs := (hF.2.1 i hi).cs rfl
 cases hcs with
 | leaf h1 hf => unfold leafK at h1; omega
 | one h1 hi0 ha hb h7 hr hcl hf => omega
 | two h1 hi0 hb ha hf0 hl hcl hf => have := firstP_le l (i - 1); omega
theorem cnt_kidB (hi : i < l.length) (hk : (atN l i).kind = 4 \/ (atN l i).kind = 5) : (atN l i).b.toNat < i := by
 have hcs := (hF.2.1 i hi).cs rfl
 cases hcs with
 | leaf h1 hf => unfold leafK at h1; omega
 | one h1 hi0 ha hb h7 hr hcl hf => omega
 | two h1 hi0 hb ha hf0 hl hcl hf => omega
theorem cnt_k4 (hi : i < l.length) (hk : (atN l i).kind = 4) : cntN l i u = ((List.range (u.length + 1)).map fun k => cntN l (atN l i).a.toNat (u.take k) * cntN l (atN l i).b.toNat (u.drop k)).sum := by
 have ha := cnt_kidA hF hi (by omega)
 have hb := cnt_kidB hF hi (.inl hk)
 conv => lhs; unfold cntN vlsN
 rw [if_neg (by omega), if_neg (by omega), if_neg (by omega), if_pos hk, len_cut (m := fun x y => (⟨4, 0, [], 0, Vs.of [x, y]⟩ : Vl))]
 congr 1
 refine List.map_congr_left fun k _ => ?_
 rw [cnt_eq hF (by omega) ha, cnt_eq hF (by omega) hb]
theorem cnt_k5 (hi : i < l.length) (hk : (atN l i).kind = 5) : cntN l i u = cntN l (atN l i).a.toNat u + cntN l (atN l i).b.toNat u := by
 have ha := cnt_kidA hF hi (by omega)
 have hb := cnt_kidB hF hi (.inr hk)
 conv => lhs; unfold cntN vlsN
 rw [if_neg (by omega), if_neg (by omega), if_neg (by omega), if_neg (by omega), if_pos hk, List.length_append, List.length_map, List.length_map, cnt_eq hF (by omega) ha, cnt_eq hF (by omega) hb]
theorem cnt_k6 (hi : i < l.length) (hk : (atN l i).kind = 6) {M : Nat} (hM : u.length < M) : cntN l i u = ((List.range M).map fun t => cntT l (atN l i).a.toNat t u).sum := by
 have ha := cnt_kidA hF hi (by omega)
 conv => lhs; unfold cntN vlsN
 rw [if_neg (by omega), if_neg (by omega), if_neg (by omega), if_neg (by omega), if_neg (by omega), if_pos hk, List.length_map]
 have := len_runs (g := vlsN l i (atN l i).a.toNat) (p := fun _ => true) hM
 rw [List.filter_eq_self.2 (fun _ _ => rfl)] at this
 rw [this]
 congr 1
 refine List.map_congr_left fun k _ => ?_
 rw [if_pos rfl, cntT_eq hF (by omega) ha]
theorem cnt_k7 (hi : i < l.length) (hk : (atN l i).kind = 7) {M : Nat} (hM : u.length < M) : cntN l i u = ((List.range M).map fun (t : Nat) => if (atN l i).lo <= (t : Int) /\ (t : Int) <= (atN l i).hi then cntT l (atN l i).a.toNat t u else 0).sum := by
 have ha := cnt_kidA hF hi (by omega)
 conv => lhs; unfold cntN vlsN
 rw [if_neg (by omega), if_neg (by omega), if_neg (by omega), if_neg (by omega), if_neg (by omega), if_neg (by omega), if_pos hk, List.length_map]
 rw [len_runs (g := vlsN l i (atN l i).a.toNat) (p := fun t => decide ((atN l i).lo <= (t : Int) /\ (t : Int) <= (atN l i).hi)) hM]
 congr 1
 refine List.map_congr_left fun k _ => ?_
 simp only [decide_eq_true_eq]
 rw [cntT_eq hF (by omega) ha]
theorem cnt_k8 (hi : i < l.length) (hk : (atN l i).kind = 8) : cntN l i u = if 1 <= u.length /\ u.length - 1 <= 255 /\ u.getD 0 0 = byU (u.length - 1) then cntN l (atN l i).a.toNat (u.drop 1) else 0 := by
 have ha := cnt_kidA hF hi (by omega)
 conv => lhs; unfold cntN vlsN
 rw [if_neg (by omega), if_neg (by omega), if_neg (by omega), if_neg (by omega), if_neg (by omega), if_neg (by omega), if_neg (by omega), if_pos hk]
 split
 ·rw [List.length_map, cnt_eq hF (by omega) ha]
 ·rfl
theorem cnt_k9 (hi : i < l.length) (hk : (atN l i).kind = 9) : cntN l i u = if 2 <= u.length /\ u.length - 2 <= 65535 /\ u.getD 0 0 = byU ((u.length - 2) / 256) /\ u.getD 1 0 = byU ((u.length - 2) % 256) then cntN l (atN l i).a.toNat (u.drop 2) else 0 := by
 have ha := cnt_kidA hF hi (by omega)
 conv => lhs; unfold cntN vlsN
 rw [if_neg (by omega), if_neg (by omega), if_neg (by omega), if_neg (by omega), if_neg (by omega), if_neg (by omega), if_neg (by omega), if_neg (by omega), if_pos hk]
 split
 ·rw [List.length_map, cnt_eq hF (by omega) ha]
 ·rfl
end
theorem byU_nat {k : Nat} (h : k < 256) : (byU k).toNat = k := by unfold byU; rw [UInt8.toNat_ofNat']; omega
theorem sat_mul (x y : Nat) : min 2 (min 2 x * min 2 y) = min 2 (x * y) := by
 rcases Nat.lt_or_ge x 2 with h | h
 ·rcases (show x = 0 \/ x = 1 by omega) with h | h <;> subst h
  ·simp
  ·have : min 2 1 = 1 := rfl
   rw [this, Nat.one_mul, Nat.one_mul]; omega
 ·rcases Nat.eq_zero_or_pos y with h0 | h0
  ·subst h0; simp
  ·have h1 : 2 * 1 <= min 2 x * min 2 y := Nat.mul_le_mul (by omega) (by omega)
   have h2 : 2 * 1 <= x * y := Nat.mul_le_mul h h0
   omega
theorem sat_sum {α : Type} {f g : α -> Nat} : ∀ {l : List α}, (∀ x ∈ l, min 2 (f x) = min 2 (g x)) -> min 2 (l.map f).sum = min 2 (l.map g).sum
 | [], _ => rfl
 | a :: l, h => by
  have h1 := h a (by simp)
  have h2 := sat_sum fun x hx => h x (List.mem_cons_of_mem _ hx)
  rw [List.map_cons, List.map_cons, List.sum_cons, List.sum_cons]; omega
theorem smz {F : Nat -> Nat} : ∀ {m : Nat}, (∀ k, k < m -> F k = 0) -> ((List.range m).map F).sum = 0
 | 0, _ => rfl
 | m + 1, h => by
  rw [List.range_succ, List.map_append, List.sum_append, smz fun k hk => h k (by omega)]
  simp [h m (by omega)]
theorem sma {F : Nat -> Nat} {a : Nat} : ∀ {m : Nat}, ((List.range (a + m)).map F).sum = ((List.range a).map F).sum + ((List.range m).map fun j => F (a + j)).sum
 | 0 => rfl
 | m + 1 => by
  rw [<- Nat.add_assoc, List.range_succ, List.map_append, List.sum_append, sma, List.range_succ, List.map_append, List.sum_append]
  simp [Nat.add_assoc]
theorem sum_mid {F : Nat -> Nat} {a m n : Nat} (ha : a + m <= n) (h : ∀ k, k < n -> k < a \/ a + m <= k -> F k = 0) : ((List.range n).map F).sum = ((List.range m).map fun j => F (a + j)).sum := by
 obtain ⟨r, rfl⟩ : ∃ r, n = a + m + r := ⟨n - (a + m), by omega⟩
 rw [sma, sma, smz (m := a) fun k hk => h k (by omega) (.inl hk), smz (m := r) fun k hk => h _ (by omega) (.inr (by omega))]
 omega
def sgW (W : Wd) (a b : Nat) : Wd := (W.take b).drop a
theorem sgW_len {W : Wd} {a b : Nat} (hb : b <= W.length) : (sgW W a b).length = b - a := by
 unfold sgW; rw [List.length_drop, List.length_take]; omega
theorem sgW_take {W : Wd} {a b j : Nat} (h : a + j <= b) : (sgW W a b).take j = sgW W a (a + j) := by
 unfold sgW
 rw [List.take_drop, List.take_take, show min (a + j) b = a + j by omega]
theorem sgW_drop {W : Wd} {a b j : Nat} : (sgW W a b).drop j = sgW W (a + j) b := by
 unfold sgW; rw [List.drop_drop]
theorem sgW_of_take {W : Wd} {a b c : Nat} (h : b <= c) : sgW (W.take c) a b = sgW W a b := by
 unfold sgW; rw [List.take_take, show min b c = b by omega]
theorem sgW_nil {W : Wd} {a b : Nat} (hb : b <= W.length) (ha : a <= b) : sgW W a b = [] ↔ b = a := by
 rw [<- List.length_eq_zero_iff, sgW_len hb]; omega
theorem sgW_at {W : Wd} {a b j : Nat} (h : a + j < b) : (sgW W a b).getD j 0 = W.getD (a + j) 0 := by
 unfold sgW
 rw [List.getD_eq_getElem?_getD, List.getD_eq_getElem?_getD, List.getElem?_drop, List.getElem?_take_of_lt h]
def rowV (l : List Nd) (i : Nat) (W : Wd) (a b : Nat) : Nat := if a <= b then min 2 (cntN l i (sgW W a b)) else 0
def nowV (l : List Nd) (i : Nat) (W : Wd) (a t b : Nat) : Nat := if a <= b then min 2 (cntT l i t (sgW W a b)) else 0
theorem rowV_le {l : List Nd} {i : Nat} {W : Wd} {a b : Nat} : rowV l i W a b <= 2 := by unfold rowV; split <;> omega
theorem nowV_le {l : List Nd} {i : Nat} {W : Wd} {a b t : Nat} : nowV l i W a t b <= 2 := by unfold nowV; split <;> omega
section
variable {l : List Nd} {i : Nat} {W : Wd} {a b : Nat} (hF : Form l) (hi : i < l.length) (hb : b <= W.length)
theorem row_take {c : Nat} (hc : b <= c) : rowV l i (W.take c) a b = rowV l i W a b := by unfold rowV; rw [sgW_of_take hc]
include hb
theorem row_k1 (hk : (atN l i).kind = 1) : rowV l i W a b = if b = a then 1 else 0 := by
 unfold rowV
 by_cases h : a <= b
 ·rw [if_pos h, cnt_k1 hk]
  by_cases e : b = a
  ·rw [if_pos ((sgW_nil hb h).2 e), if_pos e]; rfl
  ·rw [if_neg (fun h' => e ((sgW_nil hb h).1 h')), if_neg e]; rfl
 ·rw [if_neg h, if_neg (by omega)]
theorem row_k2 (hk : (atN l i).kind = 2) : rowV l i W a b = if b = a + 1 /\ (atN l i).cls.getLsbD (W.getD a 0).toNat = true then 1 else 0 := by
 unfold rowV
 by_cases h : a <= b
 ·rw [if_pos h, cnt_k2 hk, sgW_len hb]
  by_cases e : b = a + 1
  ·have := sgW_at (W := W) (a := a) (b := b) (j := 0) (by omega)
   rw [Nat.add_zero] at this
   rw [this]
   by_cases hc : (atN l i).cls.getLsbD (W.getD a 0).toNat = true
   ·rw [if_pos ⟨by omega, hc⟩, if_pos ⟨e, hc⟩]; rfl
   ·rw [if_neg (fun h => hc h.2), if_neg (fun h => hc h.2)]; rfl
  ·rw [if_neg (by omega), if_neg (fun h => e h.1)]; rfl
 ·rw [if_neg h, if_neg (by omega)]
theorem row_k3 (hk : (atN l i).kind = 3) : rowV l i W a b = if b = a + (atN l i).text.length /\ sgW W a b = (atN l i).text then 1 else 0 := by
 unfold rowV
 by_cases h : a <= b
 ·rw [if_pos h, cnt_k3 hk]
  by_cases e : sgW W a b = (atN l i).text
  ·have := congrArg List.length e
   rw [sgW_len hb] at this
   rw [if_pos e, if_pos ⟨by omega, e⟩]; rfl
  ·rw [if_neg e, if_neg (fun h => e h.2)]; rfl
 ·rw [if_neg h, if_neg (by omega)]
include hF hi
theorem row_k4 (hk : (atN l i).kind = 4) : min 2 ((List.range (W.length + 1)).map fun j => rowV l (atN l i).a.toNat W a j * rowV l (atN l i).b.toNat W j b).sum = rowV l i W a b := by
 conv => rhs; unfold rowV
 by_cases h : a <= b
 ·rw [if_pos h, cnt_k4 hF hi hk, sgW_len hb]
  rw [sum_mid (a := a) (m := b - a + 1) (by omega)]
  ·refine sat_sum fun j hj => ?_
   have hj := List.mem_range.1 hj
   unfold rowV
   rw [if_pos (by omega), if_pos (by omega), sgW_take (by omega), sgW_drop, sat_mul]
  ·intro k hk' ho
   unfold rowV
   rcases ho with ho | ho
   ·rw [if_neg (by omega), Nat.zero_mul]
   ·rw [if_neg (c := k <= b) (by omega), Nat.mul_zero]
 ·rw [if_neg h, smz]; · rfl
  intro k hk'
  unfold rowV
  by_cases h1 : a <= k
  ·rw [if_neg (c := k <= b) (by omega), Nat.mul_zero]
  ·rw [if_neg h1, Nat.zero_mul]
theorem row_k5 (hk : (atN l i).kind = 5) : min 2 (rowV l (atN l i).a.toNat W a b + 1 * rowV l (atN l i).b.toNat W a b) = rowV l i W a b := by
 unfold rowV
 by_cases h : a <= b
 ·rw [if_pos h, if_pos h, if_pos h, cnt_k5 hF hi hk]; omega
 ·rw [if_neg h, if_neg h, if_neg h]; rfl
theorem now_zero : nowV l i W a 0 b = if b = a then 1 else 0 := by
 unfold nowV
 by_cases h : a <= b
 ·rw [if_pos h, cntT_zero hF hi]
  by_cases e : b = a
  ·rw [if_pos ((sgW_nil hb h).2 e), if_pos e]; rfl
  ·rw [if_neg (fun h' => e ((sgW_nil hb h).1 h')), if_neg e]; rfl
 ·rw [if_neg h, if_neg (by omega)]
theorem now_more {t : Nat} : min 2 ((List.range (W.length + 1)).map fun j => nowV l i W a t j * (if b = j then 0 else rowV l i W j b)).sum = nowV l i W a (t + 1) b := by
 conv => rhs; unfold nowV
 by_cases h : a <= b
 ·rw [if_pos h, cntT_more hF hi, sgW_len hb]
  rw [sum_mid (a := a) (m := b - a) (by omega)]
  ·refine sat_sum fun j hj => ?_
   have hj := List.mem_range.1 hj
   unfold rowV nowV
   rw [if_pos (by omega), if_neg (by omega), if_pos (by omega), sgW_take (by omega), sgW_drop, sat_mul]
  ·intro k hk' ho
   unfold rowV nowV
   rcases ho with ho | ho
   ·rw [if_neg (by omega), Nat.zero_mul]
   ·by_cases e : b = k
    ·rw [if_pos e, Nat.mul_zero]
    ·rw [if_neg e, if_neg (c := k <= b) (by omega), Nat.mul_zero]
 ·rw [if_neg h, smz]; · rfl
  intro k hk'
  unfold rowV nowV
  by_cases h1 : a <= k
  ·rw [if_neg (c := b = k) (by omega), if_neg (c := k <= b) (by omega), Nat.mul_zero]
  ·rw [if_neg h1, Nat.zero_mul]
theorem row_k7 (hk : (atN l i).kind = 7) : min 2 ((List.range (W.length + 2)).map fun (t : Nat) => if (atN l i).lo <= (t : Int) /\ (t : Int) <= (atN l i).hi then nowV l (atN l i).a.toNat W a t b else 0).sum = rowV l i W a b := by
 unfold rowV
 by_cases h : a <= b
 ·rw [if_pos h, cnt_k7 hF hi hk (M := W.length + 2) (by rw [sgW_len hb]; omega)]
  refine sat_sum fun t _ => ?_
  split
  ·unfold nowV; rw [if_pos h]; omega
  ·rfl
 ·rw [if_neg h, smz]; · rfl
  intro k _; unfold nowV; rw [if_neg h]; split <;> rfl
theorem row_k8 (hk : (atN l i).kind = 8) : rowV l i W a b = if a < W.length /\ b = a + 1 + (W.getD a 0).toNat then rowV l (atN l i).a.toNat W (a + 1) b else 0 := by
 unfold rowV
 have hx := UInt8.toNat_lt (W.getD a 0)
 by_cases h : a <= b
 ·rw [if_pos h, cnt_k8 hF hi hk, sgW_len hb]
  by_cases h1 : a < b
  ·have e := sgW_at (W := W) (a := a) (b := b) (j := 0) (by omega)
   rw [Nat.add_zero] at e
   rw [e, sgW_drop, if_pos (c := a + 1 <= b) (by omega)]
   by_cases hc : b = a + 1 + (W.getD a 0).toNat
   ·rw [if_pos ⟨by omega, by omega, UInt8.toNat.inj (by rw [byU_nat (by omega)]; omega)⟩, if_pos ⟨by omega, hc⟩]
   ·rw [if_neg (c := a < W.length /\ b = a + 1 + (W.getD a 0).toNat) (fun h => hc h.2), if_neg]; · rfl
    rintro ⟨h2, h3, h4⟩
    have := congrArg UInt8.toNat h4
    rw [byU_nat (by omega)] at this; omega
  ·rw [if_neg (c := 1 <= b - a /\ _) (by omega), if_neg (by omega)]; rfl
 ·rw [if_neg h, if_neg (by omega)]
theorem row_k9 (hk : (atN l i).kind = 9) : rowV l i W a b = if a + 1 < W.length /\ b = a + 2 + 256 * (W.getD a 0).toNat + (W.getD (a + 1) 0).toNat then rowV l (atN l i).a.toNat W (a + 2) b else 0 := by
 unfold rowV
 have hx := UInt8.toNat_lt (W.getD a 0)
 have hy := UInt8.toNat_lt (W.getD (a + 1) 0)
 by_cases h : a <= b
 ·rw [if_pos h, cnt_k9 hF hi hk, sgW_len hb]
  by_cases h1 : a + 1 < b
  ·have e := sgW_at (W := W) (a := a) (b := b) (j := 0) (by omega)
   have e' := sgW_at (W := W) (a := a) (b := b) (j := 1) (by omega)
   rw [Nat.add_zero] at e
   rw [e, e', sgW_drop, if_pos (c := a + 2 <= b) (by omega)]
   by_cases hc : b = a + 2 + 256 * (W.getD a 0).toNat + (W.getD (a + 1) 0).toNat
   ·rw [if_pos ⟨by omega, by omega, UInt8.toNat.inj (by rw [byU_nat (by omega)]; omega), UInt8.toNat.inj (by rw [byU_nat (by omega)]; omega)⟩, if_pos ⟨by omega, hc⟩]
   ·rw [if_neg (c := a + 1 < W.length /\ b = a + 2 + 256 * (W.getD a 0).toNat + (W.getD (a + 1) 0).toNat) (fun h => hc h.2), if_neg]; · rfl
    rintro ⟨h2, h3, h4, h5⟩
    have h4 := congrArg UInt8.toNat h4
    have h5 := congrArg UInt8.toNat h5
    rw [byU_nat (by omega)] at h4 h5; omega
  ·rw [if_neg (c := 2 <= b - a /\ _) (by omega), if_neg (by omega)]; rfl
 ·rw [if_neg h, if_neg (by omega)]
end
end Go.Proofs.Ytpbbokdmoaadfaa
