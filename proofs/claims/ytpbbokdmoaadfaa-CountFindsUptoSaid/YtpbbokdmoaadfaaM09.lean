/- What the statements ask of spans: plain mathematics. -/
import Derived.Test.YtpbbokdmoaadfaaM08
import Derived.Test.YtpbbokdmoaadfaaM03
import Derived.Test.YtpbbokdmoaadfaaM04
namespace Go.Proofs.Ytpbbokdmoaadfaa
set_option maxHeartbeats 64000000
set_option maxRecDepth 1000000
set_option linter.all false
open Go
inductive Vs where
 | nil
 | cons (kind : Int) (byte : UInt8) (text : List UInt8) (pick : Int) (kids : Vs) (rest : Vs)
structure Vl where
 kind : Int
 byte : UInt8
 text : List UInt8
 pick : Int
 kids : Vs
def vl0 : Vl := ⟨0, 0, [], 0, .nil⟩
def Vs.list : Vs -> List Vl
 | .nil => []
 | .cons k b t p ks r => ⟨k, b, t, p, ks⟩ :: r.list
def Vs.of : List Vl -> Vs
 | [] => .nil
 | v :: vs => .cons v.kind v.byte v.text v.pick v.kids (Vs.of vs)
theorem Vs.of_list : ∀ s, Vs.of s.list = s
 | .nil => rfl
 | .cons k b t p ks r => by rw [Vs.list, Vs.of, Vs.of_list r]
theorem Vs.list_of : ∀ l, (Vs.of l).list = l
 | [] => rfl
 | v :: l => by rw [Vs.of, Vs.list, Vs.list_of l]
def Vs.len (s : Vs) : Nat := s.list.length
def Vs.at (s : Vs) (j : Nat) : Vl := s.list.getD j vl0
def cntVs : Vs -> Nat
 | .nil => 0
 | .cons _ _ _ _ ks r => 1 + cntVs ks + cntVs r
def cntV (v : Vl) : Nat := 1 + cntVs v.kids
theorem cntVs_list : ∀ s, cntVs s = (s.list.map cntV).sum
 | .nil => rfl
 | .cons k b t p ks r => by rw [cntVs, cntVs_list r, Vs.list, List.map_cons, List.sum_cons]; rfl
theorem cntVs_at : ∀ (s : Vs) (j : Nat), j < s.len -> cntV (s.at j) <= cntVs s
 | .nil, j, h => absurd h (Nat.not_lt_zero j)
 | .cons k b t p ks r, 0, h => by show 1 + cntVs ks <= _; rw [cntVs]; omega
 | .cons k b t p ks r, j + 1, h => by
  have := cntVs_at r j (by unfold Vs.len at h ⊢; rw [Vs.list, List.length_cons] at h; omega)
  have e : (Vs.cons k b t p ks r).at (j + 1) = r.at j := rfl
  rw [e, cntVs]; omega
theorem cntVs_len : ∀ s : Vs, s.len <= cntVs s
 | .nil => Nat.le_refl _
 | .cons k b t p ks r => by
  have := cntVs_len r
  unfold Vs.len at this ⊢
  rw [Vs.list, List.length_cons, cntVs]; omega
theorem cntV_kid {v : Vl} {i : Nat} (h : i < v.kids.len) : cntV (v.kids.at i) < cntV v := by
 have := cntVs_at v.kids i h
 unfold cntV at this ⊢
 omega
theorem Vs.at_get {s : Vs} {i : Nat} (h : i < s.len) : s.list[i]? = some (s.at i) := by
 unfold Vs.at Vs.len at *
 rw [List.getD_eq_getElem?_getD, List.getElem?_eq_getElem h]; rfl
theorem Vs.mem_at {s : Vs} {v : Vl} (h : v ∈ s.list) : ∃ i, i < s.len /\ s.at i = v := by
 obtain ⟨i, hi, rfl⟩ := List.mem_iff_getElem.1 h
 exact ⟨i, hi, by unfold Vs.at; rw [List.getD_eq_getElem?_getD, List.getElem?_eq_getElem hi]; rfl⟩
theorem Vl.kids_ind {P : Vl -> Prop} (h : ∀ v, (∀ x ∈ v.kids.list, P x) -> P v) : ∀ v, P v := fun v => by
 generalize hn : cntV v = n
 induction n using Nat.strongRecOn generalizing v with
 | ind n ih =>
  refine h v (fun x hx => ?_)
  obtain ⟨i, hi, rfl⟩ := Vs.mem_at hx
  exact ih _ (by have := cntV_kid hi; omega) _ rfl
def kidN (n : Nd) (p : Int) (j : Nat) : Int := if n.kind = 4 /\ j = 1 \/ n.kind = 5 /\ p = 1 then n.b else n.a
def headV (n : Nd) (k : Int) (b : UInt8) (t : List UInt8) (p : Int) (c : Nat) : Prop :=
 k = n.kind /\ (n.kind ≠ 2 -> b = 0) /\ (n.kind = 2 -> n.cls.getLsbD b.toNat = true) /\ t = (if n.kind = 3 then n.text else []) /\ (p = 0 \/ (n.kind = 5 /\ p = 1)) /\
   (n.kind = 1 \/ n.kind = 2 \/ n.kind = 3 -> c = 0) /\ (n.kind = 4 -> c = 2) /\ (n.kind = 5 \/ n.kind = 8 \/ n.kind = 9 -> c = 1) /\ (n.kind = 7 -> n.lo <= (c : Int) /\ (c : Int) <= n.hi)
instance (n : Nd) (k : Int) (b : UInt8) (t : List UInt8) (p : Int) (c : Nat) : Decidable (headV n k b t p c) := by unfold headV; infer_instance
abbrev Wd := List UInt8
def catW : List (Option Wd) -> Option Wd
 | [] => some []
 | none :: _ => none
 | some w :: rs => (catW rs).map (w ++ ·)
def fullW (n : Nd) (rs : List (Option Wd)) : Prop := n.kind = 6 \/ n.kind = 7 -> some [] ∉ rs
instance (n : Nd) (rs : List (Option Wd)) : Decidable (fullW n rs) := by unfold fullW; infer_instance
def byU (n : Nat) : UInt8 := UInt8.ofNat n
def capW (n : Nd) (b : UInt8) (w : Wd) : Option Wd :=
 if n.kind = 2 then some [b] else if n.kind = 3 then some n.text
 else if n.kind = 8 then (if w.length <= 255 then some (byU w.length :: w) else none)
 else if n.kind = 9 then (if w.length <= 65535 then some (byU (w.length / 256) :: byU (w.length % 256) :: w) else none)
 else some w
def valW (n : Nd) (k : Int) (b : UInt8) (t : List UInt8) (p : Int) (rs : List (Option Wd)) : Option Wd :=
 if headV n k b t p rs.length /\ fullW n rs then (catW rs).bind (capW n b) else none
def wrS (l : List Nd) : (Nat -> Nat) -> Vs -> List (Option Wd)
 | _, .nil => []
 | f, .cons k b t p ks r => valW (atN l (f 0)) k b t p (wrS l (fun j => (kidN (atN l (f 0)) p j).toNat) ks) :: wrS l (fun j => f (j + 1)) r
def wrV (l : List Nd) (i : Nat) (v : Vl) : Option Wd := valW (atN l i) v.kind v.byte v.text v.pick (wrS l (fun j => (kidN (atN l i) v.pick j).toNat) v.kids)
theorem wrS_length (l : List Nd) : ∀ (f : Nat -> Nat) (s : Vs), (wrS l f s).length = s.len
 | f, .nil => rfl
 | f, .cons k b t p ks r => by
  have := wrS_length l (fun j => f (j + 1)) r
  unfold Vs.len at this ⊢
  rw [wrS, List.length_cons, this, Vs.list, List.length_cons]
theorem wrS_get (l : List Nd) : ∀ (f : Nat -> Nat) (s : Vs) (j : Nat), j < s.len -> (wrS l f s)[j]? = some (wrV l (f j) (s.at j))
 | f, .nil, j, h => absurd h (Nat.not_lt_zero j)
 | f, .cons k b t p ks r, 0, h => rfl
 | f, .cons k b t p ks r, j + 1, h => by
  rw [wrS, List.getElem?_cons_succ, wrS_get l _ r j (by unfold Vs.len at h ⊢; rw [Vs.list, List.length_cons] at h; omega)]; rfl
theorem wrS_eq {l : List Nd} {f : Nat -> Nat} {s : Vs} {rs : List (Option Wd)} (hl : rs.length = s.len) (h : ∀ j, j < s.len -> rs[j]? = some (wrV l (f j) (s.at j))) : wrS l f s = rs := by
 refine List.ext_getElem? (fun j => ?_)
 rcases Nat.lt_or_ge j s.len with hj | hj
 ·rw [wrS_get l f s j hj, h j hj]
 ·rw [List.getElem?_eq_none (by rw [wrS_length]; exact hj), List.getElem?_eq_none (by omega)]
theorem catW_some : ∀ {rs : List (Option Wd)} {w : Wd}, catW rs = some w -> ∀ r ∈ rs, ∃ x, r = some x
 | [], w, h, r, hr => by cases hr
 | none :: rs, w, h, r, hr => by cases h
 | some y :: rs, w, h, r, hr => by
  rw [catW] at h
  rcases hc : catW rs with _ | z
  ·rw [hc] at h; cases h
  ·rcases List.mem_cons.1 hr with e | e
   ·exact ⟨y, e⟩
   ·exact catW_some hc r e
theorem catW_all : ∀ (ws : List Wd), catW (ws.map some) = some ws.flatten
 | [] => rfl
 | w :: ws => by rw [List.map_cons, catW, catW_all ws]; rfl
theorem catW_iff {rs : List (Option Wd)} {w : Wd} : catW rs = some w ↔ ∃ ws : List Wd, rs = ws.map some /\ w = ws.flatten := by
 constructor
 ·intro h
  have hs := catW_some h
  have : ∃ ws : List Wd, rs = ws.map some := by
   clear h
   induction rs with
   | nil => exact ⟨[], rfl⟩
   | cons r rs ih =>
    obtain ⟨x, rfl⟩ := hs r (by simp)
    obtain ⟨ws, rfl⟩ := ih (fun r hr => hs r (List.mem_cons_of_mem _ hr))
    exact ⟨x :: ws, rfl⟩
  obtain ⟨ws, rfl⟩ := this
  rw [catW_all] at h
  exact ⟨ws, rfl, by injection h with h; exact h.symm⟩
 ·rintro ⟨ws, rfl, rfl⟩
  exact catW_all ws
theorem valW_some {n : Nd} {k : Int} {b : UInt8} {t : List UInt8} {p : Int} {rs : List (Option Wd)} {w : Wd} : valW n k b t p rs = some w ↔ headV n k b t p rs.length /\ fullW n rs /\ ∃ ws : List Wd, rs = ws.map some /\ capW n b ws.flatten = some w := by
 unfold valW
 constructor
 ·intro h
  split at h
  ·rename_i h1
   rcases hc : catW rs with _ | x
   ·rw [hc] at h; cases h
   ·rw [hc] at h
    obtain ⟨ws, e1, e2⟩ := catW_iff.1 hc
    exact ⟨h1.1, h1.2, ws, e1, by rw [<- e2]; exact h⟩
  ·cases h
 ·rintro ⟨h1, h2, ws, rfl, h3⟩
  rw [if_pos ⟨h1, h2⟩, catW_all]; exact h3
theorem wrV_some {l : List Nd} {i : Nat} {v : Vl} {w : Wd} (h : wrV l i v = some w) : headV (atN l i) v.kind v.byte v.text v.pick v.kids.len /\
 ∃ ws : List Wd, ws.length = v.kids.len /\ (∀ j, j < v.kids.len -> wrV l (kidN (atN l i) v.pick j).toNat (v.kids.at j) = some (ws.getD j [])) /\ ((atN l i).kind = 6 \/ (atN l i).kind = 7 -> ∀ x ∈ ws, x ≠ []) /\ capW (atN l i) v.byte ws.flatten = some w := by
 unfold wrV at h
 obtain ⟨h1, h2, ws, h3, h4⟩ := valW_some.1 h
 rw [wrS_length] at h1
 have hl : ws.length = v.kids.len := by rw [<- wrS_length l _ v.kids, h3, List.length_map]
 refine ⟨h1, ws, hl, fun j hj => ?_, fun hk x hx e => ?_, h4⟩
 ·have := wrS_get l (fun j => (kidN (atN l i) v.pick j).toNat) v.kids j hj
  rw [h3, List.getElem?_map, List.getElem?_eq_getElem (by omega)] at this
  injection this with this
  rw [<- this, List.getD_eq_getElem?_getD, List.getElem?_eq_getElem (by omega)]; rfl
 ·refine h2 hk ?_
  rw [h3, <- e]
  exact List.mem_map_of_mem hx
theorem wrV_of {l : List Nd} {i : Nat} {v : Vl} {w : Wd} {ws : List Wd} (h1 : headV (atN l i) v.kind v.byte v.text v.pick v.kids.len) (hl : ws.length = v.kids.len) (h : ∀ j, j < v.kids.len -> wrV l (kidN (atN l i) v.pick j).toNat (v.kids.at j) = some (ws.getD j []))
 (hf : (atN l i).kind = 6 \/ (atN l i).kind = 7 -> ∀ x ∈ ws, x ≠ []) (hc : capW (atN l i) v.byte ws.flatten = some w) : wrV l i v = some w := by
 unfold wrV
 rw [wrS_eq (rs := ws.map some) (by rw [List.length_map]; exact hl) (fun j hj => by
  rw [h j hj, List.getElem?_map, List.getElem?_eq_getElem (by omega), List.getD_eq_getElem?_getD, List.getElem?_eq_getElem (by omega)]; rfl)]
 refine valW_some.2 ⟨by rw [List.length_map, hl]; exact h1, fun hk hm => ?_, ws, rfl, hc⟩
 obtain ⟨x, hx, e⟩ := List.mem_map.1 hm
 injection e with e
 exact hf hk x hx e
theorem wrV_len {l : List Nd} {m : Nat} (hm : ∀ n ∈ l, n.text.length <= m) : ∀ v i w, wrV l i v = some w -> w.length <= (m + 2) * cntV v := fun v => by
 induction v using Vl.kids_ind with
 | h v ih =>
  intro i w h
  obtain ⟨h1, ws, hl, hk, -, hc⟩ := wrV_some h
  have key : ws.flatten.length <= (m + 2) * cntVs v.kids := by
   have e : cntVs v.kids = (v.kids.list.map cntV).sum := cntVs_list _
   have hle : ∀ (us : List Wd) (vs : List Vl), us.length = vs.length -> (∀ j, j < us.length -> (us.getD j []).length <= (m + 2) * cntV (vs.getD j vl0)) -> us.flatten.length <= (m + 2) * (vs.map cntV).sum := fun us => by
    induction us with
    | nil => intro vs _ _; simp
    | cons u us ihu =>
     intro vs hl hh
     cases vs with
     | nil => cases hl
     | cons y vs =>
      have h0 := hh 0 (by simp)
      have h2 := ihu vs (by simpa using hl) (fun j hj => by have := hh (j + 1) (by simpa using hj); simpa using this)
      rw [List.flatten_cons, List.length_append, List.map_cons, List.sum_cons, Nat.mul_add]
      simp at h0
      omega
   rw [e]
   refine hle ws v.kids.list (by rw [hl]; rfl) (fun j hj => ?_)
   have hj2 : j < v.kids.len := by omega
   exact ih (v.kids.at j) (by have := Vs.at_get hj2; exact List.mem_of_getElem? this) _ _ (hk j hj2)
  have htx : (atN l i).text.length <= m := by
   unfold atN
   rw [List.getD_eq_getElem?_getD]
   rcases Nat.lt_or_ge i l.length with hi | hi
   ·rw [List.getElem?_eq_getElem hi]; exact hm _ (List.getElem_mem hi)
   ·rw [List.getElem?_eq_none hi]; exact Nat.zero_le _
  have e : (m + 2) * cntV v = (m + 2) + (m + 2) * cntVs v.kids := by unfold cntV; rw [Nat.mul_add, Nat.mul_one]
  rw [e]
  unfold capW at hc
  split at hc
  ·injection hc with hc; subst hc; simp; omega
  ·split at hc
   ·injection hc with hc; subst hc; omega
   ·split at hc
    ·split at hc
     ·injection hc with hc; subst hc; rw [List.length_cons]; omega
     ·cases hc
    ·split at hc
     ·split at hc
      ·injection hc with hc; subst hc; rw [List.length_cons, List.length_cons]; omega
      ·cases hc
     ·injection hc with hc; subst hc; omega
def wrD (l : List Nd) (v : Vl) : Option Wd := wrV l (l.length - 1) v
def inBy (l : List UInt8) (i a b : Nat) : Bool := match l[i]? with
 | none => false
 | some c => decide (a <= c.toNat) && decide (c.toNat <= b)
def nextU (l : List UInt8) (i : Nat) : Option Nat :=
 let c := (l.getD i 0).toNat
 if c < 128 then some 1
 else if (194 <= c /\ c <= 223) /\ inBy l (i + 1) 128 191 = true then some 2
 else if c = 224 /\ inBy l (i + 1) 160 191 = true /\ inBy l (i + 2) 128 191 = true then some 3
 else if ((225 <= c /\ c <= 236) \/ c = 238 \/ c = 239) /\ inBy l (i + 1) 128 191 = true /\ inBy l (i + 2) 128 191 = true then some 3
 else if c = 237 /\ inBy l (i + 1) 128 159 = true /\ inBy l (i + 2) 128 191 = true then some 3
 else if c = 240 /\ inBy l (i + 1) 144 191 = true /\ inBy l (i + 2) 128 191 = true /\ inBy l (i + 3) 128 191 = true then some 4
 else if (241 <= c /\ c <= 243) /\ inBy l (i + 1) 128 191 = true /\ inBy l (i + 2) 128 191 = true /\ inBy l (i + 3) 128 191 = true then some 4
 else if c = 244 /\ inBy l (i + 1) 128 143 = true /\ inBy l (i + 2) 128 191 = true /\ inBy l (i + 3) 128 191 = true then some 4
 else none
theorem inB_drop (l : List UInt8) (i k a b : Nat) : inBy l (i + k) a b = inBy (l.drop i) k a b := by unfold inBy; rw [List.getElem?_drop]
theorem nextU_drop (l : List UInt8) (i : Nat) : nextU l i = nextU (l.drop i) 0 := by
 unfold nextU
 simp only [inB_drop l i, Nat.zero_add, List.getD_eq_getElem?_getD, List.getElem?_drop, Nat.add_zero]
theorem inB_cons (c : UInt8) (l : List UInt8) (i a b : Nat) : inBy (c :: l) (i + 1) a b = inBy l i a b := id rfl
theorem inB_head (c : UInt8) (l : List UInt8) (a b : Nat) : inBy (c :: l) 0 a b = tailB a b c := id rfl
theorem inB_nil (i a b : Nat) : inBy [] i a b = false := id rfl
theorem utf8_next0 (c : UInt8) (l : List UInt8) : utf8L (c :: l) = match nextU (c :: l) 0 with
 | none => false
 | some k => utf8L ((c :: l).drop k) := by
 unfold nextU
 simp only [Nat.zero_add, inB_cons, show (c :: l).getD 0 0 = c from rfl]
 conv => lhs; unfold utf8L
 by_cases h1 : c.toNat < 128
 ·simp [h1]
 by_cases h2 : 194 <= c.toNat /\ c.toNat <= 223
 ·have g1 : ¬ c.toNat = 224 := by omega
  have g2 : ¬ (225 <= c.toNat /\ c.toNat <= 236 \/ c.toNat = 238 \/ c.toNat = 239) := by omega
  have g3 : ¬ c.toNat = 237 := by omega
  have g4 : ¬ c.toNat = 240 := by omega
  have g5 : ¬ (241 <= c.toNat /\ c.toNat <= 243) := by omega
  have g6 : ¬ c.toNat = 244 := by omega
  simp only [h1, h2, g1, g2, g3, g4, g5, g6, if_false, if_true, false_and, true_and, and_self]
  cases l with
  | nil => simp [inB_nil]
  | cons b l => simp only [inB_head]; cases tailB 128 191 b <;> simp
 by_cases h3 : c.toNat = 224
 ·have g2 : ¬ (225 <= c.toNat /\ c.toNat <= 236 \/ c.toNat = 238 \/ c.toNat = 239) := by omega
  have g3 : ¬ c.toNat = 237 := by omega
  have g4 : ¬ c.toNat = 240 := by omega
  have g5 : ¬ (241 <= c.toNat /\ c.toNat <= 243) := by omega
  have g6 : ¬ c.toNat = 244 := by omega
  rw [h3] at h1 h2 g2 g3 g4 g5 g6
  simp only [h3, h1, h2, g2, g3, g4, g5, g6, if_false, if_true, false_and, true_and, and_self]
  cases l with
  | nil => simp [inB_nil]
  | cons b l => cases l with
   | nil => simp [inB_nil, inB_cons]
   | cons d l => simp only [inB_head, inB_cons]; cases tailB 160 191 b <;> cases tailB 128 191 d <;> simp
 by_cases h4 : c.toNat = 237
 ·have g2 : ¬ (225 <= c.toNat /\ c.toNat <= 236 \/ c.toNat = 238 \/ c.toNat = 239) := by omega
  have g4 : ¬ c.toNat = 240 := by omega
  have g5 : ¬ (241 <= c.toNat /\ c.toNat <= 243) := by omega
  have g6 : ¬ c.toNat = 244 := by omega
  rw [h4] at h1 h2 h3 g2 g4 g5 g6
  simp only [h4, h1, h2, h3, g2, g4, g5, g6, if_false, if_true, false_and, true_and, and_self]
  cases l with
  | nil => simp [inB_nil]
  | cons b l => cases l with
   | nil => simp [inB_nil, inB_cons]
   | cons d l => simp only [inB_head, inB_cons]; cases tailB 128 159 b <;> cases tailB 128 191 d <;> simp
 by_cases h5 : 225 <= c.toNat /\ c.toNat <= 239
 ·have g2 : (225 <= c.toNat /\ c.toNat <= 236 \/ c.toNat = 238 \/ c.toNat = 239) := by omega
  have g4 : ¬ c.toNat = 240 := by omega
  have g5 : ¬ (241 <= c.toNat /\ c.toNat <= 243) := by omega
  have g6 : ¬ c.toNat = 244 := by omega
  simp only [h4, h1, h2, h3, h5, g2, g4, g5, g6, if_false, if_true, false_and, true_and, and_self]
  cases l with
  | nil => simp [inB_nil]
  | cons b l => cases l with
   | nil => simp [inB_nil, inB_cons]
   | cons d l => simp only [inB_head, inB_cons]; cases tailB 128 191 b <;> cases tailB 128 191 d <;> simp [show c.toNat <= 236 \/ c.toNat = 238 \/ c.toNat = 239 by omega]
 have g2 : ¬ (225 <= c.toNat /\ c.toNat <= 236 \/ c.toNat = 238 \/ c.toNat = 239) := by omega
 by_cases h7 : c.toNat = 240
 ·have g5 : ¬ (241 <= c.toNat /\ c.toNat <= 243) := by omega
  have g6 : ¬ c.toNat = 244 := by omega
  rw [h7] at h1 h2 h3 h4 h5 g2 g5 g6
  simp only [h7, h4, h1, h2, h3, h5, g2, g5, g6, if_false, if_true, false_and, true_and, and_self]
  cases l with
  | nil => simp [inB_nil]
  | cons b l => cases l with
   | nil => simp [inB_nil, inB_cons]
   | cons d l => cases l with
    | nil => simp [inB_nil, inB_cons]
    | cons e l => simp only [inB_head, inB_cons]; cases tailB 144 191 b <;> cases tailB 128 191 d <;> cases tailB 128 191 e <;> simp
 by_cases h8 : 241 <= c.toNat /\ c.toNat <= 243
 ·have g6 : ¬ c.toNat = 244 := by omega
  simp only [h7, h8, h4, h1, h2, h3, h5, g2, g6, if_false, if_true, false_and, true_and, and_self]
  cases l with
  | nil => simp [inB_nil]
  | cons b l => cases l with
   | nil => simp [inB_nil, inB_cons]
   | cons d l => cases l with
    | nil => simp [inB_nil, inB_cons]
    | cons e l => simp only [inB_head, inB_cons]; cases tailB 128 191 b <;> cases tailB 128 191 d <;> cases tailB 128 191 e <;> simp
 by_cases h9 : c.toNat = 244
 ·rw [h9] at h1 h2 h3 h4 h5 h7 h8 g2
  simp only [h9, h7, h8, h4, h1, h2, h3, h5, g2, if_false, if_true, false_and, true_and, and_self]
  cases l with
  | nil => simp [inB_nil]
  | cons b l => cases l with
   | nil => simp [inB_nil, inB_cons]
   | cons d l => cases l with
    | nil => simp [inB_nil, inB_cons]
    | cons e l => simp only [inB_head, inB_cons]; cases tailB 128 143 b <;> cases tailB 128 191 d <;> cases tailB 128 191 e <;> simp
 simp only [h9, h7, h8, h4, h1, h2, h3, h5, g2, if_false, if_true, false_and, true_and, and_self]
 cases l with
 | nil => rfl
 | cons b l => cases l with
  | nil => rfl
  | cons d l => cases l with
   | nil => rfl
   | cons e l => rfl
theorem utf8_next {l : List UInt8} {i : Nat} (h : i < l.length) : utf8L (l.drop i) = match nextU l i with
 | none => false
 | some k => utf8L (l.drop (i + k)) := by
 rw [nextU_drop, List.drop_eq_getElem_cons h, utf8_next0, <- List.drop_eq_getElem_cons h]
 cases nextU (l.drop i) 0 with
 | none => rfl
 | some k => simp only; rw [List.drop_drop]
theorem inB_lt {l : List UInt8} {i a b : Nat} (h : inBy l i a b = true) : i < l.length := by
 unfold inBy at h
 cases hc : l[i]? with
 | none => rw [hc] at h; cases h
 | some c => exact (List.getElem?_eq_some_iff.1 hc).1
theorem nextU_le {l : List UInt8} {i k : Nat} (hi : i < l.length) (h : nextU l i = some k) : 0 < k /\ i + k <= l.length := by
 unfold nextU at h
 simp only at h
 split at h
 ·cases h; omega
 ·repeat' (split at h)
  all_goals first
   | (cases h; rename_i hh; have := inB_lt hh.2; omega)
   | (cases h; rename_i hh; have := inB_lt hh.2.2; omega)
   | (cases h; rename_i hh; have := inB_lt hh.2.2.2; omega)
   | cases h
end Go.Proofs.Ytpbbokdmoaadfaa
namespace Go.Proofs.Ytpbbokdmoaadfaa
set_option maxHeartbeats 64000000
set_option maxRecDepth 1000000
set_option linter.all false
open Go Go.RowKit
theorem in_any (l : List UInt8) (i a b : Nat) (hi : i < 9223372036854775807) (w : World) : Calls Try.prog 79 #[.string (bs l), .int .i64 (i : Int), .int .i64 (a : Int), .int .i64 (b : Int)] w (Pure w (.bool (inBy l i a b))) := by
 by_cases hlt : i < l.length
 ·have hl : inBy l i a b = (decide (a <= (l[i]'hlt).toNat) && decide ((l[i]'hlt).toNat <= b)) := by unfold inBy; rw [List.getElem?_eq_getElem hlt]
  have hq : i < (bs l).size := by rw [bs_size]; exact hlt
  have hq2 : (i : Int) < ((bs l).size : Int) := by omega
  have hget : (bs l)[i]'hq = l[i]'hlt := bs_get _ _ _
  have HL := Lib.hid hl
  have hc8 : ((l[i]'hlt).toNat : Int) <= 255 := by have := UInt8.toNat_lt (l[i]'hlt); omega
  generalize l[i]'hlt = c at *
  clear hl
  by_cases h1 : a <= c.toNat
  ·have h1z : (c.toNat : Int) >= (a : Int) := by omega
   by_cases h2 : c.toNat <= b
   ·have h2z : (c.toNat : Int) <= (b : Int) := by omega
    have HR : Hid (inBy l i a b = true) := by unfold Hid; rw [HL.out]; simp [h1, h2]
    clear hlt
    go_enter Try.func79, Try.ntmps79
    go_wp2
    go_ret
    exact ⟨by rw [HR.out]; rfl, rfl⟩
   ·have h2z : ¬ (c.toNat : Int) <= (b : Int) := by omega
    have HR : Hid (inBy l i a b = false) := by unfold Hid; rw [HL.out]; simp; omega
    clear hlt
    go_enter Try.func79, Try.ntmps79
    go_wp2
    go_ret
    exact ⟨by rw [HR.out]; rfl, rfl⟩
  ·have h1z : ¬ (c.toNat : Int) >= (a : Int) := by omega
   have HR : Hid (inBy l i a b = false) := by unfold Hid; rw [HL.out]; simp; omega
   clear hlt
   go_enter Try.func79, Try.ntmps79
   go_wp2
   go_ret
   exact ⟨by rw [HR.out]; rfl, rfl⟩
 ·have hq2 : ¬ (i : Int) < ((bs l).size : Int) := by rw [bs_size]; omega
  have HR : Hid (inBy l i a b = false) := by unfold Hid inBy; rw [List.getElem?_eq_none (by omega)]
  clear hlt
  go_enter Try.func79, Try.ntmps79
  go_wp2
  go_ret
  exact ⟨by rw [HR.out]; rfl, rfl⟩
def UtL (l : List UInt8) (w0 : World) (i : Value) (w : World) : Prop := ∃ k : Nat, k <= l.length /\ i = .int .i64 (k : Int) /\ utf8L l = utf8L (l.drop k) /\ w0 = w
theorem refutf8_any (l : List UInt8) (hl : l.length < 9223372036854775800) (w : World) : Calls Try.prog 65 #[.string (bs l)] w (Pure w (.bool (utf8L l))) := by
 obtain ⟨v, hv⟩ : ∃ v, utf8L l = v := ⟨_, rfl⟩
 rw [hv]
 have HV := Lib.hid hv
 clear hv
 go_enter Try.func65, Try.ntmps65
 go_wp2
 go_loopw [3] (UtL l w) (fun i _ => l.length - (intOf i).toNat)
 case atStart => exact ⟨0, Nat.zero_le _, rfl, rfl, rfl⟩
 case round =>
  obtain ⟨k, hk, rfl, hu, rfl⟩ := hrel
  have HU := Lib.hid hu
  clear hu
  by_cases hlt : k < l.length
  ·have hltz : (k : Int) < ((bs l).size : Int) := by rw [bs_size]; omega
   have hq : k < (bs l).size := by rw [bs_size]; exact hlt
   have hget : (bs l)[k]'hq = l.getD k 0 := by rw [bs_get, List.getD_eq_getElem?_getD, List.getElem?_eq_getElem hlt]; rfl
   have HN := Lib.hid (utf8_next hlt)
   have HNL := Lib.hid (fun j (h : nextU l k = some j) => nextU_le hlt h)
   have HC : Hid (nextU l k = _) := rfl
   have I1 : Hid (∀ w, Calls Try.prog 79 #[.string (bs l), .int .i64 ((k : Int) + 1), .int .i64 128, .int .i64 191] w (Pure w (.bool (inBy l (k + 1) 128 191)))) := fun w => in_any l (k + 1) 128 191 (by omega) w
   have I2 : Hid (∀ w, Calls Try.prog 79 #[.string (bs l), .int .i64 ((k : Int) + 2), .int .i64 128, .int .i64 191] w (Pure w (.bool (inBy l (k + 2) 128 191)))) := fun w => in_any l (k + 2) 128 191 (by omega) w
   have I3 : Hid (∀ w, Calls Try.prog 79 #[.string (bs l), .int .i64 ((k : Int) + 3), .int .i64 128, .int .i64 191] w (Pure w (.bool (inBy l (k + 3) 128 191)))) := fun w => in_any l (k + 3) 128 191 (by omega) w
   have J1 : Hid (∀ w, Calls Try.prog 79 #[.string (bs l), .int .i64 ((k : Int) + 1), .int .i64 160, .int .i64 191] w (Pure w (.bool (inBy l (k + 1) 160 191)))) := fun w => in_any l (k + 1) 160 191 (by omega) w
   have J2 : Hid (∀ w, Calls Try.prog 79 #[.string (bs l), .int .i64 ((k : Int) + 1), .int .i64 128, .int .i64 159] w (Pure w (.bool (inBy l (k + 1) 128 159)))) := fun w => in_any l (k + 1) 128 159 (by omega) w
   have J3 : Hid (∀ w, Calls Try.prog 79 #[.string (bs l), .int .i64 ((k : Int) + 1), .int .i64 144, .int .i64 191] w (Pure w (.bool (inBy l (k + 1) 144 191)))) := fun w => in_any l (k + 1) 144 191 (by omega) w
   have J4 : Hid (∀ w, Calls Try.prog 79 #[.string (bs l), .int .i64 ((k : Int) + 1), .int .i64 128, .int .i64 143] w (Pure w (.bool (inBy l (k + 1) 128 143)))) := fun w => in_any l (k + 1) 128 143 (by omega) w
   conv at HC => arg 1; rhs; unfold nextU
   have hc8 : ((l.getD k 0).toNat : Int) <= 255 := by have := UInt8.toNat_lt (l.getD k 0); omega
   generalize l.getD k 0 = c at *
   simp only at HC
   generalize inBy l (k + 1) 128 191 = t1 at *
   generalize inBy l (k + 2) 128 191 = t2 at *
   generalize inBy l (k + 3) 128 191 = t3 at *
   generalize inBy l (k + 1) 160 191 = s1 at *
   generalize inBy l (k + 1) 128 159 = s2 at *
   generalize inBy l (k + 1) 144 191 = s3 at *
   generalize inBy l (k + 1) 128 143 = s4 at *
   clear hlt
   go_wp2_with fail
   refine (I1.out _).mono ?_; rintro e w' ⟨rfl, rfl⟩
   go_wp2_with fail
   refine (I2.out _).mono ?_; rintro e w' ⟨rfl, rfl⟩
   go_wp2_with fail
   refine (I3.out _).mono ?_; rintro e w' ⟨rfl, rfl⟩
   generalize c.toNat = n at *
   clear hget hq
   by_cases r0 : 0 <= n /\ n <= 127
   ·have y : (n : Int) >= 0 := by omega
    have qlt128 : (n : Int) < 128 := by omega
    have qge194 : ¬ (n : Int) >= 194 := by omega
    have qle223 : (n : Int) <= 223 := by omega
    have qge225 : ¬ (n : Int) >= 225 := by omega
    have qle236 : (n : Int) <= 236 := by omega
    have qge241 : ¬ (n : Int) >= 241 := by omega
    have qle243 : (n : Int) <= 243 := by omega
    have z224 : ((n : Int) == 224) = false := by rw [beq_eq_false_iff_ne]; omega
    have z238 : ((n : Int) == 238) = false := by rw [beq_eq_false_iff_ne]; omega
    have z239 : ((n : Int) == 239) = false := by rw [beq_eq_false_iff_ne]; omega
    have z237 : ((n : Int) == 237) = false := by rw [beq_eq_false_iff_ne]; omega
    have z240 : ((n : Int) == 240) = false := by rw [beq_eq_false_iff_ne]; omega
    have z244 : ((n : Int) == 244) = false := by rw [beq_eq_false_iff_ne]; omega
    have SC := Lib.hid (And.intro r0.1 r0.2)
    clear r0 y
    have HX : Hid (nextU l k = some 1) := by unfold Hid; rw [HC.out]; have h1 := SC.out.1; have h2 := SC.out.2; simp [show (n < 128) by omega, show ¬ (194 <= n /\ n <= 223) by omega, show ¬ (n = 224) by omega, show ¬ ((225 <= n /\ n <= 236) \/ n = 238 \/ n = 239) by omega, show ¬ (n = 237) by omega, show ¬ (n = 240) by omega, show ¬ (241 <= n /\ n <= 243) by omega, show ¬ (n = 244) by omega]
    have hx := HNL.out 1 HX.out
    have HU2 : Hid (utf8L l = utf8L (l.drop (k + 1))) := HU.out.trans (by rw [HN.out, HX.out])
    go_wp2
    go_roundw
    case rel => exact ⟨k + 1, by omega, by go_num, HU2.out, rfl⟩
    case measure => simp [intOf] <;> omega
   by_cases r128 : 128 <= n /\ n <= 193
   ·have y : (n : Int) >= 128 := by omega
    have qlt128 : ¬ (n : Int) < 128 := by omega
    have qge194 : ¬ (n : Int) >= 194 := by omega
    have qle223 : (n : Int) <= 223 := by omega
    have qge225 : ¬ (n : Int) >= 225 := by omega
    have qle236 : (n : Int) <= 236 := by omega
    have qge241 : ¬ (n : Int) >= 241 := by omega
    have qle243 : (n : Int) <= 243 := by omega
    have z224 : ((n : Int) == 224) = false := by rw [beq_eq_false_iff_ne]; omega
    have z238 : ((n : Int) == 238) = false := by rw [beq_eq_false_iff_ne]; omega
    have z239 : ((n : Int) == 239) = false := by rw [beq_eq_false_iff_ne]; omega
    have z237 : ((n : Int) == 237) = false := by rw [beq_eq_false_iff_ne]; omega
    have z240 : ((n : Int) == 240) = false := by rw [beq_eq_false_iff_ne]; omega
    have z244 : ((n : Int) == 244) = false := by rw [beq_eq_false_iff_ne]; omega
    have SC := Lib.hid (And.intro r128.1 r128.2)
    clear r0 r128 y
    have HX : Hid (nextU l k = none) := by unfold Hid; rw [HC.out]; have h1 := SC.out.1; have h2 := SC.out.2; simp [show ¬ (n < 128) by omega, show ¬ (194 <= n /\ n <= 223) by omega, show ¬ (n = 224) by omega, show ¬ ((225 <= n /\ n <= 236) \/ n = 238 \/ n = 239) by omega, show ¬ (n = 237) by omega, show ¬ (n = 240) by omega, show ¬ (241 <= n /\ n <= 243) by omega, show ¬ (n = 244) by omega]
    have HR : Hid (v = false) := by unfold Hid; rw [<- HV.out, HU.out, HN.out, HX.out]
    go_wp2
    go_ret
    exact ⟨by rw [HR.out]; rfl, rfl⟩
   by_cases r194 : 194 <= n /\ n <= 223
   ·have y : (n : Int) >= 194 := by omega
    have qlt128 : ¬ (n : Int) < 128 := by omega
    have qge194 : (n : Int) >= 194 := by omega
    have qle223 : (n : Int) <= 223 := by omega
    have qge225 : ¬ (n : Int) >= 225 := by omega
    have qle236 : (n : Int) <= 236 := by omega
    have qge241 : ¬ (n : Int) >= 241 := by omega
    have qle243 : (n : Int) <= 243 := by omega
    have z224 : ((n : Int) == 224) = false := by rw [beq_eq_false_iff_ne]; omega
    have z238 : ((n : Int) == 238) = false := by rw [beq_eq_false_iff_ne]; omega
    have z239 : ((n : Int) == 239) = false := by rw [beq_eq_false_iff_ne]; omega
    have z237 : ((n : Int) == 237) = false := by rw [beq_eq_false_iff_ne]; omega
    have z240 : ((n : Int) == 240) = false := by rw [beq_eq_false_iff_ne]; omega
    have z244 : ((n : Int) == 244) = false := by rw [beq_eq_false_iff_ne]; omega
    have SC := Lib.hid (And.intro r194.1 r194.2)
    clear r0 r128 r194 y
    cases t1 with
    | false =>
     have HX : Hid (nextU l k = none) := by unfold Hid; rw [HC.out]; have h1 := SC.out.1; have h2 := SC.out.2; simp [show ¬ (n < 128) by omega, show (194 <= n /\ n <= 223) by omega, show ¬ (n = 224) by omega, show ¬ ((225 <= n /\ n <= 236) \/ n = 238 \/ n = 239) by omega, show ¬ (n = 237) by omega, show ¬ (n = 240) by omega, show ¬ (241 <= n /\ n <= 243) by omega, show ¬ (n = 244) by omega]
     have HR : Hid (v = false) := by unfold Hid; rw [<- HV.out, HU.out, HN.out, HX.out]
     go_wp2
     go_ret
     exact ⟨by rw [HR.out]; rfl, rfl⟩
    | true =>
     have HX : Hid (nextU l k = some 2) := by unfold Hid; rw [HC.out]; have h1 := SC.out.1; have h2 := SC.out.2; simp [show ¬ (n < 128) by omega, show (194 <= n /\ n <= 223) by omega, show ¬ (n = 224) by omega, show ¬ ((225 <= n /\ n <= 236) \/ n = 238 \/ n = 239) by omega, show ¬ (n = 237) by omega, show ¬ (n = 240) by omega, show ¬ (241 <= n /\ n <= 243) by omega, show ¬ (n = 244) by omega]
     have hx := HNL.out 2 HX.out
     have HU2 : Hid (utf8L l = utf8L (l.drop (k + 2))) := HU.out.trans (by rw [HN.out, HX.out])
     go_wp2
     go_roundw
     case rel => exact ⟨k + 2, by omega, by go_num, HU2.out, rfl⟩
     case measure => simp [intOf] <;> omega
   by_cases r224 : n = 224
   ·subst r224
    clear hc8
    cases s1 with
    | false =>
     have HX : Hid (nextU l k = none) := by unfold Hid; rw [HC.out]; simp
     have HR : Hid (v = false) := by unfold Hid; rw [<- HV.out, HU.out, HN.out, HX.out]
     go_wp2_with ((with_reducible refine (J1.out _).mono ?_); rintro e w' ⟨rfl, rfl⟩)
     go_ret
     exact ⟨by rw [HR.out]; rfl, rfl⟩
    | true =>
     cases t2 with
     | false =>
      have HX : Hid (nextU l k = none) := by unfold Hid; rw [HC.out]; simp
      have HR : Hid (v = false) := by unfold Hid; rw [<- HV.out, HU.out, HN.out, HX.out]
      go_wp2_with ((with_reducible refine (J1.out _).mono ?_); rintro e w' ⟨rfl, rfl⟩)
      go_ret
      exact ⟨by rw [HR.out]; rfl, rfl⟩
     | true =>
      have HX : Hid (nextU l k = some 3) := by unfold Hid; rw [HC.out]; simp
      have hx := HNL.out 3 HX.out
      have HU2 : Hid (utf8L l = utf8L (l.drop (k + 3))) := HU.out.trans (by rw [HN.out, HX.out])
      go_wp2_with ((with_reducible refine (J1.out _).mono ?_); rintro e w' ⟨rfl, rfl⟩)
      go_roundw
      case rel => exact ⟨k + 3, by omega, by go_num, HU2.out, rfl⟩
      case measure => simp [intOf] <;> omega
   by_cases r225 : 225 <= n /\ n <= 236
   ·have y : (n : Int) >= 225 := by omega
    have qlt128 : ¬ (n : Int) < 128 := by omega
    have qge194 : (n : Int) >= 194 := by omega
    have qle223 : ¬ (n : Int) <= 223 := by omega
    have qge225 : (n : Int) >= 225 := by omega
    have qle236 : (n : Int) <= 236 := by omega
    have qge241 : ¬ (n : Int) >= 241 := by omega
    have qle243 : (n : Int) <= 243 := by omega
    have z224 : ((n : Int) == 224) = false := by rw [beq_eq_false_iff_ne]; omega
    have z238 : ((n : Int) == 238) = false := by rw [beq_eq_false_iff_ne]; omega
    have z239 : ((n : Int) == 239) = false := by rw [beq_eq_false_iff_ne]; omega
    have z237 : ((n : Int) == 237) = false := by rw [beq_eq_false_iff_ne]; omega
    have z240 : ((n : Int) == 240) = false := by rw [beq_eq_false_iff_ne]; omega
    have z244 : ((n : Int) == 244) = false := by rw [beq_eq_false_iff_ne]; omega
    have SC := Lib.hid (And.intro r225.1 r225.2)
    clear r0 r128 r194 r224 r225 y
    cases t1 with
    | false =>
     have HX : Hid (nextU l k = none) := by unfold Hid; rw [HC.out]; have h1 := SC.out.1; have h2 := SC.out.2; simp [show ¬ (n < 128) by omega, show ¬ (194 <= n /\ n <= 223) by omega, show ¬ (n = 224) by omega, show ((225 <= n /\ n <= 236) \/ n = 238 \/ n = 239) by omega, show ¬ (n = 237) by omega, show ¬ (n = 240) by omega, show ¬ (241 <= n /\ n <= 243) by omega, show ¬ (n = 244) by omega]
     have HR : Hid (v = false) := by unfold Hid; rw [<- HV.out, HU.out, HN.out, HX.out]
     go_wp2
     go_ret
     exact ⟨by rw [HR.out]; rfl, rfl⟩
    | true =>
     cases t2 with
     | false =>
      have HX : Hid (nextU l k = none) := by unfold Hid; rw [HC.out]; have h1 := SC.out.1; have h2 := SC.out.2; simp [show ¬ (n < 128) by omega, show ¬ (194 <= n /\ n <= 223) by omega, show ¬ (n = 224) by omega, show ((225 <= n /\ n <= 236) \/ n = 238 \/ n = 239) by omega, show ¬ (n = 237) by omega, show ¬ (n = 240) by omega, show ¬ (241 <= n /\ n <= 243) by omega, show ¬ (n = 244) by omega]
      have HR : Hid (v = false) := by unfold Hid; rw [<- HV.out, HU.out, HN.out, HX.out]
      go_wp2
      go_ret
      exact ⟨by rw [HR.out]; rfl, rfl⟩
     | true =>
      have HX : Hid (nextU l k = some 3) := by unfold Hid; rw [HC.out]; have h1 := SC.out.1; have h2 := SC.out.2; simp [show ¬ (n < 128) by omega, show ¬ (194 <= n /\ n <= 223) by omega, show ¬ (n = 224) by omega, show ((225 <= n /\ n <= 236) \/ n = 238 \/ n = 239) by omega, show ¬ (n = 237) by omega, show ¬ (n = 240) by omega, show ¬ (241 <= n /\ n <= 243) by omega, show ¬ (n = 244) by omega]
      have hx := HNL.out 3 HX.out
      have HU2 : Hid (utf8L l = utf8L (l.drop (k + 3))) := HU.out.trans (by rw [HN.out, HX.out])
      go_wp2
      go_roundw
      case rel => exact ⟨k + 3, by omega, by go_num, HU2.out, rfl⟩
      case measure => simp [intOf] <;> omega
   by_cases r237 : n = 237
   ·subst r237
    clear hc8
    cases s2 with
    | false =>
     have HX : Hid (nextU l k = none) := by unfold Hid; rw [HC.out]; simp
     have HR : Hid (v = false) := by unfold Hid; rw [<- HV.out, HU.out, HN.out, HX.out]
     go_wp2_with ((with_reducible refine (J2.out _).mono ?_); rintro e w' ⟨rfl, rfl⟩)
     go_ret
     exact ⟨by rw [HR.out]; rfl, rfl⟩
    | true =>
     cases t2 with
     | false =>
      have HX : Hid (nextU l k = none) := by unfold Hid; rw [HC.out]; simp
      have HR : Hid (v = false) := by unfold Hid; rw [<- HV.out, HU.out, HN.out, HX.out]
      go_wp2_with ((with_reducible refine (J2.out _).mono ?_); rintro e w' ⟨rfl, rfl⟩)
      go_ret
      exact ⟨by rw [HR.out]; rfl, rfl⟩
     | true =>
      have HX : Hid (nextU l k = some 3) := by unfold Hid; rw [HC.out]; simp
      have hx := HNL.out 3 HX.out
      have HU2 : Hid (utf8L l = utf8L (l.drop (k + 3))) := HU.out.trans (by rw [HN.out, HX.out])
      go_wp2_with ((with_reducible refine (J2.out _).mono ?_); rintro e w' ⟨rfl, rfl⟩)
      go_roundw
      case rel => exact ⟨k + 3, by omega, by go_num, HU2.out, rfl⟩
      case measure => simp [intOf] <;> omega
   by_cases r238 : n = 238
   ·subst r238
    clear hc8
    cases t1 with
    | false =>
     have HX : Hid (nextU l k = none) := by unfold Hid; rw [HC.out]; simp
     have HR : Hid (v = false) := by unfold Hid; rw [<- HV.out, HU.out, HN.out, HX.out]
     go_wp2
     go_ret
     exact ⟨by rw [HR.out]; rfl, rfl⟩
    | true =>
     cases t2 with
     | false =>
      have HX : Hid (nextU l k = none) := by unfold Hid; rw [HC.out]; simp
      have HR : Hid (v = false) := by unfold Hid; rw [<- HV.out, HU.out, HN.out, HX.out]
      go_wp2
      go_ret
      exact ⟨by rw [HR.out]; rfl, rfl⟩
     | true =>
      have HX : Hid (nextU l k = some 3) := by unfold Hid; rw [HC.out]; simp
      have hx := HNL.out 3 HX.out
      have HU2 : Hid (utf8L l = utf8L (l.drop (k + 3))) := HU.out.trans (by rw [HN.out, HX.out])
      go_wp2
      go_roundw
      case rel => exact ⟨k + 3, by omega, by go_num, HU2.out, rfl⟩
      case measure => simp [intOf] <;> omega
   by_cases r239 : n = 239
   ·subst r239
    clear hc8
    cases t1 with
    | false =>
     have HX : Hid (nextU l k = none) := by unfold Hid; rw [HC.out]; simp
     have HR : Hid (v = false) := by unfold Hid; rw [<- HV.out, HU.out, HN.out, HX.out]
     go_wp2
     go_ret
     exact ⟨by rw [HR.out]; rfl, rfl⟩
    | true =>
     cases t2 with
     | false =>
      have HX : Hid (nextU l k = none) := by unfold Hid; rw [HC.out]; simp
      have HR : Hid (v = false) := by unfold Hid; rw [<- HV.out, HU.out, HN.out, HX.out]
      go_wp2
      go_ret
      exact ⟨by rw [HR.out]; rfl, rfl⟩
     | true =>
      have HX : Hid (nextU l k = some 3) := by unfold Hid; rw [HC.out]; simp
      have hx := HNL.out 3 HX.out
      have HU2 : Hid (utf8L l = utf8L (l.drop (k + 3))) := HU.out.trans (by rw [HN.out, HX.out])
      go_wp2
      go_roundw
      case rel => exact ⟨k + 3, by omega, by go_num, HU2.out, rfl⟩
      case measure => simp [intOf] <;> omega
   by_cases r240 : n = 240
   ·subst r240
    clear hc8
    cases s3 with
    | false =>
     have HX : Hid (nextU l k = none) := by unfold Hid; rw [HC.out]; simp
     have HR : Hid (v = false) := by unfold Hid; rw [<- HV.out, HU.out, HN.out, HX.out]
     go_wp2_with ((with_reducible refine (J3.out _).mono ?_); rintro e w' ⟨rfl, rfl⟩)
     go_ret
     exact ⟨by rw [HR.out]; rfl, rfl⟩
    | true =>
     cases t2 with
     | false =>
      have HX : Hid (nextU l k = none) := by unfold Hid; rw [HC.out]; simp
      have HR : Hid (v = false) := by unfold Hid; rw [<- HV.out, HU.out, HN.out, HX.out]
      go_wp2_with ((with_reducible refine (J3.out _).mono ?_); rintro e w' ⟨rfl, rfl⟩)
      go_ret
      exact ⟨by rw [HR.out]; rfl, rfl⟩
     | true =>
      cases t3 with
      | false =>
       have HX : Hid (nextU l k = none) := by unfold Hid; rw [HC.out]; simp
       have HR : Hid (v = false) := by unfold Hid; rw [<- HV.out, HU.out, HN.out, HX.out]
       go_wp2_with ((with_reducible refine (J3.out _).mono ?_); rintro e w' ⟨rfl, rfl⟩)
       go_ret
       exact ⟨by rw [HR.out]; rfl, rfl⟩
      | true =>
       have HX : Hid (nextU l k = some 4) := by unfold Hid; rw [HC.out]; simp
       have hx := HNL.out 4 HX.out
       have HU2 : Hid (utf8L l = utf8L (l.drop (k + 4))) := HU.out.trans (by rw [HN.out, HX.out])
       go_wp2_with ((with_reducible refine (J3.out _).mono ?_); rintro e w' ⟨rfl, rfl⟩)
       go_roundw
       case rel => exact ⟨k + 4, by omega, by go_num, HU2.out, rfl⟩
       case measure => simp [intOf] <;> omega
   by_cases r241 : 241 <= n /\ n <= 243
   ·have y : (n : Int) >= 241 := by omega
    have qlt128 : ¬ (n : Int) < 128 := by omega
    have qge194 : (n : Int) >= 194 := by omega
    have qle223 : ¬ (n : Int) <= 223 := by omega
    have qge225 : (n : Int) >= 225 := by omega
    have qle236 : ¬ (n : Int) <= 236 := by omega
    have qge241 : (n : Int) >= 241 := by omega
    have qle243 : (n : Int) <= 243 := by omega
    have z224 : ((n : Int) == 224) = false := by rw [beq_eq_false_iff_ne]; omega
    have z238 : ((n : Int) == 238) = false := by rw [beq_eq_false_iff_ne]; omega
    have z239 : ((n : Int) == 239) = false := by rw [beq_eq_false_iff_ne]; omega
    have z237 : ((n : Int) == 237) = false := by rw [beq_eq_false_iff_ne]; omega
    have z240 : ((n : Int) == 240) = false := by rw [beq_eq_false_iff_ne]; omega
    have z244 : ((n : Int) == 244) = false := by rw [beq_eq_false_iff_ne]; omega
    have SC := Lib.hid (And.intro r241.1 r241.2)
    clear r0 r128 r194 r224 r225 r237 r238 r239 r240 r241 y
    cases t1 with
    | false =>
     have HX : Hid (nextU l k = none) := by unfold Hid; rw [HC.out]; have h1 := SC.out.1; have h2 := SC.out.2; simp [show ¬ (n < 128) by omega, show ¬ (194 <= n /\ n <= 223) by omega, show ¬ (n = 224) by omega, show ¬ ((225 <= n /\ n <= 236) \/ n = 238 \/ n = 239) by omega, show ¬ (n = 237) by omega, show ¬ (n = 240) by omega, show (241 <= n /\ n <= 243) by omega, show ¬ (n = 244) by omega]
     have HR : Hid (v = false) := by unfold Hid; rw [<- HV.out, HU.out, HN.out, HX.out]
     go_wp2
     go_ret
     exact ⟨by rw [HR.out]; rfl, rfl⟩
    | true =>
     cases t2 with
     | false =>
      have HX : Hid (nextU l k = none) := by unfold Hid; rw [HC.out]; have h1 := SC.out.1; have h2 := SC.out.2; simp [show ¬ (n < 128) by omega, show ¬ (194 <= n /\ n <= 223) by omega, show ¬ (n = 224) by omega, show ¬ ((225 <= n /\ n <= 236) \/ n = 238 \/ n = 239) by omega, show ¬ (n = 237) by omega, show ¬ (n = 240) by omega, show (241 <= n /\ n <= 243) by omega, show ¬ (n = 244) by omega]
      have HR : Hid (v = false) := by unfold Hid; rw [<- HV.out, HU.out, HN.out, HX.out]
      go_wp2
      go_ret
      exact ⟨by rw [HR.out]; rfl, rfl⟩
     | true =>
      cases t3 with
      | false =>
       have HX : Hid (nextU l k = none) := by unfold Hid; rw [HC.out]; have h1 := SC.out.1; have h2 := SC.out.2; simp [show ¬ (n < 128) by omega, show ¬ (194 <= n /\ n <= 223) by omega, show ¬ (n = 224) by omega, show ¬ ((225 <= n /\ n <= 236) \/ n = 238 \/ n = 239) by omega, show ¬ (n = 237) by omega, show ¬ (n = 240) by omega, show (241 <= n /\ n <= 243) by omega, show ¬ (n = 244) by omega]
       have HR : Hid (v = false) := by unfold Hid; rw [<- HV.out, HU.out, HN.out, HX.out]
       go_wp2
       go_ret
       exact ⟨by rw [HR.out]; rfl, rfl⟩
      | true =>
       have HX : Hid (nextU l k = some 4) := by unfold Hid; rw [HC.out]; have h1 := SC.out.1; have h2 := SC.out.2; simp [show ¬ (n < 128) by omega, show ¬ (194 <= n /\ n <= 223) by omega, show ¬ (n = 224) by omega, show ¬ ((225 <= n /\ n <= 236) \/ n = 238 \/ n = 239) by omega, show ¬ (n = 237) by omega, show ¬ (n = 240) by omega, show (241 <= n /\ n <= 243) by omega, show ¬ (n = 244) by omega]
       have hx := HNL.out 4 HX.out
       have HU2 : Hid (utf8L l = utf8L (l.drop (k + 4))) := HU.out.trans (by rw [HN.out, HX.out])
       go_wp2
       go_roundw
       case rel => exact ⟨k + 4, by omega, by go_num, HU2.out, rfl⟩
       case measure => simp [intOf] <;> omega
   by_cases r244 : n = 244
   ·subst r244
    clear hc8
    cases s4 with
    | false =>
     have HX : Hid (nextU l k = none) := by unfold Hid; rw [HC.out]; simp
     have HR : Hid (v = false) := by unfold Hid; rw [<- HV.out, HU.out, HN.out, HX.out]
     go_wp2_with ((with_reducible refine (J4.out _).mono ?_); rintro e w' ⟨rfl, rfl⟩)
     go_ret
     exact ⟨by rw [HR.out]; rfl, rfl⟩
    | true =>
     cases t2 with
     | false =>
      have HX : Hid (nextU l k = none) := by unfold Hid; rw [HC.out]; simp
      have HR : Hid (v = false) := by unfold Hid; rw [<- HV.out, HU.out, HN.out, HX.out]
      go_wp2_with ((with_reducible refine (J4.out _).mono ?_); rintro e w' ⟨rfl, rfl⟩)
      go_ret
      exact ⟨by rw [HR.out]; rfl, rfl⟩
     | true =>
      cases t3 with
      | false =>
       have HX : Hid (nextU l k = none) := by unfold Hid; rw [HC.out]; simp
       have HR : Hid (v = false) := by unfold Hid; rw [<- HV.out, HU.out, HN.out, HX.out]
       go_wp2_with ((with_reducible refine (J4.out _).mono ?_); rintro e w' ⟨rfl, rfl⟩)
       go_ret
       exact ⟨by rw [HR.out]; rfl, rfl⟩
      | true =>
       have HX : Hid (nextU l k = some 4) := by unfold Hid; rw [HC.out]; simp
       have hx := HNL.out 4 HX.out
       have HU2 : Hid (utf8L l = utf8L (l.drop (k + 4))) := HU.out.trans (by rw [HN.out, HX.out])
       go_wp2_with ((with_reducible refine (J4.out _).mono ?_); rintro e w' ⟨rfl, rfl⟩)
       go_roundw
       case rel => exact ⟨k + 4, by omega, by go_num, HU2.out, rfl⟩
       case measure => simp [intOf] <;> omega
   by_cases r245 : 245 <= n /\ n <= 255
   ·have y : (n : Int) >= 245 := by omega
    have qlt128 : ¬ (n : Int) < 128 := by omega
    have qge194 : (n : Int) >= 194 := by omega
    have qle223 : ¬ (n : Int) <= 223 := by omega
    have qge225 : (n : Int) >= 225 := by omega
    have qle236 : ¬ (n : Int) <= 236 := by omega
    have qge241 : (n : Int) >= 241 := by omega
    have qle243 : ¬ (n : Int) <= 243 := by omega
    have z224 : ((n : Int) == 224) = false := by rw [beq_eq_false_iff_ne]; omega
    have z238 : ((n : Int) == 238) = false := by rw [beq_eq_false_iff_ne]; omega
    have z239 : ((n : Int) == 239) = false := by rw [beq_eq_false_iff_ne]; omega
    have z237 : ((n : Int) == 237) = false := by rw [beq_eq_false_iff_ne]; omega
    have z240 : ((n : Int) == 240) = false := by rw [beq_eq_false_iff_ne]; omega
    have z244 : ((n : Int) == 244) = false := by rw [beq_eq_false_iff_ne]; omega
    have SC := Lib.hid (And.intro r245.1 r245.2)
    clear r0 r128 r194 r224 r225 r237 r238 r239 r240 r241 r244 r245 y
    have HX : Hid (nextU l k = none) := by unfold Hid; rw [HC.out]; have h1 := SC.out.1; have h2 := SC.out.2; simp [show ¬ (n < 128) by omega, show ¬ (194 <= n /\ n <= 223) by omega, show ¬ (n = 224) by omega, show ¬ ((225 <= n /\ n <= 236) \/ n = 238 \/ n = 239) by omega, show ¬ (n = 237) by omega, show ¬ (n = 240) by omega, show ¬ (241 <= n /\ n <= 243) by omega, show ¬ (n = 244) by omega]
    have HR : Hid (v = false) := by unfold Hid; rw [<- HV.out, HU.out, HN.out, HX.out]
    go_wp2
    go_ret
    exact ⟨by rw [HR.out]; rfl, rfl⟩
   exfalso; omega
  ·obtain rfl : k = l.length := by omega
   have hltz : ¬ ((l.length : Nat) : Int) < ((bs l).size : Int) := by rw [bs_size]; omega
   have HR : Hid (v = true) := by unfold Hid; rw [<- HV.out, HU.out, List.drop_length]; rfl
   go_wp2
   go_ret
   exact ⟨by rw [HR.out]; rfl, rfl⟩
end Go.Proofs.Ytpbbokdmoaadfaa
