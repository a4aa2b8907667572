/- A region that draws its order, walked once, operation by operation: where each operation yields one value whenever it comes up, the order says nothing. -/
import Derived.Test.YtidoofdofdhjpaaM02
import Derived.Test.YtidoofdofdhjpaaM01
import Derived.WalkKit
import Derived.Orders
import Derived.Deep.Cut
import Derived.Lib.DecodeN
import Derived.Lib.Strings
import Derived.Lib.IndexBytes
import Derived.BigQuiet
import Derived.IntWalk
import Derived.Deep.QuietTactic
import Derived.Lib.Bytealg
import Derived.Laws.Strings3
import Derived.Lib.BufferWrite
import Derived.Lib.UnsafeStr
import Derived.Laws.MakeOwn
import Derived.Deep.OwnRows
import Derived.Lib.Split
import Derived.Deep.LoopGhost
import Derived.Lib.Walk
import Derived.WalkSmall
namespace Go.Proofs.Ytidoofdofdhjpaa
open Go Go.RowKit
def readsOf (ops : Array Oper) (o : Oper) : List (Tmp × Option Nat) :=
 ((o.op.operands.toList.filterMap fun | .tmp t => some t | _ => none)).map fun t =>
   (t, ((o.after.toList.filter fun e => Region.binds .any e).map (·.on)).find? fun j => ((ops[j]?).bind (·.dst)) == some t)
def okRegion (ops : Array Oper) (size : Nat) : Bool :=
 (List.range ops.size).all fun i => match ops[i]? with
  | none => false
  | some o =>
   (o.after.toList.all fun e => !Region.binds .any e || e.on < i) &&
   (match o.dst with | some t => decide (t < size) | none => true) &&
   (match o.guard with | none => true | some (j, _) => (o.after.toList.any fun e => Region.binds .any e && e.on == j) && ((ops[j]?).bind (·.dst)).isSome) &&
   (List.range ops.size).all fun j => match ops[j]? with
    | none => false
    | some p => i == j || match p.dst with
     | none => true
     | some t => o.dst != some t &&
      (((o.op.operands.toList.filterMap fun | .tmp t => some t | _ => none).all fun u => u != t) ||
        (o.after.toList.any fun e => Region.binds .any e && e.on == j) || (p.after.toList.any fun e => Region.binds .any e && e.on == i))
inductive Val where
 | exact (v : Value)
 | rel (f : Value -> World -> Prop)
@[simp] def readsAre (a a0 : Act) (w : World) (f : Nat -> Option Val) : List (Tmp × Option Nat) -> Prop
  | [] => True
  | (t, none) :: r => a.tmps[t]? = a0.tmps[t]? /\ readsAre a a0 w f r
  | (t, some j) :: r => (match f j with
   | some (.exact v) => a.tmps[t]? = some v
   | some (.rel p) => ∃ v, a.tmps[t]? = some v /\ p v w
   | none => True) /\ readsAre a a0 w f r
def wantedV (f : Nat -> Option Val) (o : Oper) : Bool :=
 match o.guard with
 | none => true
 | some (j, b) => match f j with
  | some (.exact (.bool c)) => c == b
  | _ => false
def knownV (f : Nat -> Option Val) (o : Oper) : Bool :=
 match o.guard with
 | none => true
 | some (j, _) => match f j with
  | some (.exact _) => true
  | _ => false
def Done (w : World) (a : Act) (dst : Option Tmp) (x : Val) (a' : Act) (w' : World) : Prop :=
 Below w.heap.size w w' /\ match x with
  | .exact v => a' = a.put dst v
  | .rel p => ∃ v, a' = a.put dst v /\ p v w'
theorem Done.same {w : World} {a : Act} {dst : Option Tmp} {v : Value} : Done w a dst (.exact v) (a.put dst v) w := ⟨Below.refl _ _, rfl⟩
theorem Done.mk {w : World} {a : Act} {dst : Option Tmp} {v : Value} {w' : World} (h : Below w.heap.size w w') : Done w a dst (.exact v) (a.put dst v) w' := ⟨h, rfl⟩
theorem Done.rel {w : World} {a : Act} {dst : Option Tmp} {v : Value} {p : Value -> World -> Prop} {w' : World} (h : Below w.heap.size w w') (hp : p v w') : Done w a dst (.rel p) (a.put dst v) w' := ⟨h, v, rfl, hp⟩
def putVals (a : Act) : List Oper -> List Value -> Act
 | o :: os, v :: vs => putVals (a.put o.dst v) os vs
 | _, _ => a
@[simp] def After (K : Act -> World -> Prop) (w : World) : Act -> List Oper -> List Val -> Prop
  | a, o :: os, .exact v :: vs => After K w (a.put o.dst v) os vs
  | a, o :: os, .rel p :: vs => ∀ v, p v w -> After K w (a.put o.dst v) os vs
  | a, _, _ => K a w
@[simp] def came (n : Nat) (vs : List Val) (j : Nat) : Option Val := vs[n - 1 - j]?
def Val.keeps : Val -> Prop
 | .exact _ => True
 | .rel p => ∀ v w w', p v w -> Below w.heap.size w w' -> p v w'
def Chain (P : Program) (Q : Exit -> Act -> World -> Prop) (K : Act -> World -> Prop) (a0 : Act) (S : World -> Prop) (all : List Oper) : List (Oper × List (Tmp × Option Nat)) -> Nat -> List Val -> Prop
 | [], _, vs => ∀ w', S w' -> After K w' a0 all vs.reverse
 | (o, r) :: rest, n, vs => ∃ x : Val, x.keeps /\ knownV (came n vs) o = true /\
  (if wantedV (came n vs) o then ∀ a w, S w -> readsAre a a0 w (came n vs) r -> o.wp P a w (Done w a o.dst x) Q else x = .exact undef) /\
  Chain P Q K a0 S all rest (n + 1) (x :: vs)
section
variable {P : Program} {Q : Exit -> Act -> World -> Prop} {K : Act -> World -> Prop} {a0 : Act} {S : World -> Prop} {all : List Oper} {rest : List (Oper × List (Tmp × Option Nat))} {vs : List Val} {o : Oper} {r : List (Tmp × Option Nat)} {n : Nat}
theorem known_of_wanted {f : Nat -> Option Val} (h : wantedV f o = true) : knownV f o = true := by
 unfold wantedV at h
 unfold knownV
 split
 ·rfl
 ·rename_i j b hg
  simp only [hg] at h
  split at h
  ·rename_i hf; simp [hf]
  ·cases h
theorem chain_want {v : Value} (hg : wantedV (came n vs) o = true) (h : ∀ a w, S w -> readsAre a a0 w (came n vs) r -> o.wp P a w (Done w a o.dst (.exact v)) Q) (k : Chain P Q K a0 S all rest (n + 1) (.exact v :: vs)) :
 Chain P Q K a0 S all ((o, r) :: rest) n vs := ⟨.exact v, trivial, known_of_wanted hg, by rw [if_pos hg]; exact h, k⟩
theorem chain_rel (p : Value -> World -> Prop) (hp : ∀ v w w', p v w -> Below w.heap.size w w' -> p v w') (hg : wantedV (came n vs) o = true) (h : ∀ a w, S w -> readsAre a a0 w (came n vs) r -> o.wp P a w (Done w a o.dst (.rel p)) Q)
 (k : Chain P Q K a0 S all rest (n + 1) (.rel p :: vs)) : Chain P Q K a0 S all ((o, r) :: rest) n vs := ⟨.rel p, hp, known_of_wanted hg, by rw [if_pos hg]; exact h, k⟩
theorem chain_skip (hk : knownV (came n vs) o = true) (hg : wantedV (came n vs) o = false) (k : Chain P Q K a0 S all rest (n + 1) (.exact undef :: vs)) :
 Chain P Q K a0 S all ((o, r) :: rest) n vs := ⟨.exact undef, trivial, hk, by rw [if_neg (by simp [hg])], k⟩
end
theorem chain_all {P : Program} {Q : Exit -> Act -> World -> Prop} {K : Act -> World -> Prop} {a0 : Act} {S : World -> Prop} {all : List Oper} :
 ∀ (l : List (Oper × List (Tmp × Option Nat))) (vs : List Val), Chain P Q K a0 S all l vs.length vs ->
   ∃ us : List Val, us.length = l.length /\ (∀ w', S w' -> After K w' a0 all (vs.reverse ++ us)) /\
     ∀ i o r x, l[i]? = some (o, r) -> us[i]? = some x -> ∃ f : Nat -> Option Val, (∀ j, j < vs.length + i -> f j = (vs.reverse ++ us)[j]?) /\ x.keeps /\ knownV f o = true /\
       if wantedV f o then ∀ a w, S w -> readsAre a a0 w f r -> o.wp P a w (Done w a o.dst x) Q else x = .exact undef
 | [], vs, h => ⟨[], rfl, by rw [List.append_nil]; exact h, by simp⟩
 | (o, r) :: l, vs, ⟨v, hk, hn, h1, h2⟩ => by
  obtain ⟨us, hl, hf, hs⟩ := chain_all l (v :: vs) h2
  have he : (v :: vs).reverse ++ us = vs.reverse ++ v :: us := by simp
  refine ⟨v :: us, by simp [hl], by rw [<- he]; exact hf, ?_⟩
  intro i o' r' v' hi hv
  cases i with
  | zero =>
   simp only [List.getElem?_cons_zero, Option.some.injEq, Prod.mk.injEq] at hi hv
   obtain ⟨rfl, rfl⟩ := hi
   subst hv
   refine ⟨came vs.length vs, fun j hj => ?_, hk, hn, h1⟩
   unfold came
   rw [List.getElem?_append_left (by simpa using hj), List.getElem?_reverse (by simpa using hj)]
  | succ i =>
   obtain ⟨f, hf1, hf2⟩ := hs i o' r' v' (by simpa using hi) (by simpa using hv)
   refine ⟨f, fun j hj => ?_, hf2⟩
   rw [hf1 j (by simp; omega), he]
def Fits (w : World) : List Val -> List Value -> Prop
 | .exact v :: xs, u :: us => u = v /\ Fits w xs us
 | .rel p :: xs, u :: us => p u w /\ Fits w xs us
 | [], [] => True
 | _, _ => False
theorem after_fits {K : Act -> World -> Prop} {w : World} : ∀ (xs : List Val) (us : List Value) (os : List Oper) (a : Act), Fits w xs us -> After K w a os xs -> K (putVals a os us) w
 | [], [], [], _, _, h => h
 | [], [], _ :: _, _, _, h => h
 | .exact v :: xs, u :: us, [], _, _, h => h
 | .rel p :: xs, u :: us, [], _, _, h => h
 | .exact v :: xs, u :: us, o :: os, a, ⟨hu, hf⟩, h => by subst hu; exact after_fits xs us os _ hf h
 | .rel p :: xs, u :: us, o :: os, a, ⟨hu, hf⟩, h => after_fits xs us os _ hf (h u hu)
 | .exact v :: xs, [], _, _, hf, _ => hf.elim
 | .rel v :: xs, [], _, _, hf, _ => hf.elim
 | [], _ :: _, _, _, hf, _ => hf.elim
def FitsAt (w : World) (x : Val) (u : Value) : Prop := match x with | .exact v => u = v | .rel p => p u w
theorem fits_of {w : World} : ∀ (xs : List Val) (us : List Value), us.length = xs.length -> (∀ (i : Nat) (x : Val) (u : Value), xs[i]? = some x -> us[i]? = some u -> FitsAt w x u) -> Fits w xs us
 | [], [], _, _ => trivial
 | x :: xs, u :: us, hl, h => by
  have h0 := h 0 x u rfl rfl
  have h1 := fits_of xs us (by simpa using hl) (fun i x u hx hu => h (i + 1) x u (by simpa using hx) (by simpa using hu))
  cases x with
  | exact v => exact ⟨h0, h1⟩
  | rel p => exact ⟨h0, h1⟩
 | [], _ :: _, hl, _ => by simp at hl
 | _ :: _, [], hl, _ => by simp at hl
theorem putVals_keep : ∀ (os : List Oper) (vs : List Value) (a : Act), (putVals a os vs).defers = a.defers /\ (putVals a os vs).tmps.size = a.tmps.size
 | [], _, _ => by simp [putVals]
 | _ :: _, [], _ => by simp [putVals]
 | o :: os, v :: vs, a => by
  obtain ⟨h1, h2⟩ := putVals_keep os vs (a.put o.dst v)
  rw [putVals, h1, h2]
  cases o.dst <;> simp [Act.put]
theorem putVals_other : ∀ (os : List Oper) (vs : List Value) (a : Act) (t : Tmp), (∀ o ∈ os, o.dst ≠ some t) -> (putVals a os vs).tmps[t]? = a.tmps[t]?
 | [], _, _, _, _ => by simp [putVals]
 | _ :: _, [], _, _, _ => by simp [putVals]
 | o :: os, v :: vs, a, t, h => by
  rw [putVals, putVals_other os vs _ t (fun o' ho => h o' (by simp [ho]))]
  have := h o (by simp)
  cases hd : o.dst with
  | none => simp [Act.put]
  | some d =>
   have hne : d ≠ t := fun e => this (by rw [hd, e])
   simp [Act.put, Array.getElem?_setIfInBounds_ne hne]
theorem putVals_at : ∀ (os : List Oper) (vs : List Value) (a : Act) (i : Nat) (o : Oper) (v : Value) (t : Tmp), os[i]? = some o -> vs[i]? = some v -> o.dst = some t -> t < a.tmps.size ->
 (∀ j p, os[j]? = some p -> p.dst = some t -> j = i) -> (putVals a os vs).tmps[t]? = some v
 | [], _, _, _, _, _, _, h, _, _, _, _ => by simp at h
 | _ :: _, [], _, _, _, _, _, _, h, _, _, _ => by simp at h
 | p :: os, u :: vs, a, i, o, v, t, hi, hv, ht, hlt, hu => by
  cases i with
  | zero =>
   simp only [List.getElem?_cons_zero, Option.some.injEq] at hi hv
   subst hi; subst hv
   rw [putVals, putVals_other os vs _ t]
   ·simp [Act.put, ht, hlt]
   ·intro o' ho e
    obtain ⟨j, hj⟩ := List.getElem?_of_mem ho
    have := hu (j + 1) o' (by simpa using hj) e
    omega
  | succ i =>
   rw [putVals]
   refine putVals_at os vs _ i o v t (by simpa using hi) (by simpa using hv) ht ?_ ?_
   ·cases p.dst <;> simpa [Act.put] using hlt
   ·intro j q hj e
    have := hu (j + 1) q (by simpa using hj) e
    omega
structure Mid (ops : Array Oper) (a0 : Act) (xs : List Val) (S : World -> Prop) (listed : Array Bool) (a : Act) (w : World) : Prop where
 sz : listed.size = ops.size
 law : S w
 defers : a.defers = a0.defers
 size : a.tmps.size = a0.tmps.size
 back : ∀ (i : Nat) (o : Oper) (e : Edge), ops[i]? = some o -> listed.getD i true = true -> e ∈ o.after -> Region.binds .any e = true -> listed.getD e.on false = true
 ran : ∀ (i : Nat) (o : Oper) (x : Val) (t : Tmp), ops[i]? = some o -> xs[i]? = some x -> o.dst = some t -> listed.getD i true = true -> ∃ u, a.tmps[t]? = some u /\ FitsAt w x u
 ranNo : ∀ (i : Nat) (o : Oper) (x : Val), ops[i]? = some o -> xs[i]? = some x -> o.dst = none -> listed.getD i true = true -> ∃ u, FitsAt w x u
 rest : ∀ t : Tmp, (∀ (i : Nat) (o : Oper), ops[i]? = some o -> listed.getD i true = true -> o.dst ≠ some t) -> a.tmps[t]? = a0.tmps[t]?
theorem all_range {n : Nat} {f : Nat -> Bool} (h : (List.range n).all f = true) {i : Nat} (hi : i < n) : f i = true :=
 List.all_eq_true.1 h i (List.mem_range.2 hi)
theorem lt_of_some {ops : Array Oper} {i : Nat} {o : Oper} (h : ops[i]? = some o) : i < ops.size := by
 rcases Nat.lt_or_ge i ops.size with l | l
 ·exact l
 ·rw [Array.getElem?_eq_none l] at h; cases h
structure OkAt (ops : Array Oper) (size : Nat) : Prop where
 back : ∀ (i : Nat) (o : Oper) (e : Edge), ops[i]? = some o -> e ∈ o.after -> Region.binds .any e = true -> e.on < i
 dst : ∀ (i : Nat) (o : Oper) (t : Tmp), ops[i]? = some o -> o.dst = some t -> t < size
 guard : ∀ (i : Nat) (o : Oper) (j : Nat) (b : Bool), ops[i]? = some o -> o.guard = some (j, b) -> (∃ e ∈ o.after, Region.binds .any e = true /\ e.on = j) /\ ∃ t, ((ops[j]?).bind (·.dst)) = some t
 one : ∀ (i j : Nat) (o p : Oper) (t : Tmp), ops[i]? = some o -> ops[j]? = some p -> o.dst = some t -> p.dst = some t -> i = j
 sees : ∀ (i j : Nat) (o p : Oper) (t : Tmp), ops[i]? = some o -> ops[j]? = some p -> p.dst = some t -> t ∈ (o.op.operands.toList.filterMap fun | .tmp t => some t | _ => none) -> i ≠ j ->
  (∃ e ∈ o.after, Region.binds .any e = true /\ e.on = j) \/ (∃ e ∈ p.after, Region.binds .any e = true /\ e.on = i)
theorem okAt_of {ops : Array Oper} {size : Nat} (h : okRegion ops size = true) : OkAt ops size := by
 have key : ∀ (i : Nat) (o : Oper), ops[i]? = some o ->
  ((o.after.toList.all fun e => !Region.binds .any e || decide (e.on < i)) = true) /\ ((match o.dst with | some t => decide (t < size) | none => true) = true) /\
  ((match o.guard with | none => true | some (j, _) => (o.after.toList.any fun e => Region.binds .any e && e.on == j) && ((ops[j]?).bind (·.dst)).isSome) = true) /\
  ∀ (j : Nat) (p : Oper), ops[j]? = some p -> i = j \/ (match p.dst with
   | none => true
   | some t => o.dst != some t &&
    (((o.op.operands.toList.filterMap fun | .tmp t => some t | _ => none).all fun u => u != t) ||
      (o.after.toList.any fun e => Region.binds .any e && e.on == j) || (p.after.toList.any fun e => Region.binds .any e && e.on == i))) = true := by
  intro i o hi
  have h1 := all_range h (lt_of_some hi)
  simp only [hi, Bool.and_eq_true] at h1
  obtain ⟨⟨⟨h1, h2⟩, h3⟩, h4⟩ := h1
  refine ⟨h1, h2, h3, fun j p hj => ?_⟩
  have h5 := all_range h4 (lt_of_some hj)
  simp only [hj, Bool.or_eq_true, beq_iff_eq] at h5
  exact h5
 refine ⟨?_, ?_, ?_, ?_, ?_⟩
 ·intro i o e hi he hb
  have := List.all_eq_true.1 (key i o hi).1 e (by simpa using he)
  simpa [hb] using this
 ·intro i o t hi ht
  have := (key i o hi).2.1
  simpa [ht] using this
 ·intro i o j b hi hg
  have := (key i o hi).2.2.1
  simp only [hg, Bool.and_eq_true, List.any_eq_true, beq_iff_eq] at this
  obtain ⟨⟨e, he, hb, hj⟩, hs⟩ := this
  exact ⟨⟨e, by simpa using he, hb, hj⟩, Option.isSome_iff_exists.1 hs⟩
 ·intro i j o p t hi hj ho hp
  rcases (key i o hi).2.2.2 j p hj with e | e
  ·exact e
  ·simp [hp, ho] at e
 ·intro i j o p t hi hj hp hm hne
  rcases (key i o hi).2.2.2 j p hj with e | e
  ·exact absurd e hne
  ·simp only [hp, Bool.and_eq_true, Bool.or_eq_true, List.any_eq_true, beq_iff_eq] at e
   rcases e.2 with (e | e) | e
   ·have := List.all_eq_true.1 e t hm
    simp at this
   ·obtain ⟨x, hx, hb, hx2⟩ := e
    exact .inl ⟨x, by simpa using hx, hb, hx2⟩
   ·obtain ⟨x, hx, hb, hx2⟩ := e
    exact .inr ⟨x, by simpa using hx, hb, hx2⟩
theorem getD_set {l : Array Bool} {i j : Nat} {d : Bool} (hi : i < l.size) : (l.setIfInBounds i true).getD j d = if i = j then true else l.getD j d := by
 simp only [Array.getD_eq_getD_getElem?, Array.getElem?_setIfInBounds]
 by_cases h : i = j
 ·subst h; simp [hi]
 ·simp [h]
theorem mem_ready {ops : Array Oper} {listed : Array Bool} {i : Nat} : i ∈ Region.ready .any ops listed ↔ ∃ o, ops[i]? = some o /\ listed.getD i true = false /\ ∀ e ∈ o.after, Region.binds .any e = true -> listed.getD e.on false = true := by
 unfold Region.ready
 rw [List.mem_filter, List.mem_range]
 constructor
 ·rintro ⟨hi, h⟩
  have ho : ops[i]? = some ops[i] := by simp [hi]
  simp only [ho, Option.map_some, Option.getD_some, Bool.and_eq_true, Bool.not_eq_true'] at h
  refine ⟨_, ho, h.1, fun e he hb => ?_⟩
  have := h.2
  rw [Array.all_eq_true'] at this
  have := this e he
  simpa [hb] using this
 ·rintro ⟨o, ho, h1, h2⟩
  refine ⟨lt_of_some ho, ?_⟩
  simp only [ho, Option.map_some, Option.getD_some, h1, Bool.not_false, Bool.true_and]
  rw [Array.all_eq_true']
  intro e he
  cases hb : Region.binds .any e with
  | false => rfl
  | true => simpa using h2 e he hb
section
variable {P : Program} {Q : Exit -> Act -> World -> Prop} {K : Act -> World -> Prop} {a0 : Act} {S : World -> Prop} {ops : Array Oper} {xs : List Val}
theorem readsAre_map {a : Act} {w : World} {g : Nat -> Option Val} {f : Tmp -> Option Nat} : ∀ {l : List Tmp}, (∀ t ∈ l, match f t with
 | none => a.tmps[t]? = a0.tmps[t]?
 | some j => (match g j with
  | some (.exact v) => a.tmps[t]? = some v
  | some (.rel p) => ∃ v, a.tmps[t]? = some v /\ p v w
  | none => True)) -> readsAre a a0 w g (l.map fun t => (t, f t))
 | [], _ => trivial
 | t :: l, h => by
  have h1 := h t (by simp)
  have h2 := readsAre_map (l := l) (fun u hu => h u (by simp [hu]))
  rw [List.map_cons]
  cases hf : f t with
  | none => rw [hf] at h1; exact ⟨h1, h2⟩
  | some j => rw [hf] at h1; exact ⟨h1, h2⟩
theorem FitsAt.later {w w' : World} {x : Val} {u : Value} (hk : x.keeps) (h : FitsAt w x u) (hb : Below w.heap.size w w') : FitsAt w' x u := by
 cases x with
 | exact v => exact h
 | rel p => exact hk u w w' h hb
def depB (ops : Array Oper) : Nat -> Nat -> Nat -> Bool
 | 0, _, _ => false
 | m + 1, i, j => match ops[i]? with
  | none => false
  | some o => o.after.toList.any fun e => Region.binds .any e && (e.on == j || depB ops m e.on j)
theorem dep_listed {ops : Array Oper} {listed : Array Bool} (hc : ∀ (i : Nat) (o : Oper) (e : Edge), ops[i]? = some o -> listed.getD i false = true -> e ∈ o.after -> Region.binds .any e = true -> listed.getD e.on false = true) :
 ∀ (m i j : Nat) (o : Oper), ops[i]? = some o -> (∀ e ∈ o.after, Region.binds .any e = true -> listed.getD e.on false = true) -> depB ops m i j = true -> listed.getD j false = true
 | 0, _, _, _, _, _, h => by simp [depB] at h
 | m + 1, i, j, o, ho, hr, h => by
  simp only [depB, ho, List.any_eq_true, Bool.and_eq_true, Bool.or_eq_true, beq_iff_eq] at h
  obtain ⟨e, he, hb, h2⟩ := h
  have hl := hr e (by simpa using he) hb
  rcases h2 with h2 | h2
  ·rw [<- h2]; exact hl
  ·cases hp : ops[e.on]? with
   | none => cases m <;> simp [depB, hp] at h2
   | some p => exact dep_listed hc m e.on j p hp (fun e' he' hb' => hc e.on p e' hp hl he' hb') h2
def Ends (P : Program) (Q : Exit -> Act -> World -> Prop) (ops : Array Oper) (nf : Nat) (K : Act -> World -> Prop) : Prop :=
 (nf = ops.size /\ ∀ a w, K a w -> Q .normal a w) \/
 (nf + 1 = ops.size /\ ∃ o, ops[nf]? = some o /\ o.guard = none /\ (∀ j, j < nf -> depB ops ops.size nf j = true) /\
   ∀ a w, K a w -> o.wp P a w (fun a' w' => Q .normal a' w') Q) \/
 (nf + 2 = ops.size /\ ∃ o o2, ops[nf]? = some o /\ ops[nf + 1]? = some o2 /\ o.guard = none /\ o2.guard = none /\ (∀ j, j < nf -> depB ops ops.size nf j = true) /\ (∀ j, j < nf + 1 -> depB ops ops.size (nf + 1) j = true) /\
   ∀ a w, K a w -> o.wp P a w (fun a' w' => o2.wp P a' w' (fun a'' w'' => Q .normal a'' w'') Q) Q) \/
 (nf <= ops.size /\ (∀ i, nf <= i -> i < ops.size -> ∀ j, j < i -> depB ops ops.size i j = true) /\ ∀ a w, K a w -> wpList P ops Q (ops.toList.drop nf) a w)
theorem tail_core (hok : OkAt ops a0.tmps.size) {nf : Nat} (htail : ∀ i, nf <= i -> i < ops.size -> ∀ j, j < i -> depB ops ops.size i j = true) :
 ∀ (r k : Nat), k + r = ops.size -> nf <= k -> ∀ (listed : Array Bool) (a : Act) (w : World), listed.size = ops.size -> (∀ i, i < k -> listed.getD i true = true) -> (∀ i, k <= i -> i < ops.size -> listed.getD i true = false) ->
   wpList P ops Q (ops.toList.drop k) a w -> wpAny P .any ops Q r listed a w := by
 have getf : ∀ {listed : Array Bool} {i : Nat} (d d' : Bool), i < listed.size -> listed.getD i d = listed.getD i d' := by
  intro listed i d d' h
  simp [Array.getD_eq_getD_getElem?, h]
 intro r
 induction r with
 | zero =>
  intro k hk _ listed a w hsz all none ht
  obtain rfl : k = ops.size := by omega
  rw [List.drop_of_length_le (by rw [Array.length_toList]; exact Nat.le_refl _)] at ht
  refine ⟨?_, ht⟩
  cases hr : Region.ready .any ops listed with
  | nil => rfl
  | cons i rs =>
   have : i ∈ Region.ready .any ops listed := by rw [hr]; simp
   obtain ⟨o, ho, hl, _⟩ := mem_ready.1 this
   rw [all i (lt_of_some ho)] at hl; cases hl
 | succ r ih =>
  intro k hk hnf listed a w hsz all none ht
  have hkl : k < ops.size := by omega
  obtain ⟨o, ho⟩ : ∃ o, ops[k]? = some o := ⟨ops[k]'hkl, by simp⟩
  have hd : ops.toList.drop k = o :: ops.toList.drop (k + 1) := by
   have hk2 : k < ops.toList.length := by rw [Array.length_toList]; exact hkl
   rw [List.drop_eq_getElem_cons hk2]
   congr 1
   have : ops[k]? = some ops.toList[k] := by rw [<- Array.getElem?_toList]; simp
   rw [ho] at this; exact (Option.some.inj this).symm
  rw [hd] at ht
  have closed : ∀ (i : Nat) (o : Oper) (e : Edge), ops[i]? = some o -> listed.getD i false = true -> e ∈ o.after -> Region.binds .any e = true -> listed.getD e.on false = true := fun i o e ho hl he hb => by
   have hil := lt_of_some ho
   have hik : i < k := by
    rcases Nat.lt_or_ge i k with h | h
    ·exact h
    ·rw [getf false true (by omega), none i h hil] at hl; cases hl
   have hlt := hok.back i o e ho he hb
   rw [getf false true (by omega)]; exact all e.on (by omega)
  have hmem : k ∈ Region.ready .any ops listed := mem_ready.2 ⟨o, ho, none k (Nat.le_refl _) hkl, fun e he hb => by
   have hlt := hok.back k o e ho he hb
   rw [getf false true (by omega)]
   exact all e.on hlt⟩
  refine ⟨fun h => by (rw [h] at hmem; exact absurd hmem (by simp)), fun i hi => ?_⟩
  obtain ⟨o', ho', hl', haf'⟩ := mem_ready.1 hi
  have hil := lt_of_some ho'
  have hi2 : i = k := by
   rcases Nat.lt_or_ge i k with h | h
   ·rw [all i h] at hl'; cases hl'
   ·rcases Nat.lt_or_ge k i with h3 | h3
    ·have := dep_listed closed ops.size i k o' ho' haf' (htail i (by omega) hil k h3)
     rw [getf false true (by omega), none k (Nat.le_refl _) hkl] at this
     cases this
    ·omega
  subst hi2
  unfold wpOp
  simp only [ho]
  have hls : i < listed.size := by omega
  have next : ∀ a' w', wpList P ops Q (ops.toList.drop (i + 1)) a' w' -> wpAny P .any ops Q r (listed.setIfInBounds i true) a' w' := fun a' w' hq => by
   refine ih (i + 1) (by omega) (by omega) _ a' w' (by simpa using hsz) (fun j hj => ?_) (fun j hj hj2 => ?_) hq
   ·rw [getD_set hls]
    split
    ·rfl
    ·exact all j (by omega)
   ·rw [getD_set hls, if_neg (by omega)]; exact none j (by omega) hj2
  unfold wpList at ht
  split at ht
  ·rename_i hw
   rw [if_pos hw]
   rcases ht with ht | ht
   ·exact .inl (Oper.wp_mono next ht)
   ·exact .inr ht
  ·rename_i hw
   rw [if_neg hw]
   exact next _ _ ht
theorem stable_core (hok : OkAt ops a0.tmps.size) {nf : Nat} (hlen : xs.length = nf) (hends : Ends P Q ops nf K) (hSt : ∀ w w', S w -> Below w.heap.size w w' -> S w')
 (keeps : ∀ (i : Nat) (x : Val), xs[i]? = some x -> x.keeps)
 (step : ∀ i o x, i < nf -> ops[i]? = some o -> xs[i]? = some x -> ∃ f : Nat -> Option Val, (∀ j, j < i -> f j = xs[j]?) /\ knownV f o = true /\
   if wantedV f o then ∀ a w, S w -> readsAre a a0 w f (readsOf ops o) -> o.wp P a w (Done w a o.dst x) Q else x = .exact undef)
 (fin : ∀ w', S w' -> After K w' a0 (ops.toList.take nf) xs) :
 ∀ (m : Nat) (listed : Array Bool) (a : Act) (w : World), Mid ops a0 xs S listed a w -> (∃ rem : List Nat, rem.Nodup /\ rem.length = m /\ ∀ i, i ∈ rem ↔ i < nf /\ listed.getD i true = false) ->
   (∀ i, nf <= i -> i < ops.size -> listed.getD i true = false) -> wpAny P .any ops Q (m + (ops.size - nf)) listed a w := by
 have hnf : nf <= ops.size := by rcases hends with ⟨h, _⟩ | ⟨h, _⟩ | ⟨h, _⟩ | ⟨h, _⟩ <;> omega
 have getf : ∀ {listed : Array Bool} {i : Nat} (d d' : Bool), i < listed.size -> listed.getD i d = listed.getD i d' := by
  intro listed i d d' h
  simp [Array.getD_eq_getD_getElem?, h]
 have finish : ∀ (listed : Array Bool) (a : Act) (w : World), Mid ops a0 xs S listed a w -> (∀ i, i < nf -> listed.getD i true = true) -> (∀ i, nf <= i -> i < ops.size -> listed.getD i true = false) -> K a w := by
  intro listed a w hM all none
  have ex : ∀ i, i < nf -> ∃ u : Value, FitsAt w (xs.getD i (.exact undef)) u /\ ∀ (o : Oper) (t : Tmp), ops[i]? = some o -> o.dst = some t -> a.tmps[t]? = some u := by
   intro i hi
   have hx : xs[i]? = some (xs.getD i (.exact undef)) := by
    have : i < xs.length := by omega
    simp [this]
   have ho : ops[i]? = some (ops[i]'(by omega)) := by simp
   generalize ops[i]'(by omega) = o at ho
   cases hd : o.dst with
   | none =>
    obtain ⟨u, hu⟩ := hM.ranNo i o _ ho hx hd (all i hi)
    exact ⟨u, hu, fun o' t ho' hd' => by rw [ho] at ho'; cases ho'; rw [hd] at hd'; cases hd'⟩
   | some t =>
    obtain ⟨u, hu, hf⟩ := hM.ran i o _ t ho hx hd (all i hi)
    exact ⟨u, hf, fun o' t' ho' hd' => by rw [ho] at ho'; cases ho'; rw [hd] at hd'; cases hd'; exact hu⟩
  obtain ⟨us, hul, hus⟩ : ∃ us : List Value, us.length = nf /\ ∀ i, i < nf -> FitsAt w (xs.getD i (.exact undef)) (us.getD i undef) /\ ∀ (o : Oper) (t : Tmp), ops[i]? = some o -> o.dst = some t -> a.tmps[t]? = some (us.getD i undef) := by
   clear hends hok keeps step fin hM all none hlen
   clear getf hSt
   have : ∀ k, k <= nf -> ∃ us : List Value, us.length = k /\ ∀ i, i < k -> FitsAt w (xs.getD i (.exact undef)) (us.getD i undef) /\ ∀ (o : Oper) (t : Tmp), ops[i]? = some o -> o.dst = some t -> a.tmps[t]? = some (us.getD i undef) := by
    intro k
    induction k with
    | zero => intro _; exact ⟨[], rfl, fun i hi => by omega⟩
    | succ k ih =>
     intro hk
     obtain ⟨us, hl, hu⟩ := ih (by omega)
     obtain ⟨u, h1, h2⟩ := ex k (by omega)
     refine ⟨us ++ [u], by simp [hl], fun i hi => ?_⟩
     by_cases e : i < k
     ·have : (us ++ [u]).getD i undef = us.getD i undef := by
       rw [List.getD_eq_getElem?_getD, List.getD_eq_getElem?_getD, List.getElem?_append_left (by omega)]
      rw [this]; exact hu i e
     ·obtain rfl : i = k := by omega
      have : (us ++ [u]).getD i undef = u := by
       rw [List.getD_eq_getElem?_getD, <- hl, List.getElem?_concat_length]; rfl
      rw [this]; exact ⟨h1, h2⟩
   exact this nf (Nat.le_refl _)
  have hget : ∀ i, i < nf -> us[i]? = some (us.getD i undef) := fun i hi => by
   have : i < us.length := by omega
   simp [this]
  have hall : ∀ (i : Nat) (o : Oper), (ops.toList.take nf)[i]? = some o ↔ i < nf /\ ops[i]? = some o := by
   intro i o
   rw [List.getElem?_take]
   by_cases h : i < nf
   ·simp [h]
   ·simp [h]
  have he : a = putVals a0 (ops.toList.take nf) us := by
   obtain ⟨k1, k2⟩ := putVals_keep (ops.toList.take nf) us a0
   have ht : a.tmps = (putVals a0 (ops.toList.take nf) us).tmps := by
    apply Array.ext_getElem?
    intro t
    by_cases hw : ∃ (i : Nat) (o : Oper), i < nf /\ ops[i]? = some o /\ o.dst = some t
    ·obtain ⟨i, o, hi, ho, hd⟩ := hw
     rw [(hus i hi).2 o t ho hd]
     refine (putVals_at (ops.toList.take nf) us a0 i o _ t ((hall i o).2 ⟨hi, ho⟩) (hget i hi) hd (hok.dst i o t ho hd) ?_).symm
     intro j p hp hpt
     exact hok.one j i p o t ((hall j p).1 hp).2 ho hpt hd
    ·rw [hM.rest t (fun i o ho hl hd => by
      by_cases hi : i < nf
      ·exact hw ⟨i, o, hi, ho, hd⟩
      ·rw [none i (by omega) (lt_of_some ho)] at hl; cases hl), putVals_other]
     intro o ho hd
     obtain ⟨i, hi⟩ := List.getElem?_of_mem ho
     obtain ⟨h1, h2⟩ := (hall i o).1 hi
     exact hw ⟨i, o, h1, h2, hd⟩
   have hdf : a.defers = (putVals a0 (ops.toList.take nf) us).defers := by rw [hM.defers, k1]
   cases a; cases h : putVals a0 (ops.toList.take nf) us
   rw [h] at ht hdf
   simp_all
  rw [he]
  refine after_fits xs us _ _ (fits_of xs us (by omega) ?_) (fin w hM.law)
  intro i x u hx hu
  have hi : i < nf := by
   have := List.getElem?_eq_some_iff.1 hu
   obtain ⟨h, _⟩ := this
   omega
  have h1 := (hus i hi).1
  have h2 : xs.getD i (.exact undef) = x := by rw [List.getD_eq_getElem?_getD, hx]; rfl
  have h3 : us.getD i undef = u := by rw [List.getD_eq_getElem?_getD, hu]; rfl
  rw [h2, h3] at h1
  exact h1
 intro m
 induction m with
 | zero =>
  intro listed a w hM ⟨rem, _, hlen0, hrem⟩ hno
  have all : ∀ i, i < nf -> listed.getD i true = true := by
   intro i hi
   cases hl : listed.getD i true with
   | true => rfl
   | false =>
    have := (hrem i).2 ⟨hi, hl⟩
    rw [List.length_eq_zero_iff.1 hlen0] at this; cases this
  have hK := finish listed a w hM all hno
  rcases hends with ⟨hn, hQ⟩ | ⟨hn, o, ho, hg, haft, hQ⟩ | ⟨hn, o, o2, ho, ho2, hg, hg2, haft, haft2, hQ⟩ | ⟨hn, htl, hQ⟩
  rotate_left 3
  ·rw [Nat.zero_add]
   exact tail_core hok htl (ops.size - nf) nf (by omega) (Nat.le_refl _) listed a w hM.sz all hno (hQ a w hK)
  ·have hr : Region.ready .any ops listed = [] := by
    cases hr : Region.ready .any ops listed with
    | nil => rfl
    | cons i rs =>
     have : i ∈ Region.ready .any ops listed := by rw [hr]; simp
     obtain ⟨o, ho, hl, _⟩ := mem_ready.1 this
     rw [all i (by have := lt_of_some ho; omega)] at hl; cases hl
   rw [show 0 + (ops.size - nf) = 0 by omega]
   exact ⟨hr, hQ a w hK⟩
  ·rw [show 0 + (ops.size - nf) = 0 + 1 by omega]
   have hmem : nf ∈ Region.ready .any ops listed := mem_ready.2 ⟨o, ho, hno nf (Nat.le_refl _) (by omega), fun e he hb => by
    have hlt := hok.back nf o e ho he hb
    rw [getf false true (by rw [hM.sz]; omega)]
    exact all e.on hlt⟩
   refine ⟨fun h => by (rw [h] at hmem; exact absurd hmem (by simp)), fun i hi => ?_⟩
   obtain ⟨o', ho', hl', _⟩ := mem_ready.1 hi
   have hi2 : i = nf := by
    by_cases h : i < nf
    ·rw [all i h] at hl'; cases hl'
    ·have := lt_of_some ho'; omega
   subst hi2
   unfold wpOp
   simp only [ho]
   rw [if_pos (by simp [Region.wanted, hg])]
   refine .inl (Oper.wp_mono (fun a' w' hq => ⟨?_, hq⟩) (hQ a w hK))
   cases hr : Region.ready .any ops (listed.setIfInBounds i true) with
   | nil => rfl
   | cons k rs =>
    have : k ∈ Region.ready .any ops (listed.setIfInBounds i true) := by rw [hr]; simp
    obtain ⟨p, hp, hl, _⟩ := mem_ready.1 this
    rw [getD_set (by rw [hM.sz]; omega)] at hl
    split at hl
    ·cases hl
    ·have := lt_of_some hp
     rw [all k (by omega)] at hl; cases hl
  ·rw [show 0 + (ops.size - nf) = 0 + 1 + 1 by omega]
   have closed : ∀ (i : Nat) (o : Oper) (e : Edge), ops[i]? = some o -> listed.getD i false = true -> e ∈ o.after -> Region.binds .any e = true -> listed.getD e.on false = true := fun i o e ho hl he hb =>
    hM.back i o e ho (by rw [getf true false (by rw [hM.sz]; exact lt_of_some ho)]; exact hl) he hb
   have hmem : nf ∈ Region.ready .any ops listed := mem_ready.2 ⟨o, ho, hno nf (Nat.le_refl _) (by omega), fun e he hb => by
    have hlt := hok.back nf o e ho he hb
    rw [getf false true (by rw [hM.sz]; omega)]
    exact all e.on hlt⟩
   refine ⟨fun h => by (rw [h] at hmem; exact absurd hmem (by simp)), fun i hi => ?_⟩
   obtain ⟨o', ho', hl', haf'⟩ := mem_ready.1 hi
   have hi2 : i = nf := by
    by_cases h : i < nf
    ·rw [all i h] at hl'; cases hl'
    ·have h2 := lt_of_some ho'
     by_cases h3 : i = nf
     ·exact h3
     ·have h4 : i = nf + 1 := by omega
      subst h4
      have := dep_listed closed ops.size (nf + 1) nf o' ho' haf' (haft2 nf (by omega))
      rw [getf false true (by rw [hM.sz]; omega), hno nf (Nat.le_refl _) (by omega)] at this
      cases this
   subst hi2
   unfold wpOp
   simp only [ho]
   rw [if_pos (by simp [Region.wanted, hg])]
   refine .inl (Oper.wp_mono (fun a' w' hq => ?_) (hQ a w hK))
   have hil : i < listed.size := by rw [hM.sz]; omega
   have hmem2 : i + 1 ∈ Region.ready .any ops (listed.setIfInBounds i true) := mem_ready.2 ⟨o2, ho2, by rw [getD_set hil, if_neg (by omega)]; exact hno (i + 1) (by omega) (by omega), fun e he hb => by
    have hlt := hok.back (i + 1) o2 e ho2 he hb
    rw [getD_set hil]
    split
    ·rfl
    ·rw [getf false true (by rw [hM.sz]; omega)]
     exact all e.on (by omega)⟩
   refine ⟨fun h => by (rw [h] at hmem2; exact absurd hmem2 (by simp)), fun k hk => ?_⟩
   obtain ⟨p, hp, hlk, _⟩ := mem_ready.1 hk
   have hk2 : k = i + 1 := by
    rw [getD_set hil] at hlk
    split at hlk
    ·cases hlk
    ·by_cases h : k < i
     ·rw [all k h] at hlk; cases hlk
     ·have h2 := lt_of_some hp; omega
   subst hk2
   unfold wpOp
   simp only [ho2]
   rw [if_pos (by simp [Region.wanted, hg2])]
   refine .inl (Oper.wp_mono (fun a'' w'' hq2 => ⟨?_, hq2⟩) hq)
   cases hr : Region.ready .any ops ((listed.setIfInBounds i true).setIfInBounds (i + 1) true) with
   | nil => rfl
   | cons k rs =>
    have : k ∈ Region.ready .any ops ((listed.setIfInBounds i true).setIfInBounds (i + 1) true) := by rw [hr]; simp
    obtain ⟨p, hp, hl, _⟩ := mem_ready.1 this
    rw [getD_set (by simp; rw [hM.sz]; omega)] at hl
    split at hl
    ·cases hl
    ·rw [getD_set hil] at hl
     split at hl
     ·cases hl
     ·have := lt_of_some hp
      rw [all k (by omega)] at hl; cases hl
 | succ m ih =>
  intro listed a w hM ⟨rem, hnd, hlen1, hrem⟩ hno
  rw [show m + 1 + (ops.size - nf) = m + (ops.size - nf) + 1 by omega]
  refine ⟨fun hr => ?_, ?_⟩
  ·exfalso
   have all : ∀ i, i < nf -> listed.getD i true = true := by
    intro i
    induction i using Nat.strongRecOn with
    | ind i ih2 =>
     intro hi
     cases hl : listed.getD i true with
     | true => rfl
     | false =>
      have ho : ops[i]? = some (ops[i]'(by omega)) := by simp
      have : i ∈ Region.ready .any ops listed := mem_ready.2 ⟨_, ho, hl, fun e he hb => by
       have hlt := hok.back i _ e ho he hb
       have := ih2 e.on hlt (by omega)
       rw [getf false true (by rw [hM.sz]; omega)]; exact this⟩
      rw [hr] at this; cases this
   cases hrm : rem with
   | nil => rw [hrm] at hlen1; simp at hlen1
   | cons k ks =>
    obtain ⟨h1, h2⟩ := (hrem k).1 (by rw [hrm]; simp)
    rw [all k h1] at h2; cases h2
  ·intro i hi
   obtain ⟨o, ho, hl, haft⟩ := mem_ready.1 hi
   have hin := lt_of_some ho
   by_cases hinf : i < nf
   ·have hx : xs[i]? = some (xs[i]'(by omega)) := by simp
    generalize xs[i]'(by omega) = x at hx
    obtain ⟨f, take_at, hkn, hst⟩ := step i o x hinf ho hx
    have hxk := keeps i x hx
    have hxj : ∀ j, j < i -> xs[j]? = some (xs.getD j (.exact undef)) := fun j hj => by
     have : j < xs.length := by omega
     simp [this]
    have holds : ∀ (e : Edge) (p : Oper) (t : Tmp), e ∈ o.after -> Region.binds .any e = true -> ops[e.on]? = some p -> p.dst = some t -> ∃ u, a.tmps[t]? = some u /\ FitsAt w (xs.getD e.on (.exact undef)) u := by
     intro e p t he hb hp hpt
     have hji := hok.back i o e ho he hb
     exact hM.ran e.on p _ t hp (hxj _ hji) hpt (by rw [getf true false (by rw [hM.sz]; omega)]; exact haft e he hb)
    have hwant : Region.wanted o (yielded ops a.tmps) = wantedV f o := by
     cases hg : o.guard with
     | none => simp [Region.wanted, wantedV, hg]
     | some g =>
      obtain ⟨j, b⟩ := g
      obtain ⟨⟨e, he, hb, hj⟩, t, ht⟩ := hok.guard i o j b ho hg
      subst hj
      have hji := hok.back i o e ho he hb
      obtain ⟨p, hp, hpt⟩ := Option.bind_eq_some_iff.1 ht
      obtain ⟨u, hu, hfit⟩ := holds e p t he hb hp hpt
      have hf := take_at _ hji
      rw [hxj _ hji] at hf
      simp only [knownV, hg, hf] at hkn
      simp only [Region.wanted, wantedV, hg, hf, yielded, hp, Option.bind_some, hpt, hu]
      generalize xs.getD e.on (.exact undef) = y at *
      cases y with
      | rel p => cases hkn
      | exact v =>
       have : u = v := hfit
       subst this
       cases u <;> simp
    have hreads : readsAre a a0 w f (readsOf ops o) := by
     unfold readsOf
     refine readsAre_map (f := fun t => ((o.after.toList.filter fun e => Region.binds .any e).map (·.on)).find? fun j => ((ops[j]?).bind (·.dst)) == some t) ?_
     intro t ht
     cases hf : ((o.after.toList.filter fun e => Region.binds .any e).map (·.on)).find? fun j => ((ops[j]?).bind (·.dst)) == some t with
     | some j =>
      have hj1 := List.find?_some hf
      have hj2 := List.mem_of_find?_eq_some hf
      obtain ⟨e, he, rfl⟩ := List.mem_map.1 hj2
      rw [List.mem_filter] at he
      have hea : e ∈ o.after := by simpa using he.1
      have hji := hok.back i o e ho hea he.2
      obtain ⟨p, hp, hpt⟩ := Option.bind_eq_some_iff.1 (by simpa using hj1)
      obtain ⟨u, hu, hfit⟩ := holds e p t hea he.2 hp hpt
      have hfe := take_at _ hji
      rw [hxj _ hji] at hfe
      simp only [hfe]
      generalize xs.getD e.on (.exact undef) = y at *
      cases y with
      | exact v =>
       have : u = v := hfit
       subst this; exact hu
      | rel p => exact ⟨u, hu, hfit⟩
     | none =>
      refine hM.rest t ?_
      intro j p hp hlj hpt
      by_cases hij : i = j
      ·subst hij; rw [hl] at hlj; cases hlj
      ·rcases hok.sees i j o p t ho hp hpt ht hij with ⟨e, he, hb, rfl⟩ | ⟨e, he, hb, rfl⟩
       ·have := List.find?_eq_none.1 hf e.on (List.mem_map.2 ⟨e, List.mem_filter.2 ⟨by simpa using he, hb⟩, rfl⟩)
        simp [hp, hpt] at this
       ·have := hM.back j p e hp hlj he hb
        rw [getf false true (by rw [hM.sz]; omega), hl] at this; cases this
    have hil : i < listed.size := by rw [hM.sz]; exact hin
    have mid : ∀ a' w', Done w a o.dst x a' w' -> Mid ops a0 xs S (listed.setIfInBounds i true) a' w' := by
     rintro a' w' ⟨hbel, hd⟩
     obtain ⟨u, rfl, hfit⟩ : ∃ u, a' = a.put o.dst u /\ FitsAt w' x u := by
      cases x with
      | exact v => exact ⟨v, hd, rfl⟩
      | rel p => exact hd
     refine ⟨by simp [hM.sz], hSt w w' hM.law hbel, ?_, ?_, ?_, ?_, ?_, ?_⟩
     ·rw [<- hM.defers]; cases o.dst <;> rfl
     ·rw [<- hM.size]; cases o.dst <;> simp [Act.put]
     ·intro j p e hp hlj he hb
      rw [getD_set hil] at hlj ⊢
      split
      ·rfl
      ·split at hlj
       ·rename_i h2
        subst h2
        rw [hp] at ho; cases ho
        exact haft e he hb
       ·exact hM.back j p e hp hlj he hb
     ·intro j p y t hp hy hpt hlj
      rw [getD_set hil] at hlj
      split at hlj
      ·rename_i h2
       subst h2
       rw [hp] at ho; cases ho
       rw [hx] at hy; cases hy
       have := hok.dst i _ t hp hpt
       exact ⟨u, by simp [Act.put, hpt, hM.size, this], hfit⟩
      ·rename_i h2
       have hne : ∀ d, o.dst = some d -> d ≠ t := fun d hd e => h2 (hok.one i j o p d ho hp hd (by rw [hpt, e]))
       obtain ⟨u', hu', hf'⟩ := hM.ran j p y t hp hy hpt hlj
       refine ⟨u', ?_, hf'.later (keeps j y hy) hbel⟩
       cases hd2 : o.dst with
       | none => simpa [Act.put] using hu'
       | some d => simpa [Act.put, Array.getElem?_setIfInBounds_ne (hne d hd2)] using hu'
     ·intro j p y hp hy hpt hlj
      rw [getD_set hil] at hlj
      split at hlj
      ·rename_i h2
       subst h2
       rw [hx] at hy; cases hy
       exact ⟨u, hfit⟩
      ·obtain ⟨u', hf'⟩ := hM.ranNo j p y hp hy hpt hlj
       exact ⟨u', hf'.later (keeps j y hy) hbel⟩
     ·intro t h
      have h1 : o.dst ≠ some t := h i o ho (by rw [getD_set hil, if_pos rfl])
      have h2 := hM.rest t (fun j p hp hlj => h j p hp (by rw [getD_set hil]; split <;> first | rfl | exact hlj))
      cases hd2 : o.dst with
      | none => simpa [Act.put] using h2
      | some d =>
       have hne : d ≠ t := fun e => h1 (by rw [hd2, e])
       simpa [Act.put, Array.getElem?_setIfInBounds_ne hne] using h2
    have next : ∀ a' w', Done w a o.dst x a' w' -> wpAny P .any ops Q (m + (ops.size - nf)) (listed.setIfInBounds i true) a' w' := by
     intro a' w' hD
     refine ih _ a' w' (mid a' w' hD) ⟨rem.erase i, hnd.erase i, ?_, ?_⟩ ?_
     ·rw [List.length_erase_of_mem ((hrem i).2 ⟨hinf, hl⟩), hlen1]; rfl
     ·intro j
      rw [hnd.mem_erase_iff, hrem j, getD_set hil]
      by_cases e : i = j
      ·subst e; simp
      ·have : j ≠ i := fun h => e h.symm
       simp [e, this]
     ·intro j hj1 hj2
      rw [getD_set hil, if_neg (by omega)]
      exact hno j hj1 hj2
    unfold wpOp
    simp only [ho]
    rw [hwant]
    by_cases hw : wantedV f o = true
    ·rw [if_pos hw] at hst ⊢
     exact .inl (Oper.wp_mono next (hst a w hM.law hreads))
    ·rw [if_neg hw] at hst ⊢
     subst hst
     exact next _ _ Done.same
   ·exfalso
    have closed : ∀ (i : Nat) (o : Oper) (e : Edge), ops[i]? = some o -> listed.getD i false = true -> e ∈ o.after -> Region.binds .any e = true -> listed.getD e.on false = true := fun i o e ho hl he hb =>
     hM.back i o e ho (by rw [getf true false (by rw [hM.sz]; exact lt_of_some ho)]; exact hl) he hb
    have bad : ∀ k, k < nf -> depB ops ops.size i k = true -> listed.getD k true = true := fun k hk hd => by
     rw [getf true false (by rw [hM.sz]; omega)]
     exact dep_listed closed ops.size i k o ho haft hd
    cases hrm : rem with
    | nil => rw [hrm] at hlen1; simp at hlen1
    | cons k ks =>
     obtain ⟨h1, h2⟩ := (hrem k).1 (by rw [hrm]; simp)
     have hd : depB ops ops.size i k = true := by
      rcases hends with ⟨hn, _⟩ | ⟨hn, o', ho', _, haf, _⟩ | ⟨hn, o', o2', ho', ho2', _, _, haf, haf2, _⟩ | ⟨hn, htl, _⟩
      rotate_left 3
      ·exact htl i (by omega) hin k (by omega)
      ·omega
      ·obtain rfl : i = nf := by omega
       exact haf k h1
      ·by_cases h3 : i = nf
       ·subst h3; exact haf k h1
       ·obtain rfl : i = nf + 1 := by omega
        exact haf2 k (by omega)
     rw [bad k h1 hd] at h2; cases h2
theorem range_first {size : Nat} (hok : OkAt ops size) : ∀ (m k : Nat) (listed : Array Bool), k + m = ops.size -> listed.size = ops.size -> (∀ i, i < ops.size -> listed.getD i true = decide (i < k)) ->
 Region.linearise.go .any ops m 0 listed [] = List.range' k m := by
 intro m
 induction m with
 | zero => intro k listed _ _ _; simp [Region.linearise.go]
 | succ m ih =>
  intro k listed hk hsz hl
  have hkn : k < ops.size := by omega
  have hready : ∃ rs, Region.ready .any ops listed = k :: rs := by
   unfold Region.ready
   have hr : List.range ops.size = List.range k ++ k :: (List.range' (k + 1) (ops.size - k - 1)) := by
    rw [List.range_eq_range', List.range_eq_range', <- List.range'_succ]
    have := @List.range'_append 0 k (ops.size - k - 1 + 1) 1
    simp only [Nat.one_mul, Nat.zero_add] at this
    rw [this]; congr 1; omega
   rw [hr, List.filter_append]
   have h1 : (List.range k).filter (fun i => !listed.getD i true && ((ops[i]?).map (·.after.all fun e => !Region.binds .any e || listed.getD e.on false)).getD false) = [] := by
    rw [List.filter_eq_nil_iff]
    intro i hi
    have := List.mem_range.1 hi
    rw [hl i (by omega)]
    simp [this]
   rw [h1, List.nil_append, List.filter_cons]
   have ho : ops[k]? = some ops[k] := by simp [hkn]
   have h2 : (!listed.getD k true && ((ops[k]?).map (·.after.all fun e => !Region.binds .any e || listed.getD e.on false)).getD false) = true := by
    rw [hl k hkn, ho]
    simp only [Nat.lt_irrefl, decide_false, Bool.not_false, Bool.true_and, Option.map_some, Option.getD_some]
    rw [Array.all_eq_true']
    intro e he
    cases hb : Region.binds .any e with
    | false => rfl
    | true =>
     have hlt := hok.back k _ e ho he hb
     have := hl e.on (by omega)
     have h3 : listed.getD e.on false = listed.getD e.on true := by
      have : e.on < listed.size := by omega
      simp [Array.getD_eq_getD_getElem?, this]
     rw [h3, this]
     simp [hlt]
   rw [if_pos h2]
   exact ⟨_, rfl⟩
  obtain ⟨rs, hrs⟩ := hready
  simp only [Region.linearise.go]
  change (match (Region.ready .any ops listed)[0 % (Region.ready .any ops listed).length]? with
   | some i => Region.linearise.go .any ops m (0 / (Region.ready .any ops listed).length) (listed.setIfInBounds i true) [i]
   | none => [].reverse) = _
  rw [hrs]
  simp only [Nat.zero_mod, List.getElem?_cons_zero, Nat.zero_div]
  rw [linearise_go_acc, ih (k + 1) (listed.setIfInBounds k true) (by omega) (by simpa using hsz)]
  ·simp [List.range'_succ]
  ·intro i hi
   rw [getD_set (by omega), hl i hi]
   split
   ·rename_i h; subst h; simp
   ·rename_i h
    by_cases h2 : i < k
    ·simp [h2]; omega
    ·simp [h2]; omega
theorem any_of_chain {w : World} {nf : Nat} (hSt : ∀ w w', S w -> Below w.heap.size w w' -> S w') (hck : okRegion ops a0.tmps.size = true) (hnf : nf <= ops.size) (hends : Ends P Q ops nf K) (hS : S w)
 (h : Chain P Q K a0 S (ops.toList.take nf) (((ops.toList.take nf)).zip ((ops.toList.take nf).map (readsOf ops))) 0 []) : wpAny P .any ops Q ops.size (Array.replicate ops.size false) a0 w := by
 obtain ⟨xs, hl, hf, hs⟩ := chain_all _ [] h
 have hlen : xs.length = nf := by rw [hl]; simp; omega
 have hz : ∀ i o, i < nf -> ops[i]? = some o -> ((ops.toList.take nf).zip ((ops.toList.take nf).map (readsOf ops)))[i]? = some (o, readsOf ops o) := by
  intro i o hi ho
  rw [List.getElem?_zip_eq_some]
  simp [hi, ho]
 have hget : ∀ (i : Nat) (x : Val), xs[i]? = some x -> i < nf := fun i x hx => by
  obtain ⟨h, _⟩ := List.getElem?_eq_some_iff.1 hx
  omega
 have := stable_core (okAt_of hck) hlen hends hSt (fun i x hx => ?_) (fun i o x hi ho hx => ?_) (fun w' hS' => by simpa using hf w' hS') nf (Array.replicate ops.size false) a0 w
  ⟨by simp, hS, rfl, rfl, ?_, ?_, ?_, fun _ _ => rfl⟩ ⟨List.range nf, List.nodup_range, by simp, ?_⟩ ?_
 ·rw [show ops.size = nf + (ops.size - nf) by omega] at this ⊢
  simpa using this
 ·have hi := hget i x hx
  have ho : ops[i]? = some (ops[i]'(by omega)) := by simp
  obtain ⟨f, _, hk, _⟩ := hs i _ _ x (hz i _ hi ho) hx
  exact hk
 ·obtain ⟨f, h1, _, h3, h4⟩ := hs i o _ x (hz i o hi ho) hx
  exact ⟨f, fun j hj => by simpa using h1 j (by simpa using hj), h3, h4⟩
 ·intro i o e ho hl0
  have hi := lt_of_some ho
  simp [Array.getD_eq_getD_getElem?, hi] at hl0
 ·intro i o x t ho hx hd hl0
  have hi := lt_of_some ho
  simp [Array.getD_eq_getD_getElem?, hi] at hl0
 ·intro i o x ho hx hd hl0
  have hi := lt_of_some ho
  simp [Array.getD_eq_getD_getElem?, hi] at hl0
 ·intro i
  rw [List.mem_range]
  constructor
  ·intro hi
   have : i < ops.size := by omega
   exact ⟨hi, by simp [Array.getD_eq_getD_getElem?, this]⟩
  ·exact fun h => h.1
 ·intro i _ hi
  simp [Array.getD_eq_getD_getElem?, hi]
theorem wp_region_stable {id : Nat} {draw : Bool} {w : World} (S : World -> Prop) (hSt : ∀ w w', S w -> Below w.heap.size w w' -> S w') (plan : List (List (Tmp × Option Nat))) (hm : P.follows .mixedOrders = true) (hck : okRegion ops a0.tmps.size = true)
 (hplan : ops.toList.map (readsOf ops) = plan) (hS : S w) (h : Chain P Q (fun a w => Q .normal a w) a0 S ops.toList (ops.toList.zip plan) 0 []) : (Code.region id ops draw).wp P Q a0 w := by
 subst hplan
 have ht : ops.toList.take ops.size = ops.toList := List.take_of_length_le (by rw [Array.length_toList]; exact Nat.le_refl _)
 have hany : ∀ w, S w -> wpAny P .any ops Q ops.size (Array.replicate ops.size false) a0 w := fun w hS =>
  any_of_chain (K := fun a w => Q .normal a w) (nf := ops.size) hSt hck (Nat.le_refl _) (.inl ⟨rfl, fun _ _ h => h⟩) hS (by rw [ht]; exact h)
 cases draw with
 | true => exact wp_region_any hm (hany w.drew (hSt w _ hS (Below.refl _ _).drew))
 | false =>
  have := wpAny_sound ops.size 0 _ a0 w (hany w hS)
  rw [range_first (okAt_of hck) ops.size 0 _ (by omega) (by simp) (fun i hi => by simp [Array.getD_eq_getD_getElem?, hi]), <- List.range_eq_range'] at this
  exact wp_region this
def lastOk (ops : Array Oper) : Bool := match ops[ops.size - 1]? with
 | none => false
 | some o => o.guard.isNone && (List.range (ops.size - 1)).all fun j => depB ops ops.size (ops.size - 1) j
def lastTwoOk (ops : Array Oper) : Bool := match ops[ops.size - 2]?, ops[ops.size - 1]? with
 | some o, some o2 => o.guard.isNone && o2.guard.isNone && ((List.range (ops.size - 2)).all fun j => depB ops ops.size (ops.size - 2) j) && (List.range (ops.size - 1)).all fun j => depB ops ops.size (ops.size - 1) j
 | _, _ => false
theorem wp_region_stable_last {id : Nat} {draw : Bool} {w : World} (S : World -> Prop) (hSt : ∀ w w', S w -> Below w.heap.size w w' -> S w') (plan : List (List (Tmp × Option Nat))) {o : Oper} (hops : ops.toList.getLast? = some o)
 (hm : P.follows .mixedOrders = true) (hck : okRegion ops a0.tmps.size = true) (hlast : lastOk ops = true)
 (hplan : ops.toList.dropLast.map (readsOf ops) = plan) (hS : S w) (h : Chain P Q (fun a w => o.wp P a w (fun a w => Q .normal a w) Q) a0 S ops.toList.dropLast (ops.toList.dropLast.zip plan) 0 []) : (Code.region id ops draw).wp P Q a0 w := by
 subst hplan
 obtain ⟨front, hf⟩ : ∃ front, ops.toList = front ++ [o] := by
  rw [List.getLast?_eq_some_iff] at hops
  exact hops
 have hdl : ops.toList.dropLast = front := by rw [hf]; simp
 rw [hdl] at h
 have hsz : ops.size = front.length + 1 := by rw [<- Array.length_toList, hf]; simp
 have ht : ops.toList.take front.length = front := by rw [hf]; simp
 have ho : ops[front.length]? = some o := by
  rw [<- Array.getElem?_toList, hf]; simp
 have hany : ∀ w, S w -> wpAny P .any ops Q ops.size (Array.replicate ops.size false) a0 w := fun w hS => by
  refine any_of_chain (K := fun a w => o.wp P a w (fun a w => Q .normal a w) Q) (nf := front.length) hSt hck (by omega) (.inr (.inl ⟨hsz.symm, o, ho, ?_, ?_, fun _ _ h => h⟩)) hS (by rw [ht]; exact h)
  ·unfold lastOk at hlast
   rw [show ops.size - 1 = front.length by omega, ho] at hlast
   simp only [Bool.and_eq_true] at hlast
   simpa using hlast.1
  ·intro j hj
   unfold lastOk at hlast
   rw [show ops.size - 1 = front.length by omega, ho] at hlast
   simp only [Bool.and_eq_true] at hlast
   exact all_range hlast.2 hj
 cases draw with
 | true => exact wp_region_any hm (hany w.drew (hSt w _ hS (Below.refl _ _).drew))
 | false =>
  have := wpAny_sound ops.size 0 _ a0 w (hany w hS)
  rw [range_first (okAt_of hck) ops.size 0 _ (by omega) (by simp) (fun i hi => by simp [Array.getD_eq_getD_getElem?, hi]), <- List.range_eq_range'] at this
  exact wp_region this
theorem wp_region_stable_two {id : Nat} {draw : Bool} {w : World} (S : World -> Prop) (hSt : ∀ w w', S w -> Below w.heap.size w w' -> S w') (plan : List (List (Tmp × Option Nat))) {o o2 : Oper} (hops2 : ops.toList.getLast? = some o2) (hops : ops.toList.dropLast.getLast? = some o)
 (hm : P.follows .mixedOrders = true) (hck : okRegion ops a0.tmps.size = true) (hlast : lastTwoOk ops = true)
 (hplan : ops.toList.dropLast.dropLast.map (readsOf ops) = plan) (hS : S w) (h : Chain P Q (fun a w => o.wp P a w (fun a w => o2.wp P a w (fun a w => Q .normal a w) Q) Q) a0 S ops.toList.dropLast.dropLast (ops.toList.dropLast.dropLast.zip plan) 0 []) : (Code.region id ops draw).wp P Q a0 w := by
 subst hplan
 obtain ⟨front, hf⟩ : ∃ front, ops.toList = front ++ [o, o2] := by
  rw [List.getLast?_eq_some_iff] at hops2
  obtain ⟨l1, e1⟩ := hops2
  have e2 : ops.toList.dropLast = l1 := by rw [e1]; simp
  rw [e2, List.getLast?_eq_some_iff] at hops
  obtain ⟨l2, e3⟩ := hops
  exact ⟨l2, by rw [e1, e3]; simp⟩
 have hdl : ops.toList.dropLast.dropLast = front := by
  rw [hf, show front ++ [o, o2] = (front ++ [o]) ++ [o2] by simp, List.dropLast_concat, List.dropLast_concat]
 rw [hdl] at h
 have hsz : ops.size = front.length + 2 := by rw [<- Array.length_toList, hf]; simp
 have ht : ops.toList.take front.length = front := by rw [hf]; simp
 have ho : ops[front.length]? = some o := by
  rw [<- Array.getElem?_toList, hf]; simp
 have ho2 : ops[front.length + 1]? = some o2 := by
  rw [<- Array.getElem?_toList, hf]; simp
 unfold lastTwoOk at hlast
 rw [show ops.size - 2 = front.length by omega, show ops.size - 1 = front.length + 1 by omega, ho, ho2] at hlast
 simp only [Bool.and_eq_true] at hlast
 have hany : ∀ w, S w -> wpAny P .any ops Q ops.size (Array.replicate ops.size false) a0 w := fun w hS => by
  refine any_of_chain (K := fun a w => o.wp P a w (fun a w => o2.wp P a w (fun a w => Q .normal a w) Q) Q) (nf := front.length) hSt hck (by omega) (.inr (.inr (.inl ⟨hsz.symm, o, o2, ho, ho2, by simpa using hlast.1.1.1, by simpa using hlast.1.1.2, fun j hj => all_range hlast.1.2 hj, fun j hj => all_range hlast.2 hj, fun _ _ h => h⟩))) hS (by rw [ht]; exact h)
 cases draw with
 | true => exact wp_region_any hm (hany w.drew (hSt w _ hS (Below.refl _ _).drew))
 | false =>
  have := wpAny_sound ops.size 0 _ a0 w (hany w hS)
  rw [range_first (okAt_of hck) ops.size 0 _ (by omega) (by simp) (fun i hi => by simp [Array.getD_eq_getD_getElem?, hi]), <- List.range_eq_range'] at this
  exact wp_region this
def tailOk (ops : Array Oper) (nf : Nat) : Bool := decide (nf <= ops.size) && (List.range ops.size).all fun i => decide (i < nf) || (List.range i).all fun j => depB ops ops.size i j
theorem wp_region_stable_tail {id : Nat} {draw : Bool} {w : World} (nf : Nat) (S : World -> Prop) (hSt : ∀ w w', S w -> Below w.heap.size w w' -> S w') (plan : List (List (Tmp × Option Nat))) {fr tl : List Oper} (hfr : ops.toList.take nf = fr) (htl : ops.toList.drop nf = tl)
 (hm : P.follows .mixedOrders = true) (hck : okRegion ops a0.tmps.size = true) (hlast : tailOk ops nf = true)
 (hplan : fr.map (readsOf ops) = plan) (hS : S w) (h : Chain P Q (fun a w => wpList P ops Q tl a w) a0 S fr (fr.zip plan) 0 []) : (Code.region id ops draw).wp P Q a0 w := by
 subst hfr; subst htl; subst hplan
 unfold tailOk at hlast
 simp only [Bool.and_eq_true, decide_eq_true_eq] at hlast
 obtain ⟨hnf, hall⟩ := hlast
 have hdep : ∀ i, nf <= i -> i < ops.size -> ∀ j, j < i -> depB ops ops.size i j = true := fun i h1 h2 j hj => by
  have := all_range hall h2
  simp only [Bool.or_eq_true, decide_eq_true_eq] at this
  rcases this with h | h
  ·omega
  ·exact all_range h hj
 have hany : ∀ w, S w -> wpAny P .any ops Q ops.size (Array.replicate ops.size false) a0 w := fun w hS =>
  any_of_chain (K := fun a w => wpList P ops Q (ops.toList.drop nf) a w) (nf := nf) hSt hck hnf (.inr (.inr (.inr ⟨hnf, hdep, fun _ _ h => h⟩))) hS h
 cases draw with
 | true => exact wp_region_any hm (hany w.drew (hSt w _ hS (Below.refl _ _).drew))
 | false =>
  have := wpAny_sound ops.size 0 _ a0 w (hany w hS)
  rw [range_first (okAt_of hck) ops.size 0 _ (by omega) (by simp) (fun i hi => by simp [Array.getD_eq_getD_getElem?, hi]), <- List.range_eq_range'] at this
  exact wp_region this
end
set_option linter.unusedVariables false
end Go.Proofs.Ytidoofdofdhjpaa
namespace Go.Proofs.Ytidoofdofdhjpaa
open Go
set_option linter.unusedVariables false
def cutAt (c : UInt8) : List UInt8 -> Option (List UInt8 × List UInt8)
 | [] => none
 | x :: l => if x = c then some ([], l) else (cutAt c l).map fun p => (x :: p.1, p.2)
def tailB (lo hi : Nat) (c : UInt8) : Bool := lo <= c.toNat && c.toNat <= hi
def utf8L : List UInt8 -> Bool
 | [] => true
 | a :: l =>
  if a.toNat < 128 then utf8L l
  else match l with
  | [] => false
  | b :: l =>
   if 194 <= a.toNat /\ a.toNat <= 223 then tailB 128 191 b && utf8L l
   else match l with
   | [] => false
   | c :: l =>
    if a.toNat = 224 then tailB 160 191 b && tailB 128 191 c && utf8L l
    else if a.toNat = 237 then tailB 128 159 b && tailB 128 191 c && utf8L l
    else if 225 <= a.toNat /\ a.toNat <= 239 then tailB 128 191 b && tailB 128 191 c && utf8L l
    else match l with
    | [] => false
    | d :: l =>
     if a.toNat = 240 then tailB 144 191 b && tailB 128 191 c && tailB 128 191 d && utf8L l
     else if 241 <= a.toNat /\ a.toNat <= 243 then tailB 128 191 b && tailB 128 191 c && tailB 128 191 d && utf8L l
     else if a.toNat = 244 then tailB 128 143 b && tailB 128 191 c && tailB 128 191 d && utf8L l
     else false
structure Tok where
 kind : Nat
 at_ : Nat
 lo : Nat := 0
 hi : Nat := 0
 cls : BitVec 256 := 0#256
 text : List UInt8 := []
deriving DecidableEq
inductive One where
 | tok (t : Tok) (n : Nat)
 | bad (e : Nat)
def closed (c : UInt8) (e : Nat) (rest : List UInt8) (f : List UInt8 -> One) : One :=
 match cutAt c rest with
 | none => .bad e
 | some (a, _) => f a
set_option linter.unusedSimpArgs false
def bs (l : List UInt8) : ByteArray := ⟨l.toArray⟩
theorem bs_size (l : List UInt8) : (bs l).size = l.length := rfl
theorem bs_data (l : List UInt8) : (bs l).data.toList = l := rfl
theorem bs_self (s : ByteArray) : bs s.data.toList = s := Lib.mk_data s
theorem bs_get (l : List UInt8) (i : Nat) (h : i < (bs l).size) : (bs l)[i] = l[i]'(by rwa [bs_size] at h) := rfl
end Go.Proofs.Ytidoofdofdhjpaa
namespace Go.Proofs.Ytidoofdofdhjpaa
open Go Go.RowKit
set_option linter.unusedVariables false
end Go.Proofs.Ytidoofdofdhjpaa
