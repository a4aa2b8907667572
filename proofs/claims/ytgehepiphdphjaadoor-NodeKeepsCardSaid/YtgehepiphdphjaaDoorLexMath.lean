/- Tokens of a text: the plain mathematics. -/
import Derived.Test.YtgehepiphdphjaaDoorClassMath
import Derived.Lib.DecodeN
namespace Go.Proofs.YtgehepiphdphjaaDoor
open Go
set_option linter.unusedVariables false

/-- What stands ahead of the first such byte, and what stands behind it. -/
def cutAt (c : UInt8) : List UInt8 → Option (List UInt8 × List UInt8)
  | [] => none
  | x :: l => if x = c then some ([], l) else (cutAt c l).map fun p => (x :: p.1, p.2)
theorem cutAt_some {c : UInt8} : ∀ {l a b : List UInt8}, cutAt c l = some (a, b) → l = a ++ c :: b ∧ c ∉ a
  | [], a, b, h => by cases h
  | x :: l, a, b, h => by
    unfold cutAt at h
    by_cases e : x = c
    · rw [if_pos e] at h; cases h; exact ⟨by rw [e]; rfl, by simp⟩
    · rw [if_neg e] at h
      cases hc : cutAt c l with
      | none => rw [hc] at h; cases h
      | some p =>
        obtain ⟨p1, p2⟩ := p
        rw [hc] at h; cases h
        obtain ⟨h1, h2⟩ := cutAt_some hc
        exact ⟨by rw [h1]; rfl, by simp [h2, Ne.symm e]⟩
theorem cutAt_none {c : UInt8} : ∀ {l : List UInt8}, cutAt c l = none ↔ c ∉ l
  | [] => by simp [cutAt]
  | x :: l => by
    unfold cutAt
    by_cases e : x = c
    · rw [if_pos e]; simp [e]
    · rw [if_neg e]; simp [cutAt_none (l := l), Ne.symm e]
theorem cutAt_app {c : UInt8} : ∀ {a b : List UInt8}, c ∉ a → cutAt c (a ++ c :: b) = some (a, b)
  | [], b, h => by simp [cutAt]
  | x :: a, b, h => by
    simp at h
    show cutAt c (x :: (a ++ c :: b)) = _
    unfold cutAt
    rw [if_neg (Ne.symm h.1), cutAt_app h.2]; rfl

/-- A digit's value. -/
def digV (c : UInt8) : Option Nat := if 48 ≤ c.toNat ∧ c.toNat ≤ 57 then some (c.toNat - 48) else if 97 ≤ c.toNat ∧ c.toNat ≤ 102 then some (c.toNat - 87) else none
def hexV : List UInt8 → Option Nat
  | [a, b] => match digV a, digV b with
    | some x, some y => some (16 * x + y)
    | _, _ => none
  | _ => none
theorem digV_lt {c : UInt8} {x : Nat} (h : digV c = some x) : x < 16 := by
  unfold digV at h; split at h
  · cases h; omega
  · split at h
    · cases h; omega
    · cases h
theorem hexV_lt {l : List UInt8} {x : Nat} (h : hexV l = some x) : x < 256 := by
  unfold hexV at h; split at h
  · split at h
    · rename_i h1 h2; cases h; have := digV_lt h1; have := digV_lt h2; omega
    · cases h
  · cases h
/-- The class of an item. -/
def itemV (l : List UInt8) : Option (BitVec 256) :=
  let p := (cutAt 45 l).getD (l, l)
  match hexV p.1, hexV p.2 with
  | some x, some y => if x ≤ y then some (rowB x y) else none
  | _, _ => none
/-- The pieces between such bytes. -/
def piecesA (c : UInt8) : List UInt8 → List UInt8 × List (List UInt8)
  | [] => ([], [])
  | x :: l => if x = c then ([], (piecesA c l).1 :: (piecesA c l).2) else (x :: (piecesA c l).1, (piecesA c l).2)
def pieces (c : UInt8) (l : List UInt8) : List (List UInt8) := (piecesA c l).1 :: (piecesA c l).2
def itemsV : BitVec 256 → List (List UInt8) → Option (BitVec 256)
  | s, [] => some s
  | s, p :: l => match itemV p with
    | some t => itemsV (s ||| t) l
    | none => none
def listV (l : List UInt8) : Option (BitVec 256) := if l = [] then some 0#256 else itemsV 0#256 (pieces 44 l)
def classV (l : List UInt8) : Option (BitVec 256) :=
  if l.head? = some 94 then (listV l.tail).map (~~~ ·) else listV l
/-- A number, but 256 where it is above 255. -/
def numF : Nat → List UInt8 → Option Nat
  | n, [] => some n
  | n, c :: l => if 48 ≤ c.toNat ∧ c.toNat ≤ 57 then numF (min (10 * n + (c.toNat - 48)) 256) l else none
def numV (l : List UInt8) : Option Nat := if l = [] ∨ (1 < l.length ∧ l.head? = some 48) then none else numF 0 l
def repV (l : List UInt8) : Option (Nat × Nat) :=
  match cutAt 44 l with
  | none => none
  | some (a, b) => match numV a, numV b with
    | some x, some y => some (x, y)
    | _, _ => none
/-- Valid UTF-8, by the table of Unicode's standard. -/
def tailB (lo hi : Nat) (c : UInt8) : Bool := lo ≤ c.toNat && c.toNat ≤ hi
def utf8L : List UInt8 → Bool
  | [] => true
  | a :: l =>
    if a.toNat < 128 then utf8L l
    else match l with
    | [] => false
    | b :: l =>
      if 194 ≤ a.toNat ∧ a.toNat ≤ 223 then tailB 128 191 b && utf8L l
      else match l with
      | [] => false
      | c :: l =>
        if a.toNat = 224 then tailB 160 191 b && tailB 128 191 c && utf8L l
        else if a.toNat = 237 then tailB 128 159 b && tailB 128 191 c && utf8L l
        else if 225 ≤ a.toNat ∧ a.toNat ≤ 239 then tailB 128 191 b && tailB 128 191 c && utf8L l
        else match l with
        | [] => false
        | d :: l =>
          if a.toNat = 240 then tailB 144 191 b && tailB 128 191 c && tailB 128 191 d && utf8L l
          else if 241 ≤ a.toNat ∧ a.toNat ≤ 243 then tailB 128 191 b && tailB 128 191 c && tailB 128 191 d && utf8L l
          else if a.toNat = 244 then tailB 128 143 b && tailB 128 191 c && tailB 128 191 d && utf8L l
          else false
def textV (l : List UInt8) : Option (List UInt8) := if l = [] ∨ utf8L l = false then none else some l

/-- A token. -/
structure Tok where
  kind : Nat
  at_ : Nat
  lo : Nat := 0
  hi : Nat := 0
  cls : BitVec 256 := 0#256
  text : List UInt8 := []
deriving DecidableEq
/-- What begins with a byte: a token and how many bytes it has behind that one, or an error. -/
inductive One where
  | tok (t : Tok) (n : Nat)
  | bad (e : Nat)
def closed (c : UInt8) (e : Nat) (rest : List UInt8) (f : List UInt8 → One) : One :=
  match cutAt c rest with
  | none => .bad e
  | some (a, _) => f a
def oneV (c : UInt8) (rest : List UInt8) : One :=
  if c = 46 then .tok { kind := 1, at_ := 0, cls := rowB 0 255 } 0
  else if c = 40 then .tok { kind := 3, at_ := 0 } 0
  else if c = 41 then .tok { kind := 4, at_ := 0 } 0
  else if c = 124 then .tok { kind := 5, at_ := 0 } 0
  else if c = 42 then .tok { kind := 6, at_ := 0 } 0
  else if c = 98 then .tok { kind := 8, at_ := 0 } 0
  else if c = 119 then .tok { kind := 9, at_ := 0 } 0
  else if c = 60 then closed 62 2 rest fun a => match classV a with
    | none => .bad 2
    | some s => .tok { kind := 1, at_ := 0, cls := s } (a.length + 1)
  else if c = 34 then closed 34 3 rest fun a => match textV a with
    | none => .bad 3
    | some t => .tok { kind := 2, at_ := 0, text := t } (a.length + 1)
  else if c = 123 then closed 125 4 rest fun a => match repV a with
    | none => .bad 4
    | some (x, y) => if 255 < y ∨ y < x then .bad 5 else .tok { kind := 7, at_ := 0, lo := x, hi := y } (a.length + 1)
  else .bad 1
/-- The tokens from a place on, where so many bytes belong to the token ahead; or the first error and its place. -/
def readL : List UInt8 → Nat → Nat → Except (Nat × Nat) (List Tok)
  | [], p, _ => .ok [{ kind := 10, at_ := p }]
  | _ :: l, p, k + 1 => readL l (p + 1) k
  | c :: l, p, 0 => if c = 32 then readL l (p + 1) 0 else match oneV c l with
    | .bad e => .error (e, p)
    | .tok t n => (readL l (p + 1) n).map fun r => { t with at_ := p } :: r
theorem readL_nil (p k : Nat) : readL [] p k = .ok [{ kind := 10, at_ := p }] := by cases k <;> rfl
theorem readL_skip : ∀ (l : List UInt8) (p k j : Nat), j ≤ k → j ≤ l.length → readL l p k = readL (l.drop j) (p + j) (k - j)
  | l, p, k, 0, _, _ => rfl
  | [], p, k, j + 1, _, h => by simp at h
  | c :: l, p, 0, j + 1, h, _ => by omega
  | c :: l, p, k + 1, j + 1, h, h2 => by
    show readL l (p + 1) k = _
    rw [readL_skip l (p + 1) k j (by omega) (by simpa using h2)]
    simp only [List.drop_succ_cons]
    congr 1 <;> omega
end Go.Proofs.YtgehepiphdphjaaDoor
