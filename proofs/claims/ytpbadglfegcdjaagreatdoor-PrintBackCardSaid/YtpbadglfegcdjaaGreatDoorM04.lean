/- The call 'awake' of the statements of layer 1 answers true. -/
import Derived.Test.YtpbadglfegcdjaaGreatDoorM02
import Derived.Test.YtpbadglfegcdjaaGreatDoorM03
import Derived.Test.YtpbadglfegcdjaaGreatDoorM01
import Derived.Deep.Cut
import Derived.Lib.DecodeN
import Derived.Lib.Strings
import Derived.Lib.IndexBytes
namespace Go.Proofs.YtpbadglfegcdjaaGreatDoor
open Go Go.RowKit
set_option linter.unusedVariables false

structure AwakeS (w0 : World) (b : Nat) (w : World) : Prop where
  below : Below w0.heap.size w0 w
  deb : Deb w
  blk : Blk w b (cells4 (rowB 97 99)) 40
theorem AwakeS.later {w0 w w' : World} {b : Nat} (h : AwakeS w0 b w) (hb : Below w.heap.size w w') : AwakeS w0 b w' :=
  ⟨h.below.trans (hb.mono h.below.size), h.deb.below hb, h.blk.later hb⟩

theorem least97 : IsLeast (rowB 97 99) 97 := ⟨by decide, by rw [rowB_bit _ _ _ (by decide)]; decide, fun j hj => by rw [rowB_bit _ _ _ (by omega)]; simp; omega⟩

theorem lit0 : Value.agg #[.int .u64 0, .int .u64 0, .int .u64 0, .int .u64 0] = cls 0#256 := by
  unfold cls
  rw [show wd 0#256 0 = 0 by decide, show wd 0#256 1 = 0 by decide, show wd 0#256 2 = 0 by decide, show wd 0#256 3 = 0 by decide]; rfl
theorem lit1 : Value.agg #[.int .u64 1, .int .u64 0, .int .u64 0, .int .u64 9223372036854775808] = cls (addL 0#256 [0, 255]) := by
  unfold cls
  rw [show wd (addL 0#256 [0, 255]) 0 = 1 by decide +kernel, show wd (addL 0#256 [0, 255]) 1 = 0 by decide +kernel, show wd (addL 0#256 [0, 255]) 2 = 0 by decide +kernel, show wd (addL 0#256 [0, 255]) 3 = 9223372036854775808 by decide +kernel]; rfl
theorem lit22 : Value.agg #[.int .u64 22, .int .u64 0, .int .u64 0, .int .u64 0] = cls (rowB 1 2 ||| rowB 4 4) := by
  unfold cls
  rw [show wd (rowB 1 2 ||| rowB 4 4) 0 = 22 by decide +kernel, show wd (rowB 1 2 ||| rowB 4 4) 1 = 0 by decide +kernel, show wd (rowB 1 2 ||| rowB 4 4) 2 = 0 by decide +kernel, show wd (rowB 1 2 ||| rowB 4 4) 3 = 0 by decide +kernel]; rfl
theorem lit24 : Value.agg #[.int .u64 24, .int .u64 0, .int .u64 0, .int .u64 0] = cls (rowB 1 4 &&& rowB 3 9) := by
  unfold cls
  rw [show wd (rowB 1 4 &&& rowB 3 9) 0 = 24 by decide +kernel, show wd (rowB 1 4 &&& rowB 3 9) 1 = 0 by decide +kernel, show wd (rowB 1 4 &&& rowB 3 9) 2 = 0 by decide +kernel, show wd (rowB 1 4 &&& rowB 3 9) 3 = 0 by decide +kernel]; rfl
theorem cnt97 : cntS (rowB 97 99) = 3 := by decide +kernel
theorem cnt97n : cntS (~~~rowB 97 99) = 253 := by decide +kernel
theorem row21 : rowB 2 1 = 0#256 := by decide +kernel

/-- A slice of these bytes, just laid. -/
def Two (v : Value) (w : World) : Prop := ∃ b, v = .slice (some ⟨b, 0, none⟩) 2 2 ∧ Row8 w (some ⟨b, 0, none⟩) [0, 255]
theorem Row8.later {w w' : World} {a : Option Addr} {l : List Nat} (h : Row8 w a l) (hb : Below w.heap.size w w') : Row8 w' a l :=
  ⟨h.1, h.2.1, fun i hi => by
    obtain ⟨b, off, ha, hlt, hc⟩ := h.2.2 i hi
    exact ⟨b, off, ha, Nat.lt_of_lt_of_le hlt hb.size, (hb.cell (p := ⟨b, off + i, none⟩) hlt).trans hc⟩⟩
theorem Two.later (v : Value) (w w' : World) (h : Two v w) (hb : Below w.heap.size w w') : Two v w' := by
  obtain ⟨b, hv, hr⟩ := h
  exact ⟨b, hv, hr.later hb⟩
theorem Two.new (w : World) : Two (.slice (some ⟨w.heap.size, 0, none⟩) 2 2) (w.alloc (.cells #[.int .u8 0, .int .u8 255] 5)) := by
  refine ⟨_, rfl, by simp, by simp, fun i hi => ⟨_, 0, rfl, by simp, ?_⟩⟩
  rw [(Blk.new w #[.int .u8 0, .int .u8 255] 5).cell]
  have : i = 0 ∨ i = 1 := by simp at hi; omega
  rcases this with rfl | rfl <;> rfl

end Go.Proofs.YtpbadglfegcdjaaGreatDoor
/- The statement ClassRows of layer 1, walked: rows of bytes, two that touch, a byte added. -/
namespace Go.Proofs.YtpbadglfegcdjaaGreatDoor
open Go Go.RowKit
set_option linter.unusedVariables false

/-! ### the sets -/
theorem cnt_row (a b : Nat) (h : a ≤ b) : ∀ n, cnt (fun i => decide (a ≤ i ∧ i ≤ b)) n = min n (b + 1) - min n a
  | 0 => by simp [cnt]
  | n + 1 => by
    have ih := cnt_row a b h n
    show cnt _ n + (if decide (a ≤ n ∧ n ≤ b) = true then 1 else 0) = _
    rw [ih]
    by_cases e : a ≤ n ∧ n ≤ b
    · simp [e]; omega
    · simp [e]; omega
theorem cntS_row (a b : Nat) (h : a ≤ b) (hb : b < 256) : cntS (rowB a b) = b + 1 - a := by
  unfold cntS
  rw [cnt_congr (q := fun i => decide (a ≤ i ∧ i ≤ b)) (fun i hi => rowB_bit a b i hi), cnt_row a b h]
  omega
theorem row_none (a b : Nat) (h : b < a) : rowB a b = 0#256 := by
  refine BitVec.eq_of_getLsbD_eq fun n hn => ?_
  rw [rowB_bit _ _ _ hn]; simp; omega
theorem least_row (a b : Nat) (h : a ≤ b) (hb : b < 256) : IsLeast (rowB a b) a :=
  ⟨by omega, by rw [rowB_bit _ _ _ (by omega)]; simp [h], fun j hj => by rw [rowB_bit _ _ _ (by omega)]; simp; omega⟩
theorem row_join (a m b : Nat) (h1 : a ≤ m) (h2 : m < b) (hb : b < 256) : rowB a m ||| rowB (m + 1) b = rowB a b := by
  refine BitVec.eq_of_getLsbD_eq fun n hn => ?_
  rw [BitVec.getLsbD_or, rowB_bit _ _ _ hn, rowB_bit _ _ _ hn, rowB_bit _ _ _ hn, ← Bool.decide_or]
  congr 1; rw [eq_iff_iff]; omega
theorem add_has (s : BitVec 256) (c : Nat) (hc : c < 256) : (s ||| one c).getLsbD c = true := by
  rw [BitVec.getLsbD_or, one_bit _ _ hc]; simp
theorem add_in (s : BitVec 256) (c : Nat) (hc : c < 256) (h : s.getLsbD c = true) : s ||| one c = s := by
  refine BitVec.eq_of_getLsbD_eq fun n hn => ?_
  rw [BitVec.getLsbD_or, one_bit _ _ hn]
  by_cases e : n = c
  · subst e; simp [h]
  · simp [e]
theorem cntS_add (s : BitVec 256) (c : Nat) (hc : c < 256) (h : s.getLsbD c = false) : cntS (s ||| one c) = cntS s + 1 := by
  have h1 := cntS_or_and s (one c)
  have h2 : s &&& one c = 0#256 := by
    refine BitVec.eq_of_getLsbD_eq fun n hn => ?_
    rw [BitVec.getLsbD_and, one_bit _ _ hn]
    by_cases e : n = c
    · subst e; simp [h]
    · simp [e]
  have h3 : cntS (one c) = 1 := by
    have : one c = rowB c c := by
      refine BitVec.eq_of_getLsbD_eq fun n hn => ?_
      rw [one_bit _ _ hn, rowB_bit _ _ _ hn]
      congr 1; rw [eq_iff_iff]; omega
    rw [this, cntS_row _ _ (Nat.le_refl _) hc]; omega
  have h4 : cntS 0#256 = 0 := by decide +kernel
  rw [h2, h3, h4] at h1
  omega
theorem and_add (s : BitVec 256) (c : Nat) : s &&& (s ||| one c) = s := by
  refine BitVec.eq_of_getLsbD_eq fun n hn => ?_
  rw [BitVec.getLsbD_and, BitVec.getLsbD_or]
  cases s.getLsbD n <;> simp

/-! ### rows of bytes just laid -/
def NewRow (l : List Nat) (v : Value) (w : World) : Prop := ∃ b, v = .slice (some ⟨b, 0, none⟩) l.length l.length ∧ Row8 w (some ⟨b, 0, none⟩) l
theorem NewRow.later (l : List Nat) (v : Value) (w w' : World) (h : NewRow l v w) (hb : Below w.heap.size w w') : NewRow l v w' := by
  obtain ⟨b, hv, hr⟩ := h
  exact ⟨b, hv, hr.later hb⟩
theorem NewRow.new (w : World) (l : List Nat) (hl : ∀ c ∈ l, c < 256) (hs : l.length ≤ 9223372036854775807) :
    NewRow l (.slice (some ⟨w.heap.size, 0, none⟩) l.length l.length) (w.alloc (.cells (l.map fun c : Nat => Value.int .u8 (c : Int)).toArray 5)) := by
  refine ⟨_, rfl, hl, hs, fun i hi => ⟨_, 0, rfl, by simp, ?_⟩⟩
  rw [(Blk.new w _ 5).cell]
  simp [hi]
theorem row_nil (w : World) : Row8 w none [] := ⟨by simp, by simp, fun i hi => by simp at hi⟩

structure RowsS (w0 : World) (a : BitVec 256) (w : World) : Prop where
  below : Below w0.heap.size w0 w
  deb : Deb w
  blk : Blk w w0.heap.size (cells4 a) 40
theorem RowsS.later {w0 w w' : World} {a : BitVec 256} (h : RowsS w0 a w) (hb : Below w.heap.size w w') : RowsS w0 a w' :=
  ⟨h.below.trans (hb.mono h.below.size), h.deb.below hb, h.blk.later hb⟩
structure RowsS2 (w0 : World) (a : BitVec 256) (b : Nat) (r : BitVec 256) (w : World) : Prop extends RowsS w0 a w where
  blk2 : Blk w b (cells4 r) 40
theorem RowsS2.later {w0 w w' : World} {a r : BitVec 256} {b : Nat} (h : RowsS2 w0 a b r w) (hb : Below w.heap.size w w') : RowsS2 w0 a b r w' :=
  ⟨h.toRowsS.later hb, h.blk2.later hb⟩

end Go.Proofs.YtpbadglfegcdjaaGreatDoor
/- Tokens of a text: the plain mathematics. -/
namespace Go.Proofs.YtpbadglfegcdjaaGreatDoor
open Go
set_option linter.unusedVariables false

/-- What stands ahead of the first such byte, and what stands behind it. -/
def cutAt (c : UInt8) : List UInt8 → Option (List UInt8 × List UInt8)
  | [] => none
  | x :: l => if x = c then some ([], l) else (cutAt c l).map fun p => (x :: p.1, p.2)
theorem cutAt_some {c : UInt8} : ∀ {l a b : List UInt8}, cutAt c l = some (a, b) → l = a ++ c :: b ∧ c ∉ a
  | [], a, b, h => by cases h
  | x :: l, a, b, h => by
    unfold cutAt at h
    by_cases e : x = c
    · rw [if_pos e] at h; cases h; exact ⟨by rw [e]; rfl, by simp⟩
    · rw [if_neg e] at h
      cases hc : cutAt c l with
      | none => rw [hc] at h; cases h
      | some p =>
        obtain ⟨p1, p2⟩ := p
        rw [hc] at h; cases h
        obtain ⟨h1, h2⟩ := cutAt_some hc
        exact ⟨by rw [h1]; rfl, by simp [h2, Ne.symm e]⟩
theorem cutAt_none {c : UInt8} : ∀ {l : List UInt8}, cutAt c l = none ↔ c ∉ l
  | [] => by simp [cutAt]
  | x :: l => by
    unfold cutAt
    by_cases e : x = c
    · rw [if_pos e]; simp [e]
    · rw [if_neg e]; simp [cutAt_none (l := l), Ne.symm e]
theorem cutAt_app {c : UInt8} : ∀ {a b : List UInt8}, c ∉ a → cutAt c (a ++ c :: b) = some (a, b)
  | [], b, h => by simp [cutAt]
  | x :: a, b, h => by
    simp at h
    show cutAt c (x :: (a ++ c :: b)) = _
    unfold cutAt
    rw [if_neg (Ne.symm h.1), cutAt_app h.2]; rfl

/-- A digit's value. -/
def digV (c : UInt8) : Option Nat := if 48 ≤ c.toNat ∧ c.toNat ≤ 57 then some (c.toNat - 48) else if 97 ≤ c.toNat ∧ c.toNat ≤ 102 then some (c.toNat - 87) else none
def hexV : List UInt8 → Option Nat
  | [a, b] => match digV a, digV b with
    | some x, some y => some (16 * x + y)
    | _, _ => none
  | _ => none
theorem digV_lt {c : UInt8} {x : Nat} (h : digV c = some x) : x < 16 := by
  unfold digV at h; split at h
  · cases h; omega
  · split at h
    · cases h; omega
    · cases h
theorem hexV_lt {l : List UInt8} {x : Nat} (h : hexV l = some x) : x < 256 := by
  unfold hexV at h; split at h
  · split at h
    · rename_i h1 h2; cases h; have := digV_lt h1; have := digV_lt h2; omega
    · cases h
  · cases h
/-- The class of an item. -/
def itemV (l : List UInt8) : Option (BitVec 256) :=
  let p := (cutAt 45 l).getD (l, l)
  match hexV p.1, hexV p.2 with
  | some x, some y => if x ≤ y then some (rowB x y) else none
  | _, _ => none
/-- The pieces between such bytes. -/
def piecesA (c : UInt8) : List UInt8 → List UInt8 × List (List UInt8)
  | [] => ([], [])
  | x :: l => if x = c then ([], (piecesA c l).1 :: (piecesA c l).2) else (x :: (piecesA c l).1, (piecesA c l).2)
def pieces (c : UInt8) (l : List UInt8) : List (List UInt8) := (piecesA c l).1 :: (piecesA c l).2
def itemsV : BitVec 256 → List (List UInt8) → Option (BitVec 256)
  | s, [] => some s
  | s, p :: l => match itemV p with
    | some t => itemsV (s ||| t) l
    | none => none
def listV (l : List UInt8) : Option (BitVec 256) := if l = [] then some 0#256 else itemsV 0#256 (pieces 44 l)
def classV (l : List UInt8) : Option (BitVec 256) :=
  if l.head? = some 94 then (listV l.tail).map (~~~ ·) else listV l
/-- A number, but 256 where it is above 255. -/
def numF : Nat → List UInt8 → Option Nat
  | n, [] => some n
  | n, c :: l => if 48 ≤ c.toNat ∧ c.toNat ≤ 57 then numF (min (10 * n + (c.toNat - 48)) 256) l else none
def numV (l : List UInt8) : Option Nat := if l = [] ∨ (1 < l.length ∧ l.head? = some 48) then none else numF 0 l
def repV (l : List UInt8) : Option (Nat × Nat) :=
  match cutAt 44 l with
  | none => none
  | some (a, b) => match numV a, numV b with
    | some x, some y => some (x, y)
    | _, _ => none
/-- Valid UTF-8, by the table of Unicode's standard. -/
def tailB (lo hi : Nat) (c : UInt8) : Bool := lo ≤ c.toNat && c.toNat ≤ hi
def utf8L : List UInt8 → Bool
  | [] => true
  | a :: l =>
    if a.toNat < 128 then utf8L l
    else match l with
    | [] => false
    | b :: l =>
      if 194 ≤ a.toNat ∧ a.toNat ≤ 223 then tailB 128 191 b && utf8L l
      else match l with
      | [] => false
      | c :: l =>
        if a.toNat = 224 then tailB 160 191 b && tailB 128 191 c && utf8L l
        else if a.toNat = 237 then tailB 128 159 b && tailB 128 191 c && utf8L l
        else if 225 ≤ a.toNat ∧ a.toNat ≤ 239 then tailB 128 191 b && tailB 128 191 c && utf8L l
        else match l with
        | [] => false
        | d :: l =>
          if a.toNat = 240 then tailB 144 191 b && tailB 128 191 c && tailB 128 191 d && utf8L l
          else if 241 ≤ a.toNat ∧ a.toNat ≤ 243 then tailB 128 191 b && tailB 128 191 c && tailB 128 191 d && utf8L l
          else if a.toNat = 244 then tailB 128 143 b && tailB 128 191 c && tailB 128 191 d && utf8L l
          else false
def textV (l : List UInt8) : Option (List UInt8) := if l = [] ∨ utf8L l = false then none else some l

/-- A token. -/
structure Tok where
  kind : Nat
  at_ : Nat
  lo : Nat := 0
  hi : Nat := 0
  cls : BitVec 256 := 0#256
  text : List UInt8 := []
deriving DecidableEq
/-- What begins with a byte: a token and how many bytes it has behind that one, or an error. -/
inductive One where
  | tok (t : Tok) (n : Nat)
  | bad (e : Nat)
def closed (c : UInt8) (e : Nat) (rest : List UInt8) (f : List UInt8 → One) : One :=
  match cutAt c rest with
  | none => .bad e
  | some (a, _) => f a
def oneV (c : UInt8) (rest : List UInt8) : One :=
  if c = 46 then .tok { kind := 1, at_ := 0, cls := rowB 0 255 } 0
  else if c = 40 then .tok { kind := 3, at_ := 0 } 0
  else if c = 41 then .tok { kind := 4, at_ := 0 } 0
  else if c = 124 then .tok { kind := 5, at_ := 0 } 0
  else if c = 42 then .tok { kind := 6, at_ := 0 } 0
  else if c = 98 then .tok { kind := 8, at_ := 0 } 0
  else if c = 119 then .tok { kind := 9, at_ := 0 } 0
  else if c = 60 then closed 62 2 rest fun a => match classV a with
    | none => .bad 2
    | some s => .tok { kind := 1, at_ := 0, cls := s } (a.length + 1)
  else if c = 34 then closed 34 3 rest fun a => match textV a with
    | none => .bad 3
    | some t => .tok { kind := 2, at_ := 0, text := t } (a.length + 1)
  else if c = 123 then closed 125 4 rest fun a => match repV a with
    | none => .bad 4
    | some (x, y) => if 255 < y ∨ y < x then .bad 5 else .tok { kind := 7, at_ := 0, lo := x, hi := y } (a.length + 1)
  else .bad 1
/-- The tokens from a place on, where so many bytes belong to the token ahead; or the first error and its place. -/
def readL : List UInt8 → Nat → Nat → Except (Nat × Nat) (List Tok)
  | [], p, _ => .ok [{ kind := 10, at_ := p }]
  | _ :: l, p, k + 1 => readL l (p + 1) k
  | c :: l, p, 0 => if c = 32 then readL l (p + 1) 0 else match oneV c l with
    | .bad e => .error (e, p)
    | .tok t n => (readL l (p + 1) n).map fun r => { t with at_ := p } :: r
theorem readL_nil (p k : Nat) : readL [] p k = .ok [{ kind := 10, at_ := p }] := by cases k <;> rfl
theorem readL_skip : ∀ (l : List UInt8) (p k j : Nat), j ≤ k → j ≤ l.length → readL l p k = readL (l.drop j) (p + j) (k - j)
  | l, p, k, 0, _, _ => rfl
  | [], p, k, j + 1, _, h => by simp at h
  | c :: l, p, 0, j + 1, h, _ => by omega
  | c :: l, p, k + 1, j + 1, h, h2 => by
    show readL l (p + 1) k = _
    rw [readL_skip l (p + 1) k j (by omega) (by simpa using h2)]
    simp only [List.drop_succ_cons]
    congr 1 <;> omega
end Go.Proofs.YtpbadglfegcdjaaGreatDoor
/- Runes of a text, and valid UTF-8: the plain mathematics. -/
namespace Go.Proofs.YtpbadglfegcdjaaGreatDoor
open Go
set_option linter.unusedVariables false
set_option linter.unusedSimpArgs false

/-- A text of such bytes. -/
def bs (l : List UInt8) : ByteArray := ⟨l.toArray⟩
theorem bs_size (l : List UInt8) : (bs l).size = l.length := rfl
theorem bs_data (l : List UInt8) : (bs l).data.toList = l := rfl
theorem bs_self (s : ByteArray) : bs s.data.toList = s := Lib.mk_data s
theorem bs_inj {a b : List UInt8} (h : bs a = bs b) : a = b := by have := congrArg (fun x : ByteArray => x.data.toList) h; exact this
theorem bs_extract (l : List UInt8) (a b : Nat) : (bs l).extract a b = bs ((l.drop a).take (b - a)) := by
  rw [Lib.extract_eq]; rfl
theorem bs_get (l : List UInt8) (i : Nat) (h : i < (bs l).size) : (bs l)[i] = l[i]'(by rwa [bs_size] at h) := rfl
theorem bs_get! (l : List UInt8) (i : Nat) : (bs l).get! i = l.getD i 0 := by
  show l.toArray[i]! = _
  by_cases h : i < l.length
  · simp [h]
  · simp [h]; rfl
theorem bs_append (a b : List UInt8) : bs a ++ bs b = bs (a ++ b) := by
  show ByteArray.append _ _ = _
  unfold bs
  apply ByteArray.ext
  simp

theorem dec_small (l : List UInt8) (p : Nat) (hb : (l.getD p 0).toNat < 128) : Utf8.decode (bs l) p = ((l.getD p 0).toNat, 1) := by
  rw [Lib.decode_at, bs_get!]; unfold Lib.decodeN; rw [if_pos hb]
theorem dec_big (l : List UInt8) (p : Nat) (h : p < l.length) (hb : 128 ≤ (l.getD p 0).toNat) :
    128 ≤ (Utf8.decode (bs l) p).1 ∧ (Utf8.decode (bs l) p).1 < 2147483648 ∧ 1 ≤ (Utf8.decode (bs l) p).2 ∧ p + (Utf8.decode (bs l) p).2 ≤ l.length ∧ ∀ j, 1 ≤ j → j < (Utf8.decode (bs l) p).2 → 128 ≤ (l.getD (p + j) 0).toNat := by
  rw [Lib.decode_at]
  simp only [bs_get!, bs_size]
  have h1 := (l.getD p 0).toNat_lt
  have h2 := (l.getD (p + 1) 0).toNat_lt
  have h3 := (l.getD (p + 2) 0).toNat_lt
  have h4 := (l.getD (p + 3) 0).toNat_lt
  have key : ∀ w, w ≤ 4 → (2 ≤ w → 128 ≤ (l.getD (p + 1) 0).toNat) → (3 ≤ w → 128 ≤ (l.getD (p + 2) 0).toNat) → (4 ≤ w → 128 ≤ (l.getD (p + 3) 0).toNat) → ∀ j, 1 ≤ j → j < w → 128 ≤ (l.getD (p + j) 0).toNat := by
    intro w hw a b c j j1 j2
    rcases (by omega : j = 1 ∨ j = 2 ∨ j = 3) with rfl | rfl | rfl
    · exact a (by omega)
    · exact b (by omega)
    · exact c (by omega)
  generalize (l.getD p 0).toNat = b0 at *
  generalize hb1 : (l.getD (p + 1) 0).toNat = b1 at *
  generalize hb2 : (l.getD (p + 2) 0).toNat = b2 at *
  generalize hb3 : (l.getD (p + 3) 0).toNat = b3 at *
  unfold Lib.decodeN
  rw [if_neg (by omega)]
  split
  · split
    · refine ⟨by simp; omega, by simp; omega, by simp, by simp; omega, fun j j1 j2 => key 2 (by omega) (by omega) (by omega) (by omega) j j1 j2⟩
    · refine ⟨by simp, by simp, by simp, by simp; omega, fun j j1 j2 => key 1 (by omega) (by omega) (by omega) (by omega) j j1 j2⟩
  · split
    · split
      · refine ⟨by simp; omega, by simp; omega, by simp, by simp; omega, fun j j1 j2 => key 3 (by omega) (by omega) (by omega) (by omega) j j1 j2⟩
      · refine ⟨by simp, by simp, by simp, by simp; omega, fun j j1 j2 => key 1 (by omega) (by omega) (by omega) (by omega) j j1 j2⟩
    · split
      · split
        · refine ⟨by simp; omega, by simp; omega, by simp, by simp; omega, fun j j1 j2 => key 4 (by omega) (by omega) (by omega) (by omega) j j1 j2⟩
        · refine ⟨by simp, by simp, by simp, by simp; omega, fun j j1 j2 => key 1 (by omega) (by omega) (by omega) (by omega) j j1 j2⟩
      · refine ⟨by simp, by simp, by simp, by simp; omega, fun j j1 j2 => key 1 (by omega) (by omega) (by omega) (by omega) j j1 j2⟩

/-! ### valid UTF-8 -/
theorem utf8_cons (a : UInt8) (l : List UInt8) (h : a.toNat < 128) : utf8L (a :: l) = utf8L l := by rw [utf8L.eq_def]; simp only; rw [if_pos h]
theorem utf8_low : ∀ (a l : List UInt8), (∀ c ∈ a, c.toNat < 128) → utf8L (a ++ l) = utf8L l
  | [], l, h => rfl
  | c :: a, l, h => by
    show utf8L (c :: (a ++ l)) = _
    rw [utf8_cons _ _ (h c (by simp)), utf8_low a l fun d hd => h d (by simp [hd])]
/-- How many bytes of what size a first byte asks for: (how many, the second one's least, its greatest). -/
def leadV (a : Nat) : Nat × Nat × Nat :=
  if 194 ≤ a ∧ a ≤ 223 then (2, 128, 191) else if a = 224 then (3, 160, 191) else if a = 237 then (3, 128, 159) else if 225 ≤ a ∧ a ≤ 239 then (3, 128, 191)
  else if a = 240 then (4, 144, 191) else if 241 ≤ a ∧ a ≤ 243 then (4, 128, 191) else if a = 244 then (4, 128, 143) else (0, 0, 0)
/-- Valid, by the first byte's demand. -/
theorem utf8_lead (l : List UInt8) (h0 : 0 < l.length) (h : 128 ≤ (l.getD 0 0).toNat) :
    utf8L l = ((leadV (l.getD 0 0).toNat).1 != 0 && decide ((leadV (l.getD 0 0).toNat).1 ≤ l.length) && tailB (leadV (l.getD 0 0).toNat).2.1 (leadV (l.getD 0 0).toNat).2.2 (l.getD 1 0)
      && (decide ((leadV (l.getD 0 0).toNat).1 ≤ 2) || tailB 128 191 (l.getD 2 0)) && (decide ((leadV (l.getD 0 0).toNat).1 ≤ 3) || tailB 128 191 (l.getD 3 0)) && utf8L (l.drop (leadV (l.getD 0 0).toNat).1)) := by
  match l, h0 with
  | a :: l, _ =>
    simp only [List.getD_cons_zero] at h ⊢
    have h256 := a.toNat_lt
    rw [utf8L.eq_def]
    simp only
    rw [if_neg (by omega)]
    unfold leadV
    by_cases c1 : 194 ≤ a.toNat ∧ a.toNat ≤ 223
    · rw [if_pos c1]
      match l with
      | [] => simp
      | b :: l => simp [c1]
    · rw [if_neg c1]
      by_cases c2 : a.toNat = 224
      · rw [if_pos c2]
        match l with
        | [] => simp
        | [b] => simp [c1]
        | b :: c :: l => simp [c1, c2]
      · rw [if_neg c2]
        by_cases c3 : a.toNat = 237
        · rw [if_pos c3]
          match l with
          | [] => simp
          | [b] => simp [c1]
          | b :: c :: l => simp [c1, c2, c3]
        · rw [if_neg c3]
          by_cases c4 : 225 ≤ a.toNat ∧ a.toNat ≤ 239
          · rw [if_pos c4]
            match l with
            | [] => simp
            | [b] => simp [c1]
            | b :: c :: l => simp [c1, c2, c3, c4]
          · rw [if_neg c4]
            by_cases c5 : a.toNat = 240
            · rw [if_pos c5]
              match l with
              | [] => simp
              | [b] => simp [c1]
              | [b, c] => simp [c1, c2, c3, c4]
              | b :: c :: d :: l => simp [c1, c2, c3, c4, c5]
            · rw [if_neg c5]
              by_cases c6 : 241 ≤ a.toNat ∧ a.toNat ≤ 243
              · rw [if_pos c6]
                match l with
                | [] => simp
                | [b] => simp [c1]
                | [b, c] => simp [c1, c2, c3, c4]
                | b :: c :: d :: l => simp [c1, c2, c3, c4, c5, c6]
              · rw [if_neg c6]
                by_cases c7 : a.toNat = 244
                · rw [if_pos c7]
                  match l with
                  | [] => simp
                  | [b] => simp [c1]
                  | [b, c] => simp [c1, c2, c3, c4]
                  | b :: c :: d :: l => simp [c1, c2, c3, c4, c5, c6, c7]
                · rw [if_neg c7]
                  match l with
                  | [] => simp
                  | [b] => simp [c1]
                  | [b, c] => simp [c1, c2, c3, c4]
                  | b :: c :: d :: l => simp [c1, c2, c3, c4, c5, c6, c7]
end Go.Proofs.YtpbadglfegcdjaaGreatDoor
