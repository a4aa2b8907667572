/- Tokens of a text: the plain mathematics. -/
import Derived.Test.YtidoofdofdhjpaaM01
import Derived.Test.YtidoofdofdhjpaaM02
import Derived.Lib.DecodeN
import Derived.Lib.Strings
import Derived.Lib.IndexBytes
import Derived.Deep.Cut
import Derived.BigQuiet
import Derived.IntWalk
import Derived.Deep.QuietTactic
import Derived.Lib.Bytealg
import Derived.Laws.Strings3
import Derived.Lib.BufferWrite
import Derived.Lib.UnsafeStr
import Derived.Laws.MakeOwn
import Derived.Deep.OwnRows
import Derived.Lib.Split
import Derived.Deep.LoopGhost
import Derived.Lib.Walk
import Derived.WalkSmall
import Derived.Lib.ValidU
import Derived.Lib.TrimUEq
namespace Go.Proofs.Ytidoofdofdhjpaa
open Go
set_option linter.unusedVariables false

/-- What stands ahead of the first such byte, and what stands behind it. -/
def cutAt (c : UInt8) : List UInt8 → Option (List UInt8 × List UInt8)
  | [] => none
  | x :: l => if x = c then some ([], l) else (cutAt c l).map fun p => (x :: p.1, p.2)
/-- Valid UTF-8, by the table of Unicode's standard. -/
def tailB (lo hi : Nat) (c : UInt8) : Bool := lo ≤ c.toNat && c.toNat ≤ hi
def utf8L : List UInt8 → Bool
  | [] => true
  | a :: l =>
    if a.toNat < 128 then utf8L l
    else match l with
    | [] => false
    | b :: l =>
      if 194 ≤ a.toNat ∧ a.toNat ≤ 223 then tailB 128 191 b && utf8L l
      else match l with
      | [] => false
      | c :: l =>
        if a.toNat = 224 then tailB 160 191 b && tailB 128 191 c && utf8L l
        else if a.toNat = 237 then tailB 128 159 b && tailB 128 191 c && utf8L l
        else if 225 ≤ a.toNat ∧ a.toNat ≤ 239 then tailB 128 191 b && tailB 128 191 c && utf8L l
        else match l with
        | [] => false
        | d :: l =>
          if a.toNat = 240 then tailB 144 191 b && tailB 128 191 c && tailB 128 191 d && utf8L l
          else if 241 ≤ a.toNat ∧ a.toNat ≤ 243 then tailB 128 191 b && tailB 128 191 c && tailB 128 191 d && utf8L l
          else if a.toNat = 244 then tailB 128 143 b && tailB 128 191 c && tailB 128 191 d && utf8L l
          else false
/-- A token. -/
structure Tok where
  kind : Nat
  at_ : Nat
  lo : Nat := 0
  hi : Nat := 0
  cls : BitVec 256 := 0#256
  text : List UInt8 := []
deriving DecidableEq
/-- What begins with a byte: a token and how many bytes it has behind that one, or an error. -/
inductive One where
  | tok (t : Tok) (n : Nat)
  | bad (e : Nat)
def closed (c : UInt8) (e : Nat) (rest : List UInt8) (f : List UInt8 → One) : One :=
  match cutAt c rest with
  | none => .bad e
  | some (a, _) => f a
end Go.Proofs.Ytidoofdofdhjpaa
/- Runes of a text, and valid UTF-8: the plain mathematics. -/
namespace Go.Proofs.Ytidoofdofdhjpaa
open Go
set_option linter.unusedVariables false
set_option linter.unusedSimpArgs false

/-- A text of such bytes. -/
def bs (l : List UInt8) : ByteArray := ⟨l.toArray⟩
theorem bs_size (l : List UInt8) : (bs l).size = l.length := rfl
theorem bs_data (l : List UInt8) : (bs l).data.toList = l := rfl
theorem bs_self (s : ByteArray) : bs s.data.toList = s := Lib.mk_data s
theorem bs_get (l : List UInt8) (i : Nat) (h : i < (bs l).size) : (bs l)[i] = l[i]'(by rwa [bs_size] at h) := rfl
/-! ### valid UTF-8 -/
end Go.Proofs.Ytidoofdofdhjpaa
/- The library's calls on strings, at a byte: walked. -/
namespace Go.Proofs.Ytidoofdofdhjpaa
open Go Go.RowKit
set_option linter.unusedVariables false

/-! ### CutPrefix -/
/-! ### Clone -/
/-! ### Split -/
end Go.Proofs.Ytidoofdofdhjpaa
/- Valid UTF-8: the model's decoder and the standard's table tell the same. -/
namespace Go.Proofs.Ytidoofdofdhjpaa
open Go
set_option linter.unusedVariables false
end Go.Proofs.Ytidoofdofdhjpaa
