/- Runes of a text, and valid UTF-8: the plain mathematics. -/
import Derived.Test.YtgabifebcfgngaaM03
import Derived.Test.YtgabifebcfgngaaM02
import Derived.Lib.DecodeN
import Derived.Lib.Strings
import Derived.Lib.IndexBytes
import Derived.Deep.Cut
import Derived.BigQuiet
import Derived.IntWalk
import Derived.Deep.QuietTactic
import Derived.Lib.Bytealg
import Derived.Laws.Strings3
import Derived.Lib.BufferWrite
import Derived.Lib.UnsafeStr
import Derived.Laws.MakeOwn
import Derived.Deep.OwnRows
import Derived.Lib.Split
import Derived.Deep.LoopGhost
import Derived.Lib.Walk
import Derived.WalkSmall
import Derived.Lib.ValidU
import Derived.Lib.TrimUEq
import Derived.Shelf.Unicode.ValidAny
namespace Go.Proofs.Ytgabifebcfgngaa
open Go
set_option linter.unusedVariables false
set_option linter.unusedSimpArgs false

/-- A text of such bytes. -/
def bs (l : List UInt8) : ByteArray := ⟨l.toArray⟩
theorem bs_size (l : List UInt8) : (bs l).size = l.length := rfl
theorem bs_data (l : List UInt8) : (bs l).data.toList = l := rfl
theorem bs_self (s : ByteArray) : bs s.data.toList = s := Lib.mk_data s
theorem bs_get (l : List UInt8) (i : Nat) (h : i < (bs l).size) : (bs l)[i] = l[i]'(by rwa [bs_size] at h) := rfl
/-! ### valid UTF-8 -/
end Go.Proofs.Ytgabifebcfgngaa
/- The library's calls on strings, at a byte: walked. -/
namespace Go.Proofs.Ytgabifebcfgngaa
open Go Go.RowKit
set_option linter.unusedVariables false

/-! ### CutPrefix -/
/-! ### Clone -/
/-! ### Split -/
end Go.Proofs.Ytgabifebcfgngaa
/- Valid UTF-8: the model's decoder and the standard's table tell the same. -/
namespace Go.Proofs.Ytgabifebcfgngaa
open Go
set_option linter.unusedVariables false
end Go.Proofs.Ytgabifebcfgngaa
/- Valid UTF-8: the library's call, and lex.Utf8. -/
namespace Go.Proofs.Ytgabifebcfgngaa
open Go Go.RowKit
set_option linter.unusedVariables false
set_option maxRecDepth 100000

end Go.Proofs.Ytgabifebcfgngaa
