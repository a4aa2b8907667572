/- Valid UTF-8: the library's call, and lex.Utf8. -/
import Derived.Test.YtgehepiphdphjaaDoorLexStr
import Derived.Test.YtgehepiphdphjaaDoorLexUtf8M
import Derived.Shelf.Unicode.ValidAny
namespace Go.Proofs.YtgehepiphdphjaaDoor
open Go Go.RowKit
set_option linter.unusedVariables false
set_option maxRecDepth 100000

def laysValid_ren : Go.Shelf.Ren := ⟨fun | 196 => 50 | 259 => 75 | n => n, fun | 0 => 0 | 3 => 3 | 4 => 4 | 5 => 5 | 9 => 9 | 12 => 12 | 46 => 110 | 53 => 27 | 119 => 106 | 138 => 108 | 139 => 109 | n => n, fun | 3 => 0 | 4 => 1 | n => n⟩
theorem laysValid : Lays.n196 Tryd.prog laysValid_ren := {
  mixed := by kernel_rfl,
  f196 := Tryd.func50.trans (congrArg some (by kernel_rfl)),
  f259 := Tryd.func75.trans (congrArg some (by kernel_rfl)),
  t0 := Tryd.underlying0,
  a0 := Tryd.isAgg0,
  z0 := Tryd.sizeOf0,
  v0 := Tryd.zeroValue0,
  t3 := Tryd.underlying3,
  a3 := Tryd.isAgg3,
  z3 := Tryd.sizeOf3,
  v3 := Tryd.zeroValue3,
  t4 := Tryd.underlying4,
  a4 := Tryd.isAgg4,
  z4 := Tryd.sizeOf4,
  v4 := Tryd.zeroValue4,
  t5 := Tryd.underlying5,
  a5 := Tryd.isAgg5,
  z5 := Tryd.sizeOf5,
  v5 := Tryd.zeroValue5,
  t9 := Tryd.underlying9,
  a9 := Tryd.isAgg9,
  z9 := Tryd.sizeOf9,
  v9 := Tryd.zeroValue9,
  t12 := Tryd.underlying12,
  a12 := Tryd.isAgg12,
  z12 := Tryd.sizeOf12,
  v12 := Tryd.zeroValue12,
  t46 := Tryd.underlying110,
  a46 := Tryd.isAgg110,
  z46 := Tryd.sizeOf110,
  v46 := Tryd.zeroValue110,
  t53 := Tryd.underlying27,
  a53 := Tryd.isAgg27,
  z53 := Tryd.sizeOf27,
  v53 := Tryd.zeroValue27,
  t119 := Tryd.underlying106,
  a119 := Tryd.isAgg106,
  z119 := Tryd.sizeOf106,
  t138 := Tryd.underlying108,
  a138 := Tryd.isAgg108,
  z138 := Tryd.sizeOf108,
  v138 := Tryd.zeroValue108,
  t139 := Tryd.underlying109,
  a139 := Tryd.isAgg109,
  z139 := Tryd.sizeOf109,
  v139 := Tryd.zeroValue109,
  g3 := by kernel_rfl,
  g4 := by kernel_rfl }
/-- The tables of unicode/utf8 stand where the program lays them. -/
def U8T (w : World) : Prop := 0 < w.heap.size ∧ 1 < w.heap.size ∧ Lib.Utf8Tabs 0 1 w
theorem U8T.later {w w' : World} (h : U8T w) (hb : Below w.heap.size w w') : U8T w' :=
  ⟨Nat.lt_of_lt_of_le h.1 hb.size, Nat.lt_of_lt_of_le h.2.1 hb.size,
    fun c hc => (hb.cell (p := ⟨_, c, none⟩) h.1).trans (h.2.2.1 c hc),
    fun i hi => ⟨(hb.cell (p := ⟨_, 2 * i, none⟩) h.2.1).trans (h.2.2.2 i hi).1, (hb.cell (p := ⟨_, 2 * i + 1, none⟩) h.2.1).trans (h.2.2.2 i hi).2⟩⟩
theorem valid_any (s : ByteArray) (w : World) (hs : s.size ≤ 9223372036854775807) (hT : U8T w) :
    Calls Tryd.prog 50 #[.string s] w (Ans w (.bool (utf8L s.data.toList))) := by
  have h := Any.utf8_ValidString laysValid s w hs hT.2.2
  rw [valid_utf8] at h
  exact h
set_option maxHeartbeats 1000000 in
theorem utf8_any (s : ByteArray) (w : World) (hs : s.size ≤ 9223372036854775807) (hT : U8T w) :
    Calls Tryd.prog 23 #[.string s] w (Ans w (.bool (utf8L s.data.toList))) := by
  have HT := Lib.hid hT
  clear hT
  go_enter Tryd.func23, Tryd.ntmps23
  go_wp2_with (refine (valid_any s _ hs HT.out).mono ?_; rintro e w' ⟨rfl, hb⟩; have HB := Lib.hid hb; clear hb)
  go_ret
  exact ⟨rfl, HB.out⟩
end Go.Proofs.YtgehepiphdphjaaDoor
