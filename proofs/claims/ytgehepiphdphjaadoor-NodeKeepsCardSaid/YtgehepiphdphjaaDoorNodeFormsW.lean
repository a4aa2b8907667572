/- The statement NodeForms of layer 4, walked. -/
import Derived.Test.YtgehepiphdphjaaDoorNodePartsW
import Derived.Test.YtgehepiphdphjaaDoorNodeRMoved
namespace Go.Proofs.YtgehepiphdphjaaDoor
open Go Go.RowKit
set_option linter.unusedVariables false
set_option linter.unusedSimpArgs false

theorem okN.kind9 {l : List Nd} {i : Nat} {n : Nd} (h : okN l i n) : n.kind ≤ 9 := by
  obtain ⟨_, h⟩ := h; omega
theorem IsD.rsame {a b : List Nd} {u v : Value} {w : World} (h : IsD a u w) (k : IsD b v w) (h1 : a.length ≤ 1073741824) (h2 : b.length ≤ 1073741824) : Calls Tryd.prog 35 #[u, v] w (Ans w (.bool (decide (a = b)))) := by
  obtain ⟨A, c, _, rfl, hr⟩ := h
  obtain ⟨B, d, _, rfl, hs⟩ := k
  exact refnsame_any a b A B c d w hr hs h1 h2
structure NfS (w0 : World) (A B : Option Addr) (a b : List Nd) (c1 c2 : Nat) (w : World) : Prop where
  s : RsS w0 A B a b c1 c2 w
  u8 : U8T w
theorem NfS.later {w0 w w' : World} {A B : Option Addr} {a b : List Nd} {c1 c2 : Nat} (h : NfS w0 A B a b c1 c2 w) (hb : Below w.heap.size w w') : NfS w0 A B a b c1 c2 w' := ⟨h.s.later hb, h.u8.later hb⟩
end Go.Proofs.YtgehepiphdphjaaDoor
