/- The statement LexSpaces of layer 3, walked. -/
import Derived.Test.YtgehepiphdphjaaDoorLexWholeW
import Derived.Test.YtgehepiphdphjaaDoorLexMoreM
namespace Go.Proofs.YtgehepiphdphjaaDoor
open Go Go.RowKit
set_option linter.unusedVariables false
set_option linter.unusedSimpArgs false

structure SpS (w0 : World) (A : Option Addr) (r : List Tok) (w : World) : Prop where
  bel : Below w0.heap.size w0 w
  u8 : U8T w
  row : TRow w A r
theorem SpS.later {w0 w w' : World} {A : Option Addr} {r : List Tok} (h : SpS w0 A r w) (hb : Below w.heap.size w w') : SpS w0 A r w' := ⟨h.bel.trans (hb.mono h.bel.size), h.u8.later hb, h.row.later hb⟩
def GapL (w0 : World) (A : Option Addr) (r : List Tok) (g : Nat) (s i : Value) (w : World) : Prop := ∃ j : Nat, j ≤ g ∧ s = .string (bs (List.replicate j 32)) ∧ i = .int .i64 (j : Int) ∧ SpS w0 A r w
/-- What a reading yields. -/
def RdV (n : Nat) (r : List Tok) (v : Value) (w : World) : Prop := ∃ A c, v = .tuple #[.slice A n c, .int .i64 0, .int .i64 0] ∧ TRow w A r
theorem RdV.later (n : Nat) (r : List Tok) (v : Value) (w w' : World) (h : RdV n r v w) (hb : Below w.heap.size w w') : RdV n r v w' := by
  obtain ⟨A, c, h1, h2⟩ := h
  exact ⟨A, c, h1, h2.later hb⟩
def RdR (n : Nat) (r : List Tok) (v : Value) (w : World) : Prop := ∃ A c, v = .slice A n c ∧ TRow w A r
theorem RdR.later (n : Nat) (r : List Tok) (v : Value) (w w' : World) (h : RdR n r v w) (hb : Below w.heap.size w w') : RdR n r v w' := by
  obtain ⟨A, c, h1, h2⟩ := h
  exact ⟨A, c, h1, h2.later hb⟩
structure SqS (w0 : World) (b1 o1 b2 o2 : Nat) (r1 r2 : List Tok) (w : World) : Prop where
  bel : Below w0.heap.size w0 w
  x : TRow w (some ⟨b1, o1, none⟩) r1
  y : TRow w (some ⟨b2, o2, none⟩) r2
theorem SqS.later {w0 w w' : World} {b1 o1 b2 o2 : Nat} {r1 r2 : List Tok} (h : SqS w0 b1 o1 b2 o2 r1 r2 w) (hb : Below w.heap.size w w') : SqS w0 b1 o1 b2 o2 r1 r2 w' := ⟨h.bel.trans (hb.mono h.bel.size), h.x.later hb, h.y.later hb⟩
def SqL (w0 : World) (b1 o1 b2 o2 : Nat) (r1 r2 : List Tok) (n : Nat) (i : Value) (w : World) : Prop := ∃ k : Nat, k ≤ n ∧ i = .int .i64 (k : Int) ∧ SqS w0 b1 o1 b2 o2 r1 r2 w
theorem trow_below {w w' : World} {b o B : Nat} {l : List Tok} (h : TRow w (some ⟨b, o, none⟩) l) (hlt : b < B) (hb : Below B w w') : TRow w' (some ⟨b, o, none⟩) l := fun i hi => by
  obtain ⟨b', o', h1, h2, hc⟩ := h i hi
  cases h1
  exact ⟨b, o, rfl, Nat.lt_of_lt_of_le h2 hb.size, fun j hj => (hb.cell (p := ⟨b, o + i * 9 + j, none⟩) hlt).trans (hc j hj)⟩
structure SrS (w0 : World) (b1 o1 b2 o2 : Nat) (r1 r2 : List Tok) (bx : Nat) (t : Tok) (w : World) : Prop where
  s : SqS w0 b1 o1 b2 o2 r1 r2 w
  x : Blk w bx (tokC t) 71
theorem SrS.later {w0 w w' : World} {b1 o1 b2 o2 bx : Nat} {r1 r2 : List Tok} {t : Tok} (h : SrS w0 b1 o1 b2 o2 r1 r2 bx t w) (hb : Below w.heap.size w w') : SrS w0 b1 o1 b2 o2 r1 r2 bx t w' := ⟨h.s.later hb, h.x.later hb⟩
end Go.Proofs.YtgehepiphdphjaaDoor
