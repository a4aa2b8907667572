/- Valid UTF-8: the library's call, and lex.Utf8. -/
import Derived.Test.YtcgjmnhmhiddkaaGreatDoorM04
import Derived.Shelf.Unicode.ValidAny
namespace Go.Proofs.YtcgjmnhmhiddkaaGreatDoor
open Go Go.RowKit
set_option linter.unusedVariables false
set_option maxRecDepth 100000

def laysValid_ren : Go.Shelf.Ren := ⟨fun | 196 => 101 | 259 => 124 | n => n, fun | 0 => 0 | 3 => 3 | 4 => 4 | 5 => 5 | 9 => 9 | 12 => 12 | 46 => 186 | 53 => 40 | 119 => 182 | 138 => 184 | 139 => 185 | n => n, fun | 3 => 0 | 4 => 1 | n => n⟩
theorem laysValid : Lays.n196 Tryz.prog laysValid_ren := {
  mixed := by kernel_rfl,
  f196 := Tryz.func101.trans (congrArg some (by kernel_rfl)),
  f259 := Tryz.func124.trans (congrArg some (by kernel_rfl)),
  t0 := Tryz.underlying0,
  a0 := Tryz.isAgg0,
  z0 := Tryz.sizeOf0,
  v0 := Tryz.zeroValue0,
  t3 := Tryz.underlying3,
  a3 := Tryz.isAgg3,
  z3 := Tryz.sizeOf3,
  v3 := Tryz.zeroValue3,
  t4 := Tryz.underlying4,
  a4 := Tryz.isAgg4,
  z4 := Tryz.sizeOf4,
  v4 := Tryz.zeroValue4,
  t5 := Tryz.underlying5,
  a5 := Tryz.isAgg5,
  z5 := Tryz.sizeOf5,
  v5 := Tryz.zeroValue5,
  t9 := Tryz.underlying9,
  a9 := Tryz.isAgg9,
  z9 := Tryz.sizeOf9,
  v9 := Tryz.zeroValue9,
  t12 := Tryz.underlying12,
  a12 := Tryz.isAgg12,
  z12 := Tryz.sizeOf12,
  v12 := Tryz.zeroValue12,
  t46 := Tryz.underlying186,
  a46 := Tryz.isAgg186,
  z46 := Tryz.sizeOf186,
  v46 := Tryz.zeroValue186,
  t53 := Tryz.underlying40,
  a53 := Tryz.isAgg40,
  z53 := Tryz.sizeOf40,
  v53 := Tryz.zeroValue40,
  t119 := Tryz.underlying182,
  a119 := Tryz.isAgg182,
  z119 := Tryz.sizeOf182,
  t138 := Tryz.underlying184,
  a138 := Tryz.isAgg184,
  z138 := Tryz.sizeOf184,
  v138 := Tryz.zeroValue184,
  t139 := Tryz.underlying185,
  a139 := Tryz.isAgg185,
  z139 := Tryz.sizeOf185,
  v139 := Tryz.zeroValue185,
  g3 := by kernel_rfl,
  g4 := by kernel_rfl }
/-- The tables of unicode/utf8 stand where the program lays them. -/
def U8T (w : World) : Prop := 0 < w.heap.size ∧ 1 < w.heap.size ∧ Lib.Utf8Tabs 0 1 w
theorem U8T.later {w w' : World} (h : U8T w) (hb : Below w.heap.size w w') : U8T w' :=
  ⟨Nat.lt_of_lt_of_le h.1 hb.size, Nat.lt_of_lt_of_le h.2.1 hb.size,
    fun c hc => (hb.cell (p := ⟨_, c, none⟩) h.1).trans (h.2.2.1 c hc),
    fun i hi => ⟨(hb.cell (p := ⟨_, 2 * i, none⟩) h.2.1).trans (h.2.2.2 i hi).1, (hb.cell (p := ⟨_, 2 * i + 1, none⟩) h.2.1).trans (h.2.2.2 i hi).2⟩⟩
theorem valid_any (s : ByteArray) (w : World) (hs : s.size ≤ 9223372036854775807) (hT : U8T w) :
    Calls Tryz.prog 101 #[.string s] w (Ans w (.bool (utf8L s.data.toList))) := by
  have h := Any.utf8_ValidString laysValid s w hs hT.2.2
  rw [valid_utf8] at h
  exact h
set_option maxHeartbeats 1000000 in
theorem utf8_any (s : ByteArray) (w : World) (hs : s.size ≤ 9223372036854775807) (hT : U8T w) :
    Calls Tryz.prog 66 #[.string s] w (Ans w (.bool (utf8L s.data.toList))) := by
  have HT := Lib.hid hT
  clear hT
  go_enter Tryz.func66, Tryz.ntmps66
  go_wp2_with (refine (valid_any s _ hs HT.out).mono ?_; rintro e w' ⟨rfl, hb⟩; have HB := Lib.hid hb; clear hb)
  go_ret
  exact ⟨rfl, HB.out⟩
end Go.Proofs.YtcgjmnhmhiddkaaGreatDoor
/- Nodes of descriptions: the plain mathematics. -/
namespace Go.Proofs.YtcgjmnhmhiddkaaGreatDoor
open Go
set_option linter.unusedVariables false

/-- A node. -/
structure Nd where
  kind : Int
  a : Int := 0
  b : Int := 0
  lo : Int := 0
  hi : Int := 0
  cls : BitVec 256 := 0#256
  text : List UInt8 := []
deriving DecidableEq
def nd0 : Nd := { kind := 0 }
def atN (l : List Nd) (i : Nat) : Nd := l.getD i nd0
/-- The node with its kind's fields alone. -/
def backN (n : Nd) : Nd :=
  if n.kind = 1 then { kind := 1 }
  else if n.kind = 2 then { kind := 2, cls := n.cls }
  else if n.kind = 3 then { kind := 3, text := n.text }
  else if n.kind = 6 ∨ n.kind = 8 ∨ n.kind = 9 then { kind := n.kind, a := n.a }
  else if n.kind = 7 then { kind := 7, a := n.a, lo := n.lo, hi := n.hi }
  else if n.kind = 4 ∨ n.kind = 5 then { kind := n.kind, a := n.a, b := n.b }
  else nd0
/-- May it be a node's text? -/
def textOk (t : List UInt8) : Bool := decide (t ≠ []) && utf8L t && decide ((34 : UInt8) ∉ t)
/-- Has the kind a part? -/
def partK (k : Int) : Prop := 4 ≤ k ∧ k ≤ 9
instance (k : Int) : Decidable (partK k) := by unfold partK; infer_instance
/-- The first one of a node's. -/
def firstP (l : List Nd) (i : Nat) : Nat :=
  if h : partK (atN l i).kind ∧ 0 ≤ (atN l i).a ∧ (atN l i).a < (i : Int) then firstP l (atN l i).a.toNat else i
termination_by i
decreasing_by omega
theorem firstP_le (l : List Nd) (i : Nat) : firstP l i ≤ i := by
  induction i using Nat.strongRecOn with
  | ind i ih =>
    rw [firstP]
    split
    · rename_i h
      have := ih (atN l i).a.toNat (by omega)
      omega
    · exact Nat.le_refl _
theorem firstP_go {l : List Nd} {i : Nat} (h : partK (atN l i).kind) (h0 : 0 ≤ (atN l i).a) (h1 : (atN l i).a < (i : Int)) : firstP l i = firstP l (atN l i).a.toNat := by
  rw [firstP, dif_pos ⟨h, h0, h1⟩]
theorem firstP_stop {l : List Nd} {i : Nat} (h : ¬ (partK (atN l i).kind ∧ 0 ≤ (atN l i).a ∧ (atN l i).a < (i : Int))) : firstP l i = i := by
  rw [firstP, dif_neg h]
/-- Is the node as it must be, where all ahead of it are? -/
def okN (l : List Nd) (i : Nat) (n : Nd) : Prop :=
  backN n = n ∧
  (n.kind = 1 ∨ n.kind = 2 ∨ (n.kind = 3 ∧ textOk n.text = true) ∨
  ((n.kind = 6 ∨ n.kind = 8 ∨ n.kind = 9) ∧ 0 ≤ n.a ∧ n.a = (i : Int) - 1) ∨
  (n.kind = 7 ∧ (0 ≤ n.a ∧ n.a = (i : Int) - 1) ∧ 0 ≤ n.lo ∧ n.lo ≤ n.hi ∧ n.hi ≤ 255) ∨
  ((n.kind = 4 ∨ n.kind = 5) ∧ (0 ≤ n.b ∧ n.b = (i : Int) - 1) ∧ 0 ≤ n.a ∧ n.a = (firstP l n.b.toNat : Int) - 1))
instance (l : List Nd) (i : Nat) (n : Nd) : Decidable (okN l i n) := by unfold okN; infer_instance
def fmd (l : List Nd) (i : Nat) : Bool := decide (okN l i (atN l i))
/-- Its form. -/
def Form (l : List Nd) : Prop := 0 < l.length ∧ (∀ i, i < l.length → okN l i (atN l i)) ∧ firstP l (l.length - 1) = 0
/-- What the nodes up to one tell. -/
theorem firstP_congr {l m : List Nd} : ∀ {i : Nat}, (∀ j, j ≤ i → atN l j = atN m j) → firstP l i = firstP m i := by
  intro i
  induction i using Nat.strongRecOn with
  | ind i ih =>
    intro h
    by_cases hc : partK (atN l i).kind ∧ 0 ≤ (atN l i).a ∧ (atN l i).a < (i : Int)
    · have hc2 := hc
      rw [h i (Nat.le_refl _)] at hc2
      rw [firstP_go hc.1 hc.2.1 hc.2.2, firstP_go hc2.1 hc2.2.1 hc2.2.2, ← h i (Nat.le_refl _)]
      exact ih _ (by omega) (fun j hj => h j (by omega))
    · have hc2 := hc
      rw [h i (Nat.le_refl _)] at hc2
      rw [firstP_stop hc, firstP_stop hc2]
theorem okN_congr {l m : List Nd} {i : Nat} (h : ∀ j, j ≤ i → atN l j = atN m j) (n : Nd) : okN l i n ↔ okN m i n := by
  unfold okN
  by_cases hb : 0 ≤ n.b ∧ n.b = (i : Int) - 1
  · rw [firstP_congr (l := l) (m := m) (i := n.b.toNat) (fun j hj => h j (by omega))]
  · simp [hb]
end Go.Proofs.YtcgjmnhmhiddkaaGreatDoor
/- Boxes of ten cells. -/
namespace Go.Proofs.YtcgjmnhmhiddkaaGreatDoor
open Go Go.RowKit
set_option linter.unusedVariables false

/-- A node's cells. -/
def ndC (n : Nd) : Array Value := #[.int .i64 n.kind, .int .i64 n.a, .int .i64 n.b, .int .i64 n.lo, .int .i64 n.hi, .int .u64 (wd n.cls 0), .int .u64 (wd n.cls 1), .int .u64 (wd n.cls 2), .int .u64 (wd n.cls 3), .string (bs n.text)]
def z10 : Array Value := #[.int .i64 0, .int .i64 0, .int .i64 0, .int .i64 0, .int .i64 0, .int .u64 0, .int .u64 0, .int .u64 0, .int .u64 0, .string ⟨#[]⟩]
theorem Blk.put10 {w : World} {b : Nat} {t : TypeId} {vs : Array Value} (h : Blk w b vs t) {o : Nat} (ho : o < vs.size) (v : Value) : (w.setCell ⟨b, o, none⟩ v).cell? ⟨b, o, none⟩ = some v := by
  rw [(h.setCell o v).cell o]; simp [ho]
section
variable {w : World} {b : Nat} {t : TypeId} {c0 c1 c2 c3 c4 c5 c6 c7 c8 c9 : Value}
/-- What is stored is read. -/
theorem ten (h : Blk w b #[c0, c1, c2, c3, c4, c5, c6, c7, c8, c9] t) :
    (∀ v0 : Value, (w.setCell ⟨b, 0, none⟩ v0).cell? ⟨b, 0, none⟩ = some v0) ∧ (∀ v0 v1 : Value, ((w.setCell ⟨b, 0, none⟩ v0).setCell ⟨b, 1, none⟩ v1).cell? ⟨b, 1, none⟩ = some v1) ∧ (∀ v0 v1 v2 : Value, (((w.setCell ⟨b, 0, none⟩ v0).setCell ⟨b, 1, none⟩ v1).setCell ⟨b, 2, none⟩ v2).cell? ⟨b, 2, none⟩ = some v2) ∧ (∀ v0 v1 v2 v3 : Value, ((((w.setCell ⟨b, 0, none⟩ v0).setCell ⟨b, 1, none⟩ v1).setCell ⟨b, 2, none⟩ v2).setCell ⟨b, 3, none⟩ v3).cell? ⟨b, 3, none⟩ = some v3) ∧ (∀ v0 v1 v2 v3 v4 : Value, (((((w.setCell ⟨b, 0, none⟩ v0).setCell ⟨b, 1, none⟩ v1).setCell ⟨b, 2, none⟩ v2).setCell ⟨b, 3, none⟩ v3).setCell ⟨b, 4, none⟩ v4).cell? ⟨b, 4, none⟩ = some v4) ∧ (∀ v0 v1 v2 v3 v4 v5 : Value, ((((((w.setCell ⟨b, 0, none⟩ v0).setCell ⟨b, 1, none⟩ v1).setCell ⟨b, 2, none⟩ v2).setCell ⟨b, 3, none⟩ v3).setCell ⟨b, 4, none⟩ v4).setCell ⟨b, 5, none⟩ v5).cell? ⟨b, 5, none⟩ = some v5) ∧ (∀ v0 v1 v2 v3 v4 v5 v6 : Value, (((((((w.setCell ⟨b, 0, none⟩ v0).setCell ⟨b, 1, none⟩ v1).setCell ⟨b, 2, none⟩ v2).setCell ⟨b, 3, none⟩ v3).setCell ⟨b, 4, none⟩ v4).setCell ⟨b, 5, none⟩ v5).setCell ⟨b, 6, none⟩ v6).cell? ⟨b, 6, none⟩ = some v6) ∧ (∀ v0 v1 v2 v3 v4 v5 v6 v7 : Value, ((((((((w.setCell ⟨b, 0, none⟩ v0).setCell ⟨b, 1, none⟩ v1).setCell ⟨b, 2, none⟩ v2).setCell ⟨b, 3, none⟩ v3).setCell ⟨b, 4, none⟩ v4).setCell ⟨b, 5, none⟩ v5).setCell ⟨b, 6, none⟩ v6).setCell ⟨b, 7, none⟩ v7).cell? ⟨b, 7, none⟩ = some v7) ∧ (∀ v0 v1 v2 v3 v4 v5 v6 v7 v8 : Value, (((((((((w.setCell ⟨b, 0, none⟩ v0).setCell ⟨b, 1, none⟩ v1).setCell ⟨b, 2, none⟩ v2).setCell ⟨b, 3, none⟩ v3).setCell ⟨b, 4, none⟩ v4).setCell ⟨b, 5, none⟩ v5).setCell ⟨b, 6, none⟩ v6).setCell ⟨b, 7, none⟩ v7).setCell ⟨b, 8, none⟩ v8).cell? ⟨b, 8, none⟩ = some v8) ∧ (∀ v0 v1 v2 v3 v4 v5 v6 v7 v8 v9 : Value, ((((((((((w.setCell ⟨b, 0, none⟩ v0).setCell ⟨b, 1, none⟩ v1).setCell ⟨b, 2, none⟩ v2).setCell ⟨b, 3, none⟩ v3).setCell ⟨b, 4, none⟩ v4).setCell ⟨b, 5, none⟩ v5).setCell ⟨b, 6, none⟩ v6).setCell ⟨b, 7, none⟩ v7).setCell ⟨b, 8, none⟩ v8).setCell ⟨b, 9, none⟩ v9).cell? ⟨b, 9, none⟩ = some v9) :=
  ⟨fun v0 => (h).put10 (by simp) v0, fun v0 v1 => ((h).setCell 0 v0).put10 (by simp) v1, fun v0 v1 v2 => (((h).setCell 0 v0).setCell 1 v1).put10 (by simp) v2, fun v0 v1 v2 v3 => ((((h).setCell 0 v0).setCell 1 v1).setCell 2 v2).put10 (by simp) v3, fun v0 v1 v2 v3 v4 => (((((h).setCell 0 v0).setCell 1 v1).setCell 2 v2).setCell 3 v3).put10 (by simp) v4, fun v0 v1 v2 v3 v4 v5 => ((((((h).setCell 0 v0).setCell 1 v1).setCell 2 v2).setCell 3 v3).setCell 4 v4).put10 (by simp) v5, fun v0 v1 v2 v3 v4 v5 v6 => (((((((h).setCell 0 v0).setCell 1 v1).setCell 2 v2).setCell 3 v3).setCell 4 v4).setCell 5 v5).put10 (by simp) v6, fun v0 v1 v2 v3 v4 v5 v6 v7 => ((((((((h).setCell 0 v0).setCell 1 v1).setCell 2 v2).setCell 3 v3).setCell 4 v4).setCell 5 v5).setCell 6 v6).put10 (by simp) v7, fun v0 v1 v2 v3 v4 v5 v6 v7 v8 => (((((((((h).setCell 0 v0).setCell 1 v1).setCell 2 v2).setCell 3 v3).setCell 4 v4).setCell 5 v5).setCell 6 v6).setCell 7 v7).put10 (by simp) v8, fun v0 v1 v2 v3 v4 v5 v6 v7 v8 v9 => ((((((((((h).setCell 0 v0).setCell 1 v1).setCell 2 v2).setCell 3 v3).setCell 4 v4).setCell 5 v5).setCell 6 v6).setCell 7 v7).setCell 8 v8).put10 (by simp) v9⟩
theorem ten_cells (h : Blk w b #[c0, c1, c2, c3, c4, c5, c6, c7, c8, c9] t) :
    w.cell? ⟨b, 0, none⟩ = some c0 ∧ w.cell? ⟨b, 1, none⟩ = some c1 ∧ w.cell? ⟨b, 2, none⟩ = some c2 ∧ w.cell? ⟨b, 3, none⟩ = some c3 ∧ w.cell? ⟨b, 4, none⟩ = some c4 ∧ w.cell? ⟨b, 5, none⟩ = some c5 ∧ w.cell? ⟨b, 6, none⟩ = some c6 ∧ w.cell? ⟨b, 7, none⟩ = some c7 ∧ w.cell? ⟨b, 8, none⟩ = some c8 ∧ w.cell? ⟨b, 9, none⟩ = some c9 :=
  ⟨h.cell 0, h.cell 1, h.cell 2, h.cell 3, h.cell 4, h.cell 5, h.cell 6, h.cell 7, h.cell 8, h.cell 9⟩
end
theorem below10 {B : Nat} {a w : World} (h : Below B a w) {b : Nat} (hb : B ≤ b) (v0 v1 v2 v3 v4 v5 v6 v7 v8 v9 : Value) : Below B a ((((((((((w.setCell ⟨b, 0, none⟩ v0).setCell ⟨b, 1, none⟩ v1).setCell ⟨b, 2, none⟩ v2).setCell ⟨b, 3, none⟩ v3).setCell ⟨b, 4, none⟩ v4).setCell ⟨b, 5, none⟩ v5).setCell ⟨b, 6, none⟩ v6).setCell ⟨b, 7, none⟩ v7).setCell ⟨b, 8, none⟩ v8).setCell ⟨b, 9, none⟩ v9) := ((((((((((h).setCell (p := ⟨b, 0, none⟩) hb v0).setCell (p := ⟨b, 1, none⟩) hb v1).setCell (p := ⟨b, 2, none⟩) hb v2).setCell (p := ⟨b, 3, none⟩) hb v3).setCell (p := ⟨b, 4, none⟩) hb v4).setCell (p := ⟨b, 5, none⟩) hb v5).setCell (p := ⟨b, 6, none⟩) hb v6).setCell (p := ⟨b, 7, none⟩) hb v7).setCell (p := ⟨b, 8, none⟩) hb v8).setCell (p := ⟨b, 9, none⟩) hb v9
/-- A box for a node that was just made. -/
structure Box10 (w : World) (w' : World) : Prop where
  bel : Below w.heap.size w w'
  blk : Blk w' w.heap.size z10 44
theorem Box10.new (w : World) : Box10 w (w.alloc (.cells #[.int .i64 0, .int .i64 0, .int .i64 0, .int .i64 0, .int .i64 0, .int .u64 0, .int .u64 0, .int .u64 0, .int .u64 0, .string ⟨#[]⟩] 44)) := ⟨(Below.refl _ _).alloc (Nat.le_refl _) _, Blk.new _ _ _⟩
theorem Box10.later {w w1 w2 : World} (h : Box10 w w1) (hb : Below w1.heap.size w1 w2) : Box10 w w2 := ⟨h.bel.trans (hb.mono h.bel.size), h.blk.later hb⟩
end Go.Proofs.YtcgjmnhmhiddkaaGreatDoor
/- Nodes turned to values of types of their own: walked. -/
namespace Go.Proofs.YtcgjmnhmhiddkaaGreatDoor
open Go Go.RowKit
set_option linter.unusedVariables false
set_option linter.unusedSimpArgs false

/-- The node as a value of its kind's type. -/
def anyV (k a b lo hi c0 c1 c2 c3 : Int) (s : ByteArray) : Value :=
  if k = 1 then .iface 122 (.agg #[])
  else if k = 2 then .iface 124 (.agg #[.int .u64 c0, .int .u64 c1, .int .u64 c2, .int .u64 c3])
  else if k = 3 then .iface 126 (.agg #[.string s])
  else if k = 6 ∨ k = 8 ∨ k = 9 then .iface 128 (.agg #[.int .i64 k, .int .i64 a])
  else if k = 7 then .iface 131 (.agg #[.int .i64 a, .int .i64 lo, .int .i64 hi])
  else if k = 4 ∨ k = 5 then .iface 133 (.agg #[.int .i64 k, .int .i64 a, .int .i64 b])
  else .nilIface
set_option maxHeartbeats 4000000 in
set_option maxRecDepth 100000 in
theorem turned_raw (k a b lo hi c0 c1 c2 c3 : Int) (s : ByteArray) (w : World) :
    Calls Tryz.prog 64 #[.agg #[.int .i64 k, .int .i64 a, .int .i64 b, .int .i64 lo, .int .i64 hi, .int .u64 c0, .int .u64 c1, .int .u64 c2, .int .u64 c3, .string s]] w (Ans w (anyV k a b lo hi c0 c1 c2 c3 s)) := by
  obtain ⟨V, hV⟩ : ∃ V, V = anyV k a b lo hi c0 c1 c2 c3 s := ⟨_, rfl⟩
  rw [← hV]
  unfold anyV at hV
  by_cases h1 : k = 1
  · subst h1
    rw [if_pos rfl] at hV
    subst hV
    go_enter Tryz.func64, Tryz.ntmps64
    go_wp2
    go_ret
    exact ⟨rfl, (Below.refl _ _).alloc (Nat.le_refl _) _⟩
  by_cases h2 : k = 2
  · subst h2
    rw [if_neg (by decide), if_pos rfl] at hV
    subst hV
    go_enter Tryz.func64, Tryz.ntmps64
    go_wp2
    go_ret
    exact ⟨rfl, (Below.refl _ _).alloc (Nat.le_refl _) _⟩
  by_cases h3 : k = 3
  · subst h3
    rw [if_neg (by decide), if_neg (by decide), if_pos rfl] at hV
    subst hV
    go_enter Tryz.func64, Tryz.ntmps64
    go_wp2
    go_ret
    exact ⟨rfl, (Below.refl _ _).alloc (Nat.le_refl _) _⟩
  rw [if_neg h1, if_neg h2, if_neg h3] at hV
  by_cases h6 : k = 6 ∨ k = 8 ∨ k = 9
  · rw [if_pos h6] at hV
    subst hV
    rcases h6 with rfl | rfl | rfl
    all_goals
      clear h1 h2 h3
      go_enter Tryz.func64, Tryz.ntmps64
      go_wp2
      go_ret
      exact ⟨rfl, (Below.refl _ _).alloc (Nat.le_refl _) _⟩
  rw [if_neg h6] at hV
  by_cases h7 : k = 7
  · rw [if_pos h7] at hV
    subst hV
    subst h7
    clear h1 h2 h3 h6
    go_enter Tryz.func64, Tryz.ntmps64
    go_wp2
    go_ret
    exact ⟨rfl, (Below.refl _ _).alloc (Nat.le_refl _) _⟩
  rw [if_neg h7] at hV
  by_cases h4 : k = 4 ∨ k = 5
  · rw [if_pos h4] at hV
    subst hV
    rcases h4 with rfl | rfl
    all_goals
      clear h1 h2 h3 h6 h7
      go_enter Tryz.func64, Tryz.ntmps64
      go_wp2
      go_ret
      exact ⟨rfl, (Below.refl _ _).alloc (Nat.le_refl _) _⟩
  rw [if_neg h4] at hV
  subst hV
  have g1 : (k == 1) = false := by rw [beq_eq_false_iff_ne]; omega
  have g2 : (k == 2) = false := by rw [beq_eq_false_iff_ne]; omega
  have g3 : (k == 3) = false := by rw [beq_eq_false_iff_ne]; omega
  have g4 : (k == 4) = false := by rw [beq_eq_false_iff_ne]; omega
  have g5 : (k == 5) = false := by rw [beq_eq_false_iff_ne]; omega
  have g6 : (k == 6) = false := by rw [beq_eq_false_iff_ne]; omega
  have g7 : (k == 7) = false := by rw [beq_eq_false_iff_ne]; omega
  have g8 : (k == 8) = false := by rw [beq_eq_false_iff_ne]; omega
  have g9 : (k == 9) = false := by rw [beq_eq_false_iff_ne]; omega
  clear h1 h2 h3 h6 h7 h4
  go_enter Tryz.func64, Tryz.ntmps64
  go_wp2
  go_ret
  exact ⟨rfl, (Below.refl _ _).alloc (Nat.le_refl _) _⟩
end Go.Proofs.YtcgjmnhmhiddkaaGreatDoor
