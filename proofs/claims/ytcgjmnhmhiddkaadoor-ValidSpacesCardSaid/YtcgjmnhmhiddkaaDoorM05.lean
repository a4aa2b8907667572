/- Valid UTF-8: the library's call, and lex.Utf8. -/
import Derived.Test.YtcgjmnhmhiddkaaDoorM04
import Derived.Test.YtcgjmnhmhiddkaaDoorM03
import Derived.Shelf.Unicode.ValidAny
import Derived.Lib.LaidIn
import Derived.Lib.LaidU8T
import Derived.ChangeMaps5
namespace Go.Proofs.YtcgjmnhmhiddkaaDoor
open Go Go.RowKit
set_option linter.unusedVariables false
set_option maxRecDepth 100000

def laysValid_ren : Go.Shelf.Ren := ⟨fun | 196 => 55 | 259 => 64 | n => n, fun | 0 => 0 | 3 => 3 | 4 => 4 | 5 => 5 | 9 => 9 | 12 => 12 | 46 => 112 | 53 => 31 | 119 => 108 | 138 => 110 | 139 => 111 | n => n, fun | 3 => 0 | 4 => 1 | n => n⟩
theorem laysValid : Lays.n196 Tryd.prog laysValid_ren := {
  mixed := by kernel_rfl,
  f196 := Tryd.func55.trans (congrArg some (by kernel_rfl)),
  f259 := Tryd.func64.trans (congrArg some (by kernel_rfl)),
  t0 := Tryd.underlying0,
  a0 := Tryd.isAgg0,
  z0 := Tryd.sizeOf0,
  v0 := Tryd.zeroValue0,
  t3 := Tryd.underlying3,
  a3 := Tryd.isAgg3,
  z3 := Tryd.sizeOf3,
  v3 := Tryd.zeroValue3,
  t4 := Tryd.underlying4,
  a4 := Tryd.isAgg4,
  z4 := Tryd.sizeOf4,
  v4 := Tryd.zeroValue4,
  t5 := Tryd.underlying5,
  a5 := Tryd.isAgg5,
  z5 := Tryd.sizeOf5,
  v5 := Tryd.zeroValue5,
  t9 := Tryd.underlying9,
  a9 := Tryd.isAgg9,
  z9 := Tryd.sizeOf9,
  v9 := Tryd.zeroValue9,
  t12 := Tryd.underlying12,
  a12 := Tryd.isAgg12,
  z12 := Tryd.sizeOf12,
  v12 := Tryd.zeroValue12,
  t46 := Tryd.underlying112,
  a46 := Tryd.isAgg112,
  z46 := Tryd.sizeOf112,
  v46 := Tryd.zeroValue112,
  t53 := Tryd.underlying31,
  a53 := Tryd.isAgg31,
  z53 := Tryd.sizeOf31,
  v53 := Tryd.zeroValue31,
  t119 := Tryd.underlying108,
  a119 := Tryd.isAgg108,
  z119 := Tryd.sizeOf108,
  t138 := Tryd.underlying110,
  a138 := Tryd.isAgg110,
  z138 := Tryd.sizeOf110,
  v138 := Tryd.zeroValue110,
  t139 := Tryd.underlying111,
  a139 := Tryd.isAgg111,
  z139 := Tryd.sizeOf111,
  v139 := Tryd.zeroValue111,
  g3 := by kernel_rfl,
  g4 := by kernel_rfl }
/-- The tables of unicode/utf8 stand where the program lays them. -/
def U8T (w : World) : Prop := 0 < w.heap.size ∧ 1 < w.heap.size ∧ Lib.Utf8Tabs 0 1 w
theorem U8T.later {w w' : World} (h : U8T w) (hb : Below w.heap.size w w') : U8T w' :=
  ⟨Nat.lt_of_lt_of_le h.1 hb.size, Nat.lt_of_lt_of_le h.2.1 hb.size,
    fun c hc => (hb.cell (p := ⟨_, c, none⟩) h.1).trans (h.2.2.1 c hc),
    fun i hi => ⟨(hb.cell (p := ⟨_, 2 * i, none⟩) h.2.1).trans (h.2.2.2 i hi).1, (hb.cell (p := ⟨_, 2 * i + 1, none⟩) h.2.1).trans (h.2.2.2 i hi).2⟩⟩
theorem valid_any (s : ByteArray) (w : World) (hs : s.size ≤ 9223372036854775807) (hT : U8T w) :
    Calls Tryd.prog 55 #[.string s] w (Ans w (.bool (utf8L s.data.toList))) := by
  have h := Any.utf8_ValidString laysValid s w hs hT.2.2
  rw [valid_utf8] at h
  exact h
set_option maxHeartbeats 1000000 in
theorem utf8_any (s : ByteArray) (w : World) (hs : s.size ≤ 9223372036854775807) (hT : U8T w) :
    Calls Tryd.prog 36 #[.string s] w (Ans w (.bool (utf8L s.data.toList))) := by
  have HT := Lib.hid hT
  clear hT
  go_enter Tryd.func36, Tryd.ntmps36
  go_wp2_with (refine (valid_any s _ hs HT.out).mono ?_; rintro e w' ⟨rfl, hb⟩; have HB := Lib.hid hb; clear hb)
  go_ret
  exact ⟨rfl, HB.out⟩
end Go.Proofs.YtcgjmnhmhiddkaaDoor
/- What a proof over texts needs around its walk: texts and numbers opened as arguments, the tables of unicode/utf8 out of the listed variables, a world for the witness. -/
namespace Go.Proofs.YtcgjmnhmhiddkaaDoor
open Go Go.RowKit Go.ChangeShapes Go.WideShapes Go.ChangeAt Go.Joins
set_option maxRecDepth 100000

section
variable {H : Type} {enc : TypeId × Value → H} {W : World} {base : Nat} {v : Value} {d : DataW H} {p : List MemPlace}
theorem open_str (hv : Value.okWide Tryd.prog W .any base 9 v) (h : DataW.Trod enc Tryd.prog W 0 (fun _ => true) true 9 v d p) : ∃ l : List UInt8, v = .string (bs l) ∧ l.length ≤ 9223372036854775807 := by
  obtain ⟨s, rfl, _, _, ws⟩ := Go.ChangeMaps.open_string Tryd.underlying9 hv h
  refine ⟨s.data.toList, by rw [bs_self], ?_⟩
  rw [← Lib.size_eq]; unfold maxLen at ws; omega
end
theorem firstD : (Rows.laid_unicode_utf8_first : DataW Unit) = Lib.firstData := by kernel_rfl
theorem acceptD : (Rows.laid_unicode_utf8_acceptRanges : DataW Unit) = Lib.acceptData := by kernel_rfl
theorem u8_of_laid {W : World} (h : laidMetH Tryd.prog [("unicode/utf8.acceptRanges", Rows.laid_unicode_utf8_acceptRanges), ("unicode/utf8.first", Rows.laid_unicode_utf8_first)] W) : U8T W := by
  rw [firstD, acceptD] at h
  have hL : laidMet Tryd.prog [("unicode/utf8.acceptRanges", Lib.acceptData), ("unicode/utf8.first", Lib.firstData)] W := h
  have ht := utf8Tabs_of_readsT (U8Types.of196 laysValid) ⟨by kernel_rfl, by kernel_rfl, by kernel_rfl, by kernel_rfl, by kernel_rfl, by kernel_rfl, by kernel_rfl⟩ (Lib.laidMet.reads hL (.tail _ (.head _))) (Lib.laidMet.reads hL (.head _))
  have h2 : Lib.Utf8Tabs 0 1 W := ht
  exact ⟨World.block_lt_of_cell? W _ (h2.1 0 (by omega)), World.block_lt_of_cell? W _ (h2.2 0 (by omega)).1, h2⟩
/-- A world for a witness: the tables holding what their initialisers lay. -/
noncomputable def laidWorldU (os : Os) : World :=
  let w0 := World.holding Tryd.prog os ⟨#[], #[], []⟩
  let put (h : Array Obj) (g : Nat) (cs : Array Value) : Array Obj := h.modify g fun
    | .cells _ t frozen => .cells cs t frozen
    | o => o
  let h1 := put w0.heap 0 (Lib.firstTab.map fun z => Value.int .u8 z).toArray
  let h2 := put h1 1 ((List.range 16).flatMap fun i => [Value.int .u8 (Lib.accLo i), Value.int .u8 (Lib.accHi i)]).toArray
  { w0 with heap := h2 }
end Go.Proofs.YtcgjmnhmhiddkaaDoor
/- Nodes of descriptions: the plain mathematics. -/
namespace Go.Proofs.YtcgjmnhmhiddkaaDoor
open Go
set_option linter.unusedVariables false

/-- A node. -/
structure Nd where
  kind : Int
  a : Int := 0
  b : Int := 0
  lo : Int := 0
  hi : Int := 0
  cls : BitVec 256 := 0#256
  text : List UInt8 := []
deriving DecidableEq
def nd0 : Nd := { kind := 0 }
def atN (l : List Nd) (i : Nat) : Nd := l.getD i nd0
/-- The node with its kind's fields alone. -/
def backN (n : Nd) : Nd :=
  if n.kind = 1 then { kind := 1 }
  else if n.kind = 2 then { kind := 2, cls := n.cls }
  else if n.kind = 3 then { kind := 3, text := n.text }
  else if n.kind = 6 ∨ n.kind = 8 ∨ n.kind = 9 then { kind := n.kind, a := n.a }
  else if n.kind = 7 then { kind := 7, a := n.a, lo := n.lo, hi := n.hi }
  else if n.kind = 4 ∨ n.kind = 5 then { kind := n.kind, a := n.a, b := n.b }
  else nd0
/-- May it be a node's text? -/
def textOk (t : List UInt8) : Bool := decide (t ≠ []) && utf8L t && decide ((34 : UInt8) ∉ t)
/-- Has the kind a part? -/
def partK (k : Int) : Prop := 4 ≤ k ∧ k ≤ 9
instance (k : Int) : Decidable (partK k) := by unfold partK; infer_instance
/-- The first one of a node's. -/
def firstP (l : List Nd) (i : Nat) : Nat :=
  if h : partK (atN l i).kind ∧ 0 ≤ (atN l i).a ∧ (atN l i).a < (i : Int) then firstP l (atN l i).a.toNat else i
termination_by i
decreasing_by omega
theorem firstP_le (l : List Nd) (i : Nat) : firstP l i ≤ i := by
  induction i using Nat.strongRecOn with
  | ind i ih =>
    rw [firstP]
    split
    · rename_i h
      have := ih (atN l i).a.toNat (by omega)
      omega
    · exact Nat.le_refl _
theorem firstP_go {l : List Nd} {i : Nat} (h : partK (atN l i).kind) (h0 : 0 ≤ (atN l i).a) (h1 : (atN l i).a < (i : Int)) : firstP l i = firstP l (atN l i).a.toNat := by
  rw [firstP, dif_pos ⟨h, h0, h1⟩]
theorem firstP_stop {l : List Nd} {i : Nat} (h : ¬ (partK (atN l i).kind ∧ 0 ≤ (atN l i).a ∧ (atN l i).a < (i : Int))) : firstP l i = i := by
  rw [firstP, dif_neg h]
/-- Is the node as it must be, where all ahead of it are? -/
def okN (l : List Nd) (i : Nat) (n : Nd) : Prop :=
  backN n = n ∧
  (n.kind = 1 ∨ n.kind = 2 ∨ (n.kind = 3 ∧ textOk n.text = true) ∨
  ((n.kind = 6 ∨ n.kind = 8 ∨ n.kind = 9) ∧ 0 ≤ n.a ∧ n.a = (i : Int) - 1) ∨
  (n.kind = 7 ∧ (0 ≤ n.a ∧ n.a = (i : Int) - 1) ∧ 0 ≤ n.lo ∧ n.lo ≤ n.hi ∧ n.hi ≤ 255) ∨
  ((n.kind = 4 ∨ n.kind = 5) ∧ (0 ≤ n.b ∧ n.b = (i : Int) - 1) ∧ 0 ≤ n.a ∧ n.a = (firstP l n.b.toNat : Int) - 1))
instance (l : List Nd) (i : Nat) (n : Nd) : Decidable (okN l i n) := by unfold okN; infer_instance
/-- Its form. -/
def Form (l : List Nd) : Prop := 0 < l.length ∧ (∀ i, i < l.length → okN l i (atN l i)) ∧ firstP l (l.length - 1) = 0
/-- What the nodes up to one tell. -/
theorem firstP_congr {l m : List Nd} : ∀ {i : Nat}, (∀ j, j ≤ i → atN l j = atN m j) → firstP l i = firstP m i := by
  intro i
  induction i using Nat.strongRecOn with
  | ind i ih =>
    intro h
    by_cases hc : partK (atN l i).kind ∧ 0 ≤ (atN l i).a ∧ (atN l i).a < (i : Int)
    · have hc2 := hc
      rw [h i (Nat.le_refl _)] at hc2
      rw [firstP_go hc.1 hc.2.1 hc.2.2, firstP_go hc2.1 hc2.2.1 hc2.2.2, ← h i (Nat.le_refl _)]
      exact ih _ (by omega) (fun j hj => h j (by omega))
    · have hc2 := hc
      rw [h i (Nat.le_refl _)] at hc2
      rw [firstP_stop hc, firstP_stop hc2]
theorem okN_congr {l m : List Nd} {i : Nat} (h : ∀ j, j ≤ i → atN l j = atN m j) (n : Nd) : okN l i n ↔ okN m i n := by
  unfold okN
  by_cases hb : 0 ≤ n.b ∧ n.b = (i : Int) - 1
  · rw [firstP_congr (l := l) (m := m) (i := n.b.toNat) (fun j hj => h j (by omega))]
  · simp [hb]
end Go.Proofs.YtcgjmnhmhiddkaaDoor
/- Nodes of descriptions, built and taken apart: the plain mathematics. -/
namespace Go.Proofs.YtcgjmnhmhiddkaaDoor
open Go
set_option linter.unusedVariables false

/-- The node, its parts' numbers more. -/
def mvN (by_ : Int) (n : Nd) : Nd :=
  if 6 ≤ n.kind ∧ n.kind ≤ 9 then { n with a := n.a + by_ }
  else if n.kind = 4 ∨ n.kind = 5 then { n with a := n.a + by_, b := n.b + by_ }
  else n
theorem mvN_zero (n : Nd) : mvN 0 n = n := by
  unfold mvN; split
  · simp
  · split <;> simp
def leafK (k : Int) : Prop := k = 1 ∨ k = 2 ∨ k = 3
def seg (l : List Nd) (f k : Nat) : List Nd := (l.drop f).take k
theorem seg_length {l : List Nd} {f k : Nat} (h : f + k ≤ l.length) : (seg l f k).length = k := by
  unfold seg; rw [List.length_take, List.length_drop]; omega
theorem seg_at {l : List Nd} {f k j : Nat} (h : j < k) : atN (seg l f k) j = atN l (f + j) := by
  unfold seg atN
  rw [List.getD_eq_getElem?_getD, List.getD_eq_getElem?_getD, List.getElem?_take, if_pos h, List.getElem?_drop]
def wrapL (kind lo hi : Int) (l : List Nd) : List Nd := l ++ [{ kind := kind, a := (l.length : Int) - 1, lo := lo, hi := hi }]
inductive Cs (l : List Nd) (i : Nat) (n : Nd) : Prop where
  | leaf (hk : leafK n.kind) (hf : firstP l i = i)
  | one (hk : 6 ≤ n.kind ∧ n.kind ≤ 9) (hi : 0 < i) (ha : n.a = (i : Int) - 1) (hb : n.b = 0) (hl : n.kind ≠ 7 → n.lo = 0 ∧ n.hi = 0) (hr : n.kind = 7 → 0 ≤ n.lo ∧ n.lo ≤ n.hi ∧ n.hi ≤ 255) (hc : n.cls = 0#256 ∧ n.text = []) (hf : firstP l i = firstP l (i - 1))
  | two (hk : n.kind = 4 ∨ n.kind = 5) (hi : 0 < i) (hb : n.b = (i : Int) - 1) (ha : n.a = (firstP l (i - 1) : Int) - 1) (hf0 : 0 < firstP l (i - 1)) (hl : n.lo = 0 ∧ n.hi = 0) (hc : n.cls = 0#256 ∧ n.text = []) (hf : firstP l i = firstP l (firstP l (i - 1) - 1))
theorem okN.cs {l : List Nd} {i : Nat} {n : Nd} (hn : atN l i = n) (h : okN l i n) : Cs l i n := by
  obtain ⟨hb, hk⟩ := h
  have stop : ¬ partK n.kind → firstP l i = i := fun hp => firstP_stop (by rw [hn]; exact fun hh => hp hh.1)
  have go : partK n.kind → 0 ≤ n.a → n.a < (i : Int) → firstP l i = firstP l n.a.toNat := fun h1 h2 h3 => by
    have := firstP_go (l := l) (i := i) (by rw [hn]; exact h1) (by rw [hn]; exact h2) (by rw [hn]; exact h3); rw [hn] at this; exact this
  rcases hk with hk | hk | ⟨hk, ht⟩ | ⟨hk, h0, h1⟩ | ⟨hk, ⟨h0, h1⟩, h2, h3, h4⟩ | ⟨hk, ⟨h0, h1⟩, h2, h3⟩
  · exact .leaf (.inl hk) (stop (by unfold partK; omega))
  · exact .leaf (.inr (.inl hk)) (stop (by unfold partK; omega))
  · exact .leaf (.inr (.inr hk)) (stop (by unfold partK; omega))
  · have e : n = { kind := n.kind, a := n.a } := by
      conv => lhs; rw [← hb]
      unfold backN
      rcases hk with hk | hk | hk <;> simp [hk]
    refine .one (by omega) (by omega) h1 (by rw [e]) (fun _ => by rw [e]; exact ⟨rfl, rfl⟩) (fun h7 => by omega) (by rw [e]; exact ⟨rfl, rfl⟩) ?_
    rw [go (by unfold partK; omega) h0 (by omega), show n.a.toNat = i - 1 by omega]
  · have e : n = { kind := 7, a := n.a, lo := n.lo, hi := n.hi } := by
      conv => lhs; rw [← hb]
      unfold backN
      simp [hk]
    refine .one (by omega) (by omega) h1 (by rw [e]) (fun h7 => absurd hk h7) (fun _ => ⟨h2, h3, h4⟩) (by rw [e]; exact ⟨rfl, rfl⟩) ?_
    rw [go (by unfold partK; omega) h0 (by omega), show n.a.toNat = i - 1 by omega]
  · have e : n = { kind := n.kind, a := n.a, b := n.b } := by
      conv => lhs; rw [← hb]
      unfold backN
      rcases hk with hk | hk <;> simp [hk]
    have hle := firstP_le l (i - 1)
    rw [show n.b.toNat = i - 1 by omega] at h3
    refine .two hk (by omega) h1 h3 (by omega) (by rw [e]; exact ⟨rfl, rfl⟩) (by rw [e]; exact ⟨rfl, rfl⟩) ?_
    rw [go (by unfold partK; omega) h2 (by omega), show n.a.toNat = firstP l (i - 1) - 1 by omega]
theorem Cs.ok {l : List Nd} {i : Nat} {n : Nd} (h : Cs l i n) (hl : leafK n.kind → backN n = n ∧ (n.kind = 3 → textOk n.text = true)) : okN l i n := by
  cases h with
  | leaf hk hf =>
    obtain ⟨h1, h2⟩ := hl hk
    refine ⟨h1, ?_⟩
    rcases hk with hk | hk | hk
    · exact .inl hk
    · exact .inr (.inl hk)
    · exact .inr (.inr (.inl ⟨hk, h2 hk⟩))
  | one hk hi ha hb h7 hr hc hf =>
    obtain ⟨kind, a, b, lo, hi', cls, text⟩ := n
    simp only at *
    obtain ⟨rfl, rfl⟩ := hc
    subst hb
    by_cases hk7 : kind = 7
    · subst hk7
      exact ⟨by simp [backN], .inr (.inr (.inr (.inr (.inl ⟨rfl, ⟨by simp only; omega, ha⟩, hr rfl⟩))))⟩
    · obtain ⟨rfl, rfl⟩ := h7 hk7
      refine ⟨?_, .inr (.inr (.inr (.inl ⟨by simp only; omega, by simp only; omega, ha⟩)))⟩
      have : kind = 6 ∨ kind = 8 ∨ kind = 9 := by omega
      unfold backN
      rcases this with h | h | h <;> simp [h]
  | two hk hi hb ha hf0 hl2 hc hf =>
    obtain ⟨kind, a, b, lo, hi', cls, text⟩ := n
    simp only at *
    obtain ⟨rfl, rfl⟩ := hc
    obtain ⟨rfl, rfl⟩ := hl2
    refine ⟨?_, .inr (.inr (.inr (.inr (.inr ⟨hk, ⟨by simp only; omega, hb⟩, by simp only; omega, ?_⟩))))⟩
    · unfold backN
      rcases hk with h | h <;> simp [h]
    · simp only; rw [show b.toNat = i - 1 by omega]; exact ha
theorem atN_left {l m : List Nd} {j : Nat} (h : j < l.length) : atN (l ++ m) j = atN l j := by
  unfold atN
  rw [List.getD_eq_getElem?_getD, List.getD_eq_getElem?_getD, List.getElem?_append_left h]
theorem atN_right {l m : List Nd} {j : Nat} (h : l.length ≤ j) : atN (l ++ m) j = atN m (j - l.length) := by
  unfold atN
  rw [List.getD_eq_getElem?_getD, List.getD_eq_getElem?_getD, List.getElem?_append_right h]
/-- A whole of one part. -/
theorem wrap_form {l : List Nd} (h : Form l) {kind lo hi : Int} (hk : kind = 6 ∨ kind = 8 ∨ kind = 9) (h0 : lo = 0 ∧ hi = 0) : Form (wrapL kind lo hi l) := by
  obtain ⟨rfl, rfl⟩ := h0
  obtain ⟨h0, h1, h2⟩ := h
  have hc : ∀ i, i < l.length → firstP (wrapL kind 0 0 l) i = firstP l i := fun i hi => firstP_congr fun j hj => atN_left (by omega)
  have hlast : atN (wrapL kind 0 0 l) l.length = { kind := kind, a := (l.length : Int) - 1 } := by
    unfold wrapL; rw [atN_right (Nat.le_refl _), Nat.sub_self]; rfl
  have hf : firstP (wrapL kind 0 0 l) l.length = 0 := by
    rw [firstP_go (by rw [hlast]; unfold partK; simp only; omega) (by rw [hlast]; simp only; omega) (by rw [hlast]; simp only; omega), hlast]
    simp only
    rw [show ((l.length : Int) - 1).toNat = l.length - 1 by omega, hc _ (by omega), h2]
  refine ⟨by unfold wrapL; simp, fun i hi => ?_, by unfold wrapL at hf ⊢; simpa using hf⟩
  by_cases hil : i < l.length
  · rw [show atN (wrapL kind 0 0 l) i = atN l i from atN_left hil]
    exact (okN_congr (fun j hj => atN_left (by omega)) _).2 (h1 i hil)
  · obtain rfl : i = l.length := by unfold wrapL at hi; simp at hi; omega
    rw [hlast]
    refine ⟨?_, .inr (.inr (.inr (.inl ⟨hk, by simp only; omega, rfl⟩)))⟩
    unfold backN; rcases hk with h | h | h <;> simp [h]
theorem wrap_form7 {l : List Nd} (h : Form l) {lo hi : Int} (h3 : 0 ≤ lo) (h4 : lo ≤ hi) (h5 : hi ≤ 255) : Form (wrapL 7 lo hi l) := by
  obtain ⟨h0, h1, h2⟩ := h
  have hc : ∀ i, i < l.length → firstP (wrapL 7 lo hi l) i = firstP l i := fun i hi => firstP_congr fun j hj => atN_left (by omega)
  have hlast : atN (wrapL 7 lo hi l) l.length = { kind := 7, a := (l.length : Int) - 1, lo := lo, hi := hi } := by
    unfold wrapL; rw [atN_right (Nat.le_refl _), Nat.sub_self]; rfl
  have hf : firstP (wrapL 7 lo hi l) l.length = 0 := by
    rw [firstP_go (by rw [hlast]; unfold partK; simp only; omega) (by rw [hlast]; simp only; omega) (by rw [hlast]; simp only; omega), hlast]
    simp only
    rw [show ((l.length : Int) - 1).toNat = l.length - 1 by omega, hc _ (by omega), h2]
  refine ⟨by unfold wrapL; simp, fun i hi2 => ?_, by unfold wrapL at hf ⊢; simpa using hf⟩
  by_cases hil : i < l.length
  · rw [show atN (wrapL 7 lo hi l) i = atN l i from atN_left hil]
    exact (okN_congr (fun j hj => atN_left (by omega)) _).2 (h1 i hil)
  · obtain rfl : i = l.length := by unfold wrapL at hi2; simp at hi2; omega
    rw [hlast]
    exact ⟨by simp [backN], .inr (.inr (.inr (.inr (.inl ⟨rfl, ⟨by simp only; omega, rfl⟩, h3, h4, h5⟩))))⟩
end Go.Proofs.YtcgjmnhmhiddkaaDoor
