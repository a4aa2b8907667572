/- What the parser holds, in memory. -/
import Derived.Test.YtcgjmnhmhiddkaaDoorM24
import Derived.Test.YtcgjmnhmhiddkaaDoorM21
import Derived.Laws.MakeOwn
namespace Go.Proofs.YtcgjmnhmhiddkaaDoor
open Go Go.RowKit
set_option linter.unusedVariables false
set_option linter.unusedSimpArgs false

theorem Blk.typed2 {w : World} {b c : Nat} {vs us : Array Value} {t u : TypeId} (h : Blk w b vs t) (k : Blk w c us u) (hne : t ≠ u) : b ≠ c := by
  intro e; subst e
  unfold Blk at h k
  rw [h] at k
  have := Option.some.inj k
  injection this with _ h2
  exact hne h2
theorem TkRow.below {w w' : World} {a : Option Addr} {l : List Tk} {B : Nat} (h : TkRow w a l) (ha : ∀ b o, a = some ⟨b, o, none⟩ → b < B) (hb : Below B w w') : TkRow w' a l := fun i hi => by
  obtain ⟨b, off, h1, hlt, hc⟩ := h i hi
  exact ⟨b, off, h1, Nat.lt_of_lt_of_le hlt hb.size, fun j hj => (hb.cell (p := ⟨b, off + i * 9 + j, none⟩) (ha b off h1)).trans (hc j hj)⟩
/-- A row of its own, when a cell of another block is stored to. -/
theorem own_set {w : World} {base size n : Nat} {e : TypeId} {v : Value} {xs : List Value} (h : w.ownsRow base e size v n xs) {a : Addr} (ha : ∀ k, v.ownBlock = some k → k ≠ a.block) (u : Value) : (w.setCell a u).ownsRow base e size v n xs := by
  obtain ⟨h0, ⟨hv, hn⟩ | ⟨g, cap, cur, hv, hb, hg, hr⟩⟩ := h
  · exact ⟨h0, .inl ⟨hv, hn⟩⟩
  · refine ⟨h0, .inr ⟨g, cap, cur, hv, hb, ?_, hr⟩⟩
    have : Blk w g cur e := hg
    exact this.setCell_ne (a := a) (Ne.symm (ha g (by rw [hv]; rfl))) u
/-- A row's block is none of another type. -/
theorem own_typed {w : World} {base size n : Nat} {e t : TypeId} {v : Value} {xs : List Value} (h : w.ownsRow base e size v n xs) {g : Nat} {vs : Array Value} (hg : Blk w g vs t) (hne : e ≠ t) : ∀ k, v.ownBlock = some k → k ≠ g := by
  intro k hk
  obtain ⟨h0, ⟨hv, hn⟩ | ⟨g2, cap, cur, hv, hb, hg2, hr⟩⟩ := h
  · rw [hv] at hk; cases hk
  · rw [hv] at hk
    have : g2 = k := by simpa [Value.ownBlock] using hk
    subst this
    exact Blk.typed2 (w := w) (b := g2) (vs := cur) (t := e) hg2 hg hne
/-- What the parser holds: ov, nv, av are the rows of what is open, of nodes, of their places. -/
structure Pst0 (w : World) (B pb : Nat) (A : Option Addr) (cp : Nat) (l : List Tk) (s : PS) (ov nv av : Value) : Prop where
  blk : Blk w pb #[.slice A l.length cp, .int .i64 (s.read : Int), ov, nv, av, .int .i64 (s.count : Int)] 65
  opn : OwnI w B ov s.opn
  nodes : OwnN w B nv s.nodes
  ats : OwnI w B av s.ats
  apart : ∀ g, ov.ownBlock = some g → av.ownBlock ≠ some g
  row : TkRow w A l
  low : ∀ b o, A = some ⟨b, o, none⟩ → b < B
  base : B ≤ pb
  long : l.length ≤ 16777216
  rd : s.read ≤ 16777216
  ct : s.count ≤ 1073741824
  op : s.opn.length ≤ 16777216
def Pst (w : World) (B pb : Nat) (A : Option Addr) (cp : Nat) (l : List Tk) (s : PS) : Prop := ∃ ov nv av, Pst0 w B pb A cp l s ov nv av
section
variable {w : World} {B pb : Nat} {A : Option Addr} {cp : Nat} {l : List Tk} {s : PS} {ov nv av : Value}
theorem Pst0.later {w' : World} (h : Pst0 w B pb A cp l s ov nv av) (hb : Below w.heap.size w w') : Pst0 w' B pb A cp l s ov nv av :=
  ⟨h.blk.later hb, h.opn.later hb, h.nodes.later hb, h.ats.later hb, h.apart, h.row.later hb, h.low, h.base, h.long, h.rd, h.ct, h.op⟩
/-- A box of another type is stored to. -/
theorem Pst0.box (h : Pst0 w B pb A cp l s ov nv av) {g : Nat} {vs : Array Value} {t : TypeId} (hg : Blk w g vs t) (h1 : t ≠ 65) (h2 : t ≠ 3) (h3 : t ≠ 35) (hB : B ≤ g) (o : Nat) (u : Value) : Pst0 (w.setCell ⟨g, o, none⟩ u) B pb A cp l s ov nv av :=
  ⟨h.blk.setCell_ne (a := ⟨g, o, none⟩) (Ne.symm (Blk.typed2 h.blk hg (Ne.symm h1))) u, own_set h.opn (own_typed h.opn hg (Ne.symm h2)) u, own_set h.nodes (own_typed h.nodes hg (Ne.symm h3)) u, own_set h.ats (own_typed h.ats hg (Ne.symm h2)) u, h.apart,
    h.row.below h.low ((Below.refl B w).setCell (p := ⟨g, o, none⟩) hB u), h.low, h.base, h.long, h.rd, h.ct, h.op⟩
/-- A token more is read. -/
theorem Pst0.next (h : Pst0 w B pb A cp l s ov nv av) (hr : s.read < 16777216) : Pst0 (w.setCell ⟨pb, 1, none⟩ (.int .i64 ((s.read : Int) + 1))) B pb A cp l s.next ov nv av := by
  have hb := h.blk.setCell 1 (.int .i64 ((s.read : Int) + 1))
  exact ⟨by simpa [PS.next] using hb, own_set h.opn (own_typed h.opn h.blk (by decide)) _, own_set h.nodes (own_typed h.nodes h.blk (by decide)) _, own_set h.ats (own_typed h.ats h.blk (by decide)) _, h.apart,
    h.row.below h.low ((Below.refl B w).setCell (p := ⟨pb, 1, none⟩) h.base _), h.low, h.base, h.long, by simp only [PS.next]; omega, h.ct, h.op⟩
theorem Pst0.token (h : Pst0 w B pb A cp l s ov nv av) : Calls Tryd.prog 41 #[.pointer (some ⟨pb, 0, none⟩)] w (Ans w (.agg (tkC (tkAt l s.read)))) :=
  token_any l A cp s.read ov nv av _ pb w h.blk h.row (Nat.le_trans h.long (by decide)) (Nat.le_trans h.rd (by decide))
theorem Pst0.fault (h : Pst0 w B pb A cp l s ov nv av) {e p : Int} (hf : faultP l s = .bad e p) : Calls Tryd.prog 43 #[.pointer (some ⟨pb, 0, none⟩)] w (Ans w (ftV e p)) := by
  obtain ⟨O, oc, hv, hi⟩ := h.opn.row
  have hb := h.blk
  rw [hv] at hb
  exact fault_any l A O cp oc s nv av _ pb w hb h.row hi (Nat.le_trans h.long (by decide)) (Nat.le_trans h.rd (by decide)) (Nat.le_trans h.op (by decide)) e p hf
end
theorem fault_some (l : List Tk) (s : PS) : ∃ e p, faultP l s = .bad e p := by
  unfold faultP; split <;> exact ⟨_, _, rfl⟩
/-- Below a base nothing turns; and no box of a fault does. -/
structure Fr (B : Nat) (w w' : World) : Prop where
  bel : Below B w w'
  typ : ∀ b vs, Blk w b vs 67 → Blk w' b vs 67
section
variable {a w w' : World} {B pb : Nat} {A : Option Addr} {cp : Nat} {l : List Tk} {s : PS} {ov nv av : Value}
theorem Fr.of (h : Below w.heap.size w w') (hB : B ≤ w.heap.size) : Fr B w w' := ⟨h.mono hB, fun b vs hb => hb.later h⟩
theorem Fr.trans {u : World} (h : Fr B a w) (k : Fr B w u) : Fr B a u := ⟨h.bel.trans k.bel, fun b vs hb => k.typ b vs (h.typ b vs hb)⟩
theorem Fr.alloc (h : Fr B a w) (hB : B ≤ w.heap.size) (o : Obj) : Fr B a (w.alloc o) := ⟨h.bel.alloc hB o, fun b vs hb => (h.typ b vs hb).alloc o⟩
theorem Fr.setB {g : Nat} {vs : Array Value} {t : TypeId} (h : Fr B a w) (hg : Blk w g vs t) (ht : t ≠ 67) (hB : B ≤ g) (o : Nat) (v : Value) : Fr B a (w.setCell ⟨g, o, none⟩ v) :=
  ⟨h.bel.setCell (p := ⟨g, o, none⟩) hB v, fun b us hb => (h.typ b us hb).setCell_ne (a := ⟨g, o, none⟩) (Blk.typed2 hg (h.typ b us hb) ht) v⟩
theorem Fr.setP0 (h : Fr B a w) (hP : Pst0 w B pb A cp l s ov nv av) (o : Nat) (v : Value) : Fr B a (w.setCell ⟨pb, o, none⟩ v) := h.setB hP.blk (by decide) hP.base o v
theorem Fr.setP (h : Fr B a w) (hP : Pst w B pb A cp l s) (o : Nat) (v : Value) : Fr B a (w.setCell ⟨pb, o, none⟩ v) := by obtain ⟨o1, o2, o3, h0⟩ := hP; exact h.setP0 h0 o v
/-- A row of its own grows, whose type is no fault's. -/
theorem Fr.row {base size n : Nat} {e : TypeId} {v : Value} {xs : List Value} (h : Fr B a w) (hr : w.ownsRow base e size v n xs) (hb : B ≤ base) (he : e ≠ 67) (hB : B ≤ w.heap.size) (hg : w.grownBy w' v.ownBlock) : Fr B a w' :=
  ⟨h.bel.grown hg hB fun k hk => Nat.le_trans hb (World.ownsRow.lt hr k hk).1, fun b us hk => by
    have h1 := h.typ b us hk
    refine (hg.block b h1.lt (fun e2 => ?_)).trans h1
    exact own_typed hr h1 he b e2.symm rfl⟩
theorem fr9 (h : Fr B a w) {g : Nat} {c0 c1 c2 c3 c4 c5 c6 c7 c8 : Value} (hg : Blk w g #[c0, c1, c2, c3, c4, c5, c6, c7, c8] 61) (hB : B ≤ g) (v0 v1 v2 v3 v4 v5 v6 v7 v8 : Value) :
    Fr B a (((((((((w.setCell ⟨g, 0, none⟩ v0).setCell ⟨g, 1, none⟩ v1).setCell ⟨g, 2, none⟩ v2).setCell ⟨g, 3, none⟩ v3).setCell ⟨g, 4, none⟩ v4).setCell ⟨g, 5, none⟩ v5).setCell ⟨g, 6, none⟩ v6).setCell ⟨g, 7, none⟩ v7).setCell ⟨g, 8, none⟩ v8) := by
  have ht : 61 ≠ 67 := by decide
  have g1 := hg.setCell 0 v0
  have g2 := g1.setCell 1 v1
  have g3 := g2.setCell 2 v2
  have g4 := g3.setCell 3 v3
  have g5 := g4.setCell 4 v4
  have g6 := g5.setCell 5 v5
  have g7 := g6.setCell 6 v6
  have g8 := g7.setCell 7 v7
  exact ((((((((h.setB hg ht hB 0 v0).setB g1 ht hB 1 v1).setB g2 ht hB 2 v2).setB g3 ht hB 3 v3).setB g4 ht hB 4 v4).setB g5 ht hB 5 v5).setB g6 ht hB 6 v6).setB g7 ht hB 7 v7).setB g8 ht hB 8 v8
end
/-- How a call of the parser ends. -/
def ftE (e p : Int) : Ending := .panicked [{ v := .iface 67 (ftV e p), recovered := false }]
def RunPost (B pb : Nat) (A : Option Addr) (cp : Nat) (l : List Tk) (w : World) (r : PR) (e : Ending) (w' : World) : Prop := match r with
  | .ok k t => e = .returned (.int .i64 k) ∧ Pst w' B pb A cp l t ∧ Fr B w w'
  | .bad er p => e = ftE er p ∧ Fr B w w'
  | .out => False
end Go.Proofs.YtcgjmnhmhiddkaaDoor
/- The parser's want: walked. -/
namespace Go.Proofs.YtcgjmnhmhiddkaaDoor
open Go Go.RowKit
set_option linter.unusedVariables false
set_option linter.unusedSimpArgs false

/-- A token's box is stored to whole. -/
theorem Pst0.box9 {w : World} {B pb : Nat} {A : Option Addr} {cp : Nat} {l : List Tk} {s : PS} {ov nv av : Value} (h : Pst0 w B pb A cp l s ov nv av) {g : Nat} {c0 c1 c2 c3 c4 c5 c6 c7 c8 : Value} (hg : Blk w g #[c0, c1, c2, c3, c4, c5, c6, c7, c8] 61) (hB : B ≤ g) (v0 v1 v2 v3 v4 v5 v6 v7 v8 : Value) :
    Pst0 (((((((((w.setCell ⟨g, 0, none⟩ v0).setCell ⟨g, 1, none⟩ v1).setCell ⟨g, 2, none⟩ v2).setCell ⟨g, 3, none⟩ v3).setCell ⟨g, 4, none⟩ v4).setCell ⟨g, 5, none⟩ v5).setCell ⟨g, 6, none⟩ v6).setCell ⟨g, 7, none⟩ v7).setCell ⟨g, 8, none⟩ v8) B pb A cp l s ov nv av := by
  have n1 : 61 ≠ 65 := by decide
  have n2 : 61 ≠ 3 := by decide
  have n3 : 61 ≠ 35 := by decide
  have g1 := hg.setCell 0 v0
  have g2 := g1.setCell 1 v1
  have g3 := g2.setCell 2 v2
  have g4 := g3.setCell 3 v3
  have g5 := g4.setCell 4 v4
  have g6 := g5.setCell 5 v5
  have g7 := g6.setCell 6 v6
  have g8 := g7.setCell 7 v7
  exact ((((((((h.box hg n1 n2 n3 hB 0 v0).box g1 n1 n2 n3 hB 1 v1).box g2 n1 n2 n3 hB 2 v2).box g3 n1 n2 n3 hB 3 v3).box g4 n1 n2 n3 hB 4 v4).box g5 n1 n2 n3 hB 5 v5).box g6 n1 n2 n3 hB 6 v6).box g7 n1 n2 n3 hB 7 v7).box g8 n1 n2 n3 hB 8 v8
section
variable {w : World} {B pb : Nat} {A : Option Addr} {cp : Nat} {l : List Tk} {s : PS} {ov nv av : Value}
set_option maxHeartbeats 4000000 in
set_option maxRecDepth 100000 in
theorem want_bad (hP : Pst0 w B pb A cp l s ov nv av) {k e p : Int} (hk : (tkAt l s.read).kind ≠ k) (hf : faultP l s = .bad e p) :
    Calls Tryd.prog 28 #[.pointer (some ⟨pb, 0, none⟩), .int .i64 k] w (fun e' w' => e' = ftE e p ∧ Below w.heap.size w w') := by
  have HF := Lib.hid hf
  clear hf
  have HP1 : Hid (Pst0 (w.alloc (.cells z9 61)) B pb A cp l s ov nv av) := hP.later ((Below.refl _ _).alloc (Nat.le_refl _) _)
  have HB1 := Lib.hid ((Below.refl w.heap.size w).alloc (Nat.le_refl _) (.cells z9 61))
  have HX1 := Lib.hid (Blk.new w z9 61)
  have hlt0 := hP.blk.lt
  have hBw : B ≤ w.heap.size := Nat.le_of_lt (Nat.lt_of_le_of_lt hP.base hlt0)
  clear hP
  unfold z9 at HP1 HB1 HX1
  go_enter Tryd.func28, Tryd.ntmps28
  go_upto_region 1 with (fail)
  generalize w.alloc (.cells #[.int .i64 0, .int .i64 0, .int .u64 0, .int .u64 0, .int .u64 0, .int .u64 0, .string ⟨#[]⟩, .int .i64 0, .int .i64 0] 61) = w1 at *
  go_wp2_with fail
  refine (HP1.out.token).mono ?_; rintro e1 w2 ⟨rfl, hb2⟩
  have HP2 := Lib.hid (HP1.out.later hb2)
  have HX2 := Lib.hid (HX1.out.later hb2)
  have HB2 := Lib.hid (HB1.out.trans (hb2.mono HB1.out.size))
  clear hb2 HP1 HX1 HB1
  generalize hx : tkAt l s.read = x at *
  have HXE := Lib.hid hx
  clear hx
  have hk9 := Lib.hid (Blk.new w2 (tkC x) 61)
  have hb9 := Lib.hid ((Below.refl w2.heap.size w2).alloc (Nat.le_refl _) (.cells (tkC x) 61))
  unfold tkC at *
  go_upto_region 2 with (fail)
  generalize w2.alloc (.cells #[.int .i64 x.kind, .int .i64 x.at_, .int .u64 (wd x.cls 0), .int .u64 (wd x.cls 1), .int .u64 (wd x.cls 2), .int .u64 (wd x.cls 3), .string (bs x.text), .int .i64 x.lo, .int .i64 x.hi] 61) = w3 at *
  have HP3 := Lib.hid (HP2.out.later hb9.out)
  have HX3 := Lib.hid (HX2.out.later hb9.out)
  have HB3 := Lib.hid (HB2.out.trans (hb9.out.mono HB2.out.size))

  clear HP2 HX2 HB2 hb9
  generalize w2.heap.size = tb at *

  obtain ⟨t0, -, -, -, -, -, -, -, -⟩ := nine_cells hk9.out
  clear hk9
  have hn : (x.kind != k) = true := by rw [bne_iff_ne]; exact hk
  go_wp2_with fail
  refine (HP3.out.fault HF.out).mono ?_; rintro e2 w4 ⟨rfl, hb4⟩
  have HB4 := Lib.hid (HB3.out.trans (hb4.mono HB3.out.size))
  clear hb4
  go_wp2
  exact ⟨rfl, rfl, HB4.out⟩
set_option maxHeartbeats 4000000 in
set_option maxRecDepth 100000 in
theorem want_ok (hP : Pst0 w B pb A cp l s ov nv av) {k : Int} (hk : (tkAt l s.read).kind = k) (hr : s.read < 16777216) :
    Calls Tryd.prog 28 #[.pointer (some ⟨pb, 0, none⟩), .int .i64 k] w (fun e' w' => e' = .returned (.agg (tkC (tkAt l s.read))) ∧ Pst0 w' B pb A cp l s.next ov nv av ∧ Fr B w w') := by
  have HKK := Lib.hid hk
  clear hk
  have HP1 : Hid (Pst0 (w.alloc (.cells z9 61)) B pb A cp l s ov nv av) := hP.later ((Below.refl _ _).alloc (Nat.le_refl _) _)
  have HB1 := Lib.hid ((Below.refl w.heap.size w).alloc (Nat.le_refl _) (.cells z9 61))
  have HX1 := Lib.hid (Blk.new w z9 61)
  have hlt0 := hP.blk.lt
  have hBw : B ≤ w.heap.size := Nat.le_of_lt (Nat.lt_of_le_of_lt hP.base hlt0)
  clear hP
  unfold z9 at HP1 HB1 HX1
  go_enter Tryd.func28, Tryd.ntmps28
  go_upto_region 1 with (fail)
  generalize w.alloc (.cells #[.int .i64 0, .int .i64 0, .int .u64 0, .int .u64 0, .int .u64 0, .int .u64 0, .string ⟨#[]⟩, .int .i64 0, .int .i64 0] 61) = w1 at *
  go_wp2_with fail
  refine (HP1.out.token).mono ?_; rintro e1 w2 ⟨rfl, hb2⟩
  have HP2 := Lib.hid (HP1.out.later hb2)
  have HX2 := Lib.hid (HX1.out.later hb2)
  have HB2 := Lib.hid (HB1.out.trans (hb2.mono HB1.out.size))
  clear hb2 HP1 HX1 HB1
  generalize hx : tkAt l s.read = x at *
  have HXE := Lib.hid hx
  clear hx
  have hk9 := Lib.hid (Blk.new w2 (tkC x) 61)
  have hb9 := Lib.hid ((Below.refl w2.heap.size w2).alloc (Nat.le_refl _) (.cells (tkC x) 61))
  unfold tkC at *
  go_upto_region 2 with (fail)
  generalize w2.alloc (.cells #[.int .i64 x.kind, .int .i64 x.at_, .int .u64 (wd x.cls 0), .int .u64 (wd x.cls 1), .int .u64 (wd x.cls 2), .int .u64 (wd x.cls 3), .string (bs x.text), .int .i64 x.lo, .int .i64 x.hi] 61) = w3 at *
  have HP3 := Lib.hid (HP2.out.later hb9.out)
  have HX3 := Lib.hid (HX2.out.later hb9.out)
  have HB3 := Lib.hid (HB2.out.trans (hb9.out.mono HB2.out.size))

  clear HP2 HX2 HB2 hb9
  generalize w2.heap.size = tb at *
  have hn : (x.kind != k) = false := by rw [HKK.out]; simp
  obtain ⟨t0, -, -, -, -, -, -, -, -⟩ := nine_cells hk9.out
  have c1 := HP3.out.blk.cell 1
  simp at c1
  have fz := HP3.out.blk.frozen
  have hrz : (s.read : Int) < 16777216 := by omega
  have hw : wrap64 ((s.read : Int) + 1) = (s.read : Int) + 1 := by unfold wrap64; omega
  have HP4 := Lib.hid (HP3.out.next hr)
  have HB4 := Lib.hid ((Fr.of HB3.out hBw).setP0 HP3.out 1 (.int .i64 ((s.read : Int) + 1)))
  have HX4 := Lib.hid (HX3.out.setCell_ne (a := ⟨pb, 1, none⟩) (Blk.typed2 HP3.out.blk HX3.out (by decide)) (.int .i64 ((s.read : Int) + 1)))
  have HK4 := Lib.hid (hk9.out.setCell_ne (a := ⟨pb, 1, none⟩) (Blk.typed2 HP3.out.blk hk9.out (by decide)) (.int .i64 ((s.read : Int) + 1)))
  clear HP3 HX3 HB3 
  go_upto_region 5 with (fail)
  generalize w3.setCell ⟨pb, 1, none⟩ (.int .i64 ((s.read : Int) + 1)) = w4 at *
  clear t0 c1 fz hw hk9
  obtain ⟨t0, t1, t2, t3, t4, t5, t6, t7, t8⟩ := nine_cells HK4.out
  obtain ⟨m0, m1, m2, m3, m4, m5, m6, m7, m8⟩ := nine_cells HX4.out
  obtain ⟨n0, n1, n2, n3, n4, n5, n6, n7, n8⟩ := nine HX4.out
  have nf := HX4.out.frozen
  have HPE := Lib.hid (HP4.out.box9 HX4.out hBw (.int .i64 x.kind) (.int .i64 x.at_) (.int .u64 (wd x.cls 0)) (.int .u64 (wd x.cls 1)) (.int .u64 (wd x.cls 2)) (.int .u64 (wd x.cls 3)) (.string (bs x.text)) (.int .i64 x.lo) (.int .i64 x.hi))
  have HBE := Lib.hid (fr9 HB4.out HX4.out hBw (.int .i64 x.kind) (.int .i64 x.at_) (.int .u64 (wd x.cls 0)) (.int .u64 (wd x.cls 1)) (.int .u64 (wd x.cls 2)) (.int .u64 (wd x.cls 3)) (.string (bs x.text)) (.int .i64 x.lo) (.int .i64 x.hi))
  have hbk := Lib.hid (nine_cells (nine_blk HX4.out (.int .i64 x.kind) (.int .i64 x.at_) (.int .u64 (wd x.cls 0)) (.int .u64 (wd x.cls 1)) (.int .u64 (wd x.cls 2)) (.int .u64 (wd x.cls 3)) (.string (bs x.text)) (.int .i64 x.lo) (.int .i64 x.hi)))
  clear HP4 HX4 HB4 HK4
  go_wp2
  obtain ⟨r0, r1, r2, r3, r4, r5, r6, r7, r8⟩ := hbk.out
  exact bodyPost_ret (v := .agg #[.int .i64 x.kind, .int .i64 x.at_, .int .u64 (wd x.cls 0), .int .u64 (wd x.cls 1), .int .u64 (wd x.cls 2), .int .u64 (wd x.cls 3), .string (bs x.text), .int .i64 x.lo, .int .i64 x.hi]) (by simp [results, Tryd.results28, go_sem, r0, r1, r2, r3, r4, r5, r6, r7, r8]) rfl ⟨by rw [HXE.out]; rfl, HPE.out, HBE.out⟩
end
end Go.Proofs.YtcgjmnhmhiddkaaDoor
/- An append of a node to a row of its own: where it stands, and the row that was there. -/
namespace Go.Proofs.YtcgjmnhmhiddkaaDoor
open Go Go.RowKit
set_option linter.unusedVariables false

theorem nd_one (t : Nd) : ∀ u ∈ flat10 [t], u.oneCell' = true := flat10_ones [t]
theorem nd_news {w : World} {b : Nat} {t : Nd} (hnew : Blk w b (ndC t) 35) : ∀ (j : Nat) (u : Value), (flat10 [t])[j]? = some u → w.cell? ((⟨b, 0, none⟩ : Addr).add j) = some u := by
  intro j u hu
  have hadd : (⟨b, 0, none⟩ : Addr).add j = ⟨b, j, none⟩ := by unfold Addr.add; split <;> simp_all
  have hf1 : flat10 [t] = (ndC t).toList := by simp [flat10]
  rw [hf1] at hu
  rw [hadd, hnew.cell, ← hu]; simp
set_option maxRecDepth 100000 in
theorem wp_append_nd2 {w : World} {o : Oper} {a : Act} {K : Act → World → Prop} {Q : Exit → Act → World → Prop} (s x : Operand)
    (ho : o.op = .call { callee := .builtin .append, args := #[s, x], argTypes := #[23, 23] })
    (base : Nat) (v : Value) (l : List Nd) (hs : a.eval s = v) (hown : OwnN w base v l)
    (b : Nat) (t : Nd) (hx : a.eval x = .slice (some ⟨b, 0, none⟩) 1 1) (hnew : Blk w b (ndC t) 35) (hlen : l.length < 1073741824) (hbase : base ≤ w.heap.size)
    (h : ∀ v' w', OwnN w' base v' (l ++ [t]) → w.grownBy w' v.ownBlock → (v'.ownBlock = v.ownBlock ∨ ∃ g', v'.ownBlock = some g' ∧ w.heap.size ≤ g') → OwnN w' base v l → (∀ u, OwnN w base u (l ++ [t]) → OwnN w' base u (l ++ [t])) → K (a.put o.dst v') w') : o.wp Tryd.prog a w K Q := by
  obtain ⟨ib, hib, hz0, hz1, hz2⟩ := info_parts infoNd
  have hnews := nd_news hnew
  have hone := nd_one t
  obtain ⟨v', w', hr, h2, h3, _⟩ := run_append_own (P := Tryd.prog) w base 23 o.type 35 ib _ 10 88 Tryd.underlying23 hib hz0 hz1 hz2 rfl (by decide) v l.length (flat10 l) hown ⟨b, 0, none⟩ 1 1 (flat10 [t]) rfl hnews hone (by unfold maxLen; omega) (by omega) hbase
  have h2' : OwnN w' base v' (l ++ [t]) := by unfold OwnN; rw [List.length_append, flat10_append]; exact h2
  have place : (v'.ownBlock = v.ownBlock ∨ ∃ g', v'.ownBlock = some g' ∧ w.heap.size ≤ g') ∧ OwnN w' base v l ∧ (∀ u, OwnN w base u (l ++ [t]) → OwnN w' base u (l ++ [t])) := by
    rcases hown.2 with ⟨rfl, hn⟩ | ⟨g', cap, cur, rfl, hbg, hgg, hnc, hcm, hcs, htake⟩
    · have hl0 : l = [] := List.length_eq_zero_iff.1 hn
      subst hl0
      obtain ⟨v2, w2, hr2, h4, _, _⟩ := run_append_own (P := Tryd.prog) w w.heap.size 23 o.type 35 ib _ 10 88 Tryd.underlying23 hib hz0 hz1 hz2 rfl (by decide) (.slice none 0 0) 0 [] ⟨rfl, .inl ⟨rfl, rfl⟩⟩ ⟨b, 0, none⟩ 1 1 (flat10 [t]) rfl hnews hone (by unfold maxLen; omega) (by omega) (Nat.le_refl _)
      rw [hr] at hr2
      simp only [Result.ok.injEq] at hr2
      obtain ⟨rfl, rfl⟩ := hr2
      refine ⟨?_, OwnN.nil _ _, fun u hu => World.ownsRow.kept hu h3 (by cases hh : u.ownBlock <;> simp [Value.ownBlock])⟩
      rcases h4.2 with ⟨_, h5⟩ | ⟨g2, cap2, cur2, hv, hb2, _⟩
      · omega
      · exact .inr ⟨g2, by rw [hv]; rfl, hb2⟩
    · by_cases hroom : l.length + 1 ≤ cap
      · have hr2 := run_append_room (P := Tryd.prog) w 23 o.type 35 ib Tryd.underlying23 hib g' l.length cap cur hgg ⟨b, 0, none⟩ 1 1 (flat10 [t]) (by rw [hz1]; rfl) hnews hone hroom (by rw [hz1, hcs]; simp [flat10_length]; omega)
        rw [hr] at hr2
        simp only [Result.ok.injEq] at hr2
        refine ⟨.inl (by rw [hr2.1]; rfl), ?_⟩
        have hv := hr2.1
        have hown2 := h2'
        obtain ⟨q0, ⟨q1, _⟩ | ⟨g2, cap2, cur2, q1, q2, q3, q4, q5, q6, q7⟩⟩ := h2'
        · rw [hv] at q1; cases q1
        · rw [hv] at q1
          simp only [Value.slice.injEq, Option.some.injEq, Addr.mk.injEq, and_true] at q1
          obtain ⟨rfl, q8, rfl⟩ := q1
          refine ⟨⟨by rw [flat10_length], .inr ⟨g', cap, cur2, rfl, hbg, q3, hnc, hcm, q6, ?_⟩⟩, fun u hu => ?_⟩
          case refine_2 =>
            by_cases hgu : u.ownBlock = some g'
            · obtain ⟨u0, ⟨u1, _⟩ | ⟨g3, cap3, cur3, u1, u2, u3, u4, u5, u6, u7⟩⟩ := hu
              · rw [u1] at hgu; cases hgu
              · rw [u1] at hgu
                have e3 : g3 = g' := by simpa [Value.ownBlock] using hgu
                subst e3
                have e4 := u3.symm.trans hgg
                simp only [Option.some.injEq, Obj.cells.injEq, and_true] at e4
                have e5 : cap3 = cap := by rw [e4] at u6; omega
                rw [u1, e5, ← q8, ← hv]; exact hown2
            · exact World.ownsRow.kept hu h3 (by right; exact hgu)
          have e : cur2.toList.take (l.length * 10) = (cur2.toList.take ((l ++ [t]).length * 10)).take (l.length * 10) := by rw [List.take_take]; congr 1; simp
          rw [e, q7, flat10_append]
          rw [List.take_append_of_le_length (by rw [flat10_length]; omega), ← flat10_length, List.take_length]
      · have holds := World.ownsRow.cells (w := w) (base := base) (e := 35) (size := 10) (v := .slice (some ⟨g', 0, none⟩) l.length cap) (n := l.length) (xs := flat10 l) hown (g := g') rfl
        have hr2 := run_append_grow (P := Tryd.prog) w 23 o.type 35 ib _ Tryd.underlying23 hib hz0 ⟨g', 0, none⟩ l.length cap (flat10 l) (by rw [hz1]; exact flat10_length l) holds ⟨b, 0, none⟩ 1 1 (flat10 [t]) (by rw [hz1]; rfl) hnews (by omega) (by omega) (by rw [hz2]; exact growslice_fits (by omega) (by omega))
        rw [hr] at hr2
        simp only [Result.ok.injEq] at hr2
        refine ⟨.inr ⟨w.heap.size, by rw [hr2.1]; rfl, Nat.le_refl _⟩, ?_⟩
        have hb : Below w.heap.size w w' := by rw [hr2.2]; exact ((Below.refl _ w).drew).alloc (Nat.le_refl _) _
        exact ⟨hown.later hb, fun u hu => hu.later hb⟩
  unfold Oper.wp execOp
  simp only [ho, resolve, invoke, builtin, Sem.run_bind, Sem.run_pure, Result.andThen_ok, List.map_toArray, List.map_cons, List.map_nil, hs, hx, hr]
  exact h v' w' h2' h3 place.1 place.2.1 place.2.2
end Go.Proofs.YtcgjmnhmhiddkaaDoor
/- Leaf, Wrap, Pair: walked. -/
namespace Go.Proofs.YtcgjmnhmhiddkaaDoor
open Go Go.RowKit
set_option linter.unusedVariables false
set_option linter.unusedSimpArgs false

theorem NRow.ofBlk {w : World} {b : Nat} {n : Nd} (h : Blk w b (ndC n) 35) : NRow w (some ⟨b, 0, none⟩) [n] := fun i hi => by
  obtain rfl : i = 0 := by simpa using hi
  refine ⟨b, 0, rfl, h.lt, fun j hj => ?_⟩
  rw [Nat.zero_mul, Nat.zero_add, h.cell]; rfl
set_option maxHeartbeats 8000000 in
set_option maxRecDepth 100000 in
theorem leaf_any (n : Nd) (hm : MvOk 0 n) (w : World) : Calls Tryd.prog 81 #[.agg (ndC n)] w (DPost w [n]) := by
  have HMV : Hid (mvN 0 n = n) := mvN_zero n
  have HM := Lib.hid hm
  have hb := ((Below.refl w.heap.size w).alloc (Nat.le_refl _) (.cells (ndC n) 35)).alloc (by simp) (.cells #[.slice none 0 0] 25)
  have HB := Lib.hid hb
  have HN : Hid (Blk ((w.alloc (.cells (ndC n) 35)).alloc (.cells #[.slice none 0 0] 25)) w.heap.size (ndC n) 35) := (Blk.new w _ _).alloc _
  have HR : Hid (Blk ((w.alloc (.cells (ndC n) 35)).alloc (.cells #[.slice none 0 0] 25)) (w.heap.size + 1) #[.slice none 0 0] 25) := by
    unfold Hid
    have := Blk.new (w.alloc (.cells (ndC n) 35)) #[.slice none 0 0] 25
    simpa using this
  clear hm hb
  unfold ndC at HB HN HR ⊢
  go_enter Tryd.func81, Tryd.ntmps81
  go_upto_region 1 with (fail)
  generalize (w.alloc (.cells #[.int .i64 n.kind, .int .i64 n.a, .int .i64 n.b, .int .i64 n.lo, .int .i64 n.hi, .int .u64 (wd n.cls 0), .int .u64 (wd n.cls 1), .int .u64 (wd n.cls 2), .int .u64 (wd n.cls 3), .string (bs n.text)] 35)).alloc (.cells #[.slice none 0 0] 25) = w1 at *
  obtain ⟨g0, g1, g2, g3, g4, g5, g6, g7, g8, g9⟩ := ten_cells HN.out
  have HB2 := Lib.hid ((Below.refl w1.heap.size w1).alloc (Nat.le_refl _) (.cells (ndC n) 35))
  have HN2 := Lib.hid (NRow.ofBlk (Blk.new w1 (ndC n) 35))
  have hlow : w.heap.size + 1 < w1.heap.size := HR.out.lt
  have LC : Hid (Calls Tryd.prog 84 #[.slice none 0 0, .slice (some ⟨w1.heap.size, 0, none⟩) 1 1, .int .i64 0] (w1.alloc (.cells (ndC n) 35)) (LaidPost (w1.alloc (.cells (ndC n) 35)) (w1.alloc (.cells (ndC n) 35)).heap.size [n])) := by
    have h := laid_any [] [n] 0 (.slice none 0 0) (some ⟨w1.heap.size, 0, none⟩) 1 (w1.alloc (.cells (ndC n) 35)).heap.size _ (OwnN.nil _ _) HN2.out (fun b o e => by cases e; simp) (Nat.le_refl _) (by simp) (fun x hx => by simp at hx; subst hx; exact HM.out)
    unfold Hid
    rw [List.nil_append, List.map_cons, List.map_nil, HMV.out] at h
    exact h
  unfold ndC at HB2 HN2 LC
  go_wp2_with fail
  refine LC.out.mono ?_; intro e w4 hp; obtain ⟨s, rfl, ho, hb4⟩ := hp
  obtain ⟨A2, c2, rfl, -⟩ := ho.row
  have HO := Lib.hid ho
  have hb5 := hb4.trans ((Below.refl _ _))
  have HR4 := Lib.hid ((HR.out.later HB2.out).later hb4)
  have HB4 := Lib.hid ((HB.out.trans (HB2.out.mono HB.out.size)).trans (hb4.mono (by simp; omega)))
  clear hb4 hb5 ho LC g0 g1 g2 g3 g4 g5 g6 g7 g8 g9
  have r0 := HR4.out.cell 0
  simp at r0
  have rf := HR4.out.frozen
  have s0 := HR4.out.put10 (o := 0) (by simp)
  go_wp2
  exact bodyPost_ret (v := .agg #[.slice A2 1 c2]) (by simp [results, Tryd.results81, go_sem, s0]) rfl ⟨_, rfl, (HO.out.setCell_ne (a := ⟨w.heap.size + 1, 0, none⟩) (by simp; omega) _).weaken (by simp; omega), HB4.out.setCell (p := ⟨w.heap.size + 1, 0, none⟩) (Nat.le_succ _) _⟩
theorem Blk.grow {w w' : World} {b g : Nat} {vs : Array Value} {t : TypeId} (h : Blk w b vs t) (hne : b ≠ g) (hg : w.grownBy w' (some g)) : Blk w' b vs t := (hg.block b h.lt (fun e => hne (Option.some.inj e))).trans h
end Go.Proofs.YtcgjmnhmhiddkaaDoor
