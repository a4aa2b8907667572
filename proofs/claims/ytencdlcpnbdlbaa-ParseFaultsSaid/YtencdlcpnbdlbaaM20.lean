/- What the parser holds, in memory. -/
import Derived.Test.YtencdlcpnbdlbaaM19
import Derived.Test.YtencdlcpnbdlbaaM12
import Derived.Laws.MakeOwn
namespace Go.Proofs.Ytencdlcpnbdlbaa
open Go Go.RowKit
set_option linter.unusedVariables false
set_option linter.unusedSimpArgs false

theorem Blk.typed2 {w : World} {b c : Nat} {vs us : Array Value} {t u : TypeId} (h : Blk w b vs t) (k : Blk w c us u) (hne : t ≠ u) : b ≠ c := by
  intro e; subst e
  unfold Blk at h k
  rw [h] at k
  have := Option.some.inj k
  injection this with _ h2
  exact hne h2
theorem TkRow.below {w w' : World} {a : Option Addr} {l : List Tk} {B : Nat} (h : TkRow w a l) (ha : ∀ b o, a = some ⟨b, o, none⟩ → b < B) (hb : Below B w w') : TkRow w' a l := fun i hi => by
  obtain ⟨b, off, h1, hlt, hc⟩ := h i hi
  exact ⟨b, off, h1, Nat.lt_of_lt_of_le hlt hb.size, fun j hj => (hb.cell (p := ⟨b, off + i * 9 + j, none⟩) (ha b off h1)).trans (hc j hj)⟩
/-- A row of its own, when a cell of another block is stored to. -/
theorem own_set {w : World} {base size n : Nat} {e : TypeId} {v : Value} {xs : List Value} (h : w.ownsRow base e size v n xs) {a : Addr} (ha : ∀ k, v.ownBlock = some k → k ≠ a.block) (u : Value) : (w.setCell a u).ownsRow base e size v n xs := by
  obtain ⟨h0, ⟨hv, hn⟩ | ⟨g, cap, cur, hv, hb, hg, hr⟩⟩ := h
  · exact ⟨h0, .inl ⟨hv, hn⟩⟩
  · refine ⟨h0, .inr ⟨g, cap, cur, hv, hb, ?_, hr⟩⟩
    have : Blk w g cur e := hg
    exact this.setCell_ne (a := a) (Ne.symm (ha g (by rw [hv]; rfl))) u
/-- A row's block is none of another type. -/
theorem own_typed {w : World} {base size n : Nat} {e t : TypeId} {v : Value} {xs : List Value} (h : w.ownsRow base e size v n xs) {g : Nat} {vs : Array Value} (hg : Blk w g vs t) (hne : e ≠ t) : ∀ k, v.ownBlock = some k → k ≠ g := by
  intro k hk
  obtain ⟨h0, ⟨hv, hn⟩ | ⟨g2, cap, cur, hv, hb, hg2, hr⟩⟩ := h
  · rw [hv] at hk; cases hk
  · rw [hv] at hk
    have : g2 = k := by simpa [Value.ownBlock] using hk
    subst this
    exact Blk.typed2 (w := w) (b := g2) (vs := cur) (t := e) hg2 hg hne
/-- What the parser holds: ov, nv, av are the rows of what is open, of nodes, of their places. -/
structure Pst0 (w : World) (B pb : Nat) (A : Option Addr) (cp : Nat) (l : List Tk) (s : PS) (ov nv av : Value) : Prop where
  blk : Blk w pb #[.slice A l.length cp, .int .i64 (s.read : Int), ov, nv, av, .int .i64 (s.count : Int)] 50
  opn : OwnI w B ov s.opn
  nodes : OwnN w B nv s.nodes
  ats : OwnI w B av s.ats
  apart : ∀ g, ov.ownBlock = some g → av.ownBlock ≠ some g
  row : TkRow w A l
  low : ∀ b o, A = some ⟨b, o, none⟩ → b < B
  base : B ≤ pb
  long : l.length ≤ 1048576
  rd : s.read ≤ 1048576
  ct : s.count ≤ 1073741824
  op : s.opn.length ≤ 1048576
def Pst (w : World) (B pb : Nat) (A : Option Addr) (cp : Nat) (l : List Tk) (s : PS) : Prop := ∃ ov nv av, Pst0 w B pb A cp l s ov nv av
section
variable {w : World} {B pb : Nat} {A : Option Addr} {cp : Nat} {l : List Tk} {s : PS} {ov nv av : Value}
theorem Pst0.later {w' : World} (h : Pst0 w B pb A cp l s ov nv av) (hb : Below w.heap.size w w') : Pst0 w' B pb A cp l s ov nv av :=
  ⟨h.blk.later hb, h.opn.later hb, h.nodes.later hb, h.ats.later hb, h.apart, h.row.later hb, h.low, h.base, h.long, h.rd, h.ct, h.op⟩
/-- A box of another type is stored to. -/
theorem Pst0.box (h : Pst0 w B pb A cp l s ov nv av) {g : Nat} {vs : Array Value} {t : TypeId} (hg : Blk w g vs t) (h1 : t ≠ 50) (h2 : t ≠ 3) (h3 : t ≠ 39) (hB : B ≤ g) (o : Nat) (u : Value) : Pst0 (w.setCell ⟨g, o, none⟩ u) B pb A cp l s ov nv av :=
  ⟨h.blk.setCell_ne (a := ⟨g, o, none⟩) (Ne.symm (Blk.typed2 h.blk hg (Ne.symm h1))) u, own_set h.opn (own_typed h.opn hg (Ne.symm h2)) u, own_set h.nodes (own_typed h.nodes hg (Ne.symm h3)) u, own_set h.ats (own_typed h.ats hg (Ne.symm h2)) u, h.apart,
    h.row.below h.low ((Below.refl B w).setCell (p := ⟨g, o, none⟩) hB u), h.low, h.base, h.long, h.rd, h.ct, h.op⟩
/-- A token more is read. -/
theorem Pst0.next (h : Pst0 w B pb A cp l s ov nv av) (hr : s.read < 1048576) : Pst0 (w.setCell ⟨pb, 1, none⟩ (.int .i64 ((s.read : Int) + 1))) B pb A cp l s.next ov nv av := by
  have hb := h.blk.setCell 1 (.int .i64 ((s.read : Int) + 1))
  exact ⟨by simpa [PS.next] using hb, own_set h.opn (own_typed h.opn h.blk (by decide)) _, own_set h.nodes (own_typed h.nodes h.blk (by decide)) _, own_set h.ats (own_typed h.ats h.blk (by decide)) _, h.apart,
    h.row.below h.low ((Below.refl B w).setCell (p := ⟨pb, 1, none⟩) h.base _), h.low, h.base, h.long, by simp only [PS.next]; omega, h.ct, h.op⟩
theorem Pst0.token (h : Pst0 w B pb A cp l s ov nv av) : Calls Try.prog 28 #[.pointer (some ⟨pb, 0, none⟩)] w (Ans w (.agg (tkC (tkAt l s.read)))) :=
  token_any l A cp s.read ov nv av _ pb w h.blk h.row (Nat.le_trans h.long (by decide)) (Nat.le_trans h.rd (by decide))
theorem Pst0.fault (h : Pst0 w B pb A cp l s ov nv av) {e p : Int} (hf : faultP l s = .bad e p) : Calls Try.prog 30 #[.pointer (some ⟨pb, 0, none⟩)] w (Ans w (ftV e p)) := by
  obtain ⟨O, oc, hv, hi⟩ := h.opn.row
  have hb := h.blk
  rw [hv] at hb
  exact fault_any l A O cp oc s nv av _ pb w hb h.row hi (Nat.le_trans h.long (by decide)) (Nat.le_trans h.rd (by decide)) (Nat.le_trans h.op (by decide)) e p hf
end
theorem fault_some (l : List Tk) (s : PS) : ∃ e p, faultP l s = .bad e p := by
  unfold faultP; split <;> exact ⟨_, _, rfl⟩
/-- Below a base nothing turns; and no box of a fault does. -/
structure Fr (B : Nat) (w w' : World) : Prop where
  bel : Below B w w'
  typ : ∀ b vs, Blk w b vs 52 → Blk w' b vs 52
section
variable {a w w' : World} {B pb : Nat} {A : Option Addr} {cp : Nat} {l : List Tk} {s : PS} {ov nv av : Value}
theorem Fr.of (h : Below w.heap.size w w') (hB : B ≤ w.heap.size) : Fr B w w' := ⟨h.mono hB, fun b vs hb => hb.later h⟩
theorem Fr.trans {u : World} (h : Fr B a w) (k : Fr B w u) : Fr B a u := ⟨h.bel.trans k.bel, fun b vs hb => k.typ b vs (h.typ b vs hb)⟩
theorem Fr.alloc (h : Fr B a w) (hB : B ≤ w.heap.size) (o : Obj) : Fr B a (w.alloc o) := ⟨h.bel.alloc hB o, fun b vs hb => (h.typ b vs hb).alloc o⟩
theorem Fr.setB {g : Nat} {vs : Array Value} {t : TypeId} (h : Fr B a w) (hg : Blk w g vs t) (ht : t ≠ 52) (hB : B ≤ g) (o : Nat) (v : Value) : Fr B a (w.setCell ⟨g, o, none⟩ v) :=
  ⟨h.bel.setCell (p := ⟨g, o, none⟩) hB v, fun b us hb => (h.typ b us hb).setCell_ne (a := ⟨g, o, none⟩) (Blk.typed2 hg (h.typ b us hb) ht) v⟩
theorem Fr.setP0 (h : Fr B a w) (hP : Pst0 w B pb A cp l s ov nv av) (o : Nat) (v : Value) : Fr B a (w.setCell ⟨pb, o, none⟩ v) := h.setB hP.blk (by decide) hP.base o v
theorem Fr.setP (h : Fr B a w) (hP : Pst w B pb A cp l s) (o : Nat) (v : Value) : Fr B a (w.setCell ⟨pb, o, none⟩ v) := by obtain ⟨o1, o2, o3, h0⟩ := hP; exact h.setP0 h0 o v
/-- A row of its own grows, whose type is no fault's. -/
theorem Fr.row {base size n : Nat} {e : TypeId} {v : Value} {xs : List Value} (h : Fr B a w) (hr : w.ownsRow base e size v n xs) (hb : B ≤ base) (he : e ≠ 52) (hB : B ≤ w.heap.size) (hg : w.grownBy w' v.ownBlock) : Fr B a w' :=
  ⟨h.bel.grown hg hB fun k hk => Nat.le_trans hb (World.ownsRow.lt hr k hk).1, fun b us hk => by
    have h1 := h.typ b us hk
    refine (hg.block b h1.lt (fun e2 => ?_)).trans h1
    exact own_typed hr h1 he b e2.symm rfl⟩
theorem fr9 (h : Fr B a w) {g : Nat} {c0 c1 c2 c3 c4 c5 c6 c7 c8 : Value} (hg : Blk w g #[c0, c1, c2, c3, c4, c5, c6, c7, c8] 36) (hB : B ≤ g) (v0 v1 v2 v3 v4 v5 v6 v7 v8 : Value) :
    Fr B a (((((((((w.setCell ⟨g, 0, none⟩ v0).setCell ⟨g, 1, none⟩ v1).setCell ⟨g, 2, none⟩ v2).setCell ⟨g, 3, none⟩ v3).setCell ⟨g, 4, none⟩ v4).setCell ⟨g, 5, none⟩ v5).setCell ⟨g, 6, none⟩ v6).setCell ⟨g, 7, none⟩ v7).setCell ⟨g, 8, none⟩ v8) := by
  have ht : 36 ≠ 52 := by decide
  have g1 := hg.setCell 0 v0
  have g2 := g1.setCell 1 v1
  have g3 := g2.setCell 2 v2
  have g4 := g3.setCell 3 v3
  have g5 := g4.setCell 4 v4
  have g6 := g5.setCell 5 v5
  have g7 := g6.setCell 6 v6
  have g8 := g7.setCell 7 v7
  exact ((((((((h.setB hg ht hB 0 v0).setB g1 ht hB 1 v1).setB g2 ht hB 2 v2).setB g3 ht hB 3 v3).setB g4 ht hB 4 v4).setB g5 ht hB 5 v5).setB g6 ht hB 6 v6).setB g7 ht hB 7 v7).setB g8 ht hB 8 v8
end
/-- How a call of the parser ends. -/
def ftE (e p : Int) : Ending := .panicked [{ v := .iface 52 (ftV e p), recovered := false }]
def RunPost (B pb : Nat) (A : Option Addr) (cp : Nat) (l : List Tk) (w : World) (r : PR) (e : Ending) (w' : World) : Prop := match r with
  | .ok k t => e = .returned (.int .i64 k) ∧ Pst w' B pb A cp l t ∧ Fr B w w'
  | .bad er p => e = ftE er p ∧ Fr B w w'
  | .out => False
end Go.Proofs.Ytencdlcpnbdlbaa
/- The parser's want: walked. -/
namespace Go.Proofs.Ytencdlcpnbdlbaa
open Go Go.RowKit
set_option linter.unusedVariables false
set_option linter.unusedSimpArgs false

/-- A token's box is stored to whole. -/
theorem Pst0.box9 {w : World} {B pb : Nat} {A : Option Addr} {cp : Nat} {l : List Tk} {s : PS} {ov nv av : Value} (h : Pst0 w B pb A cp l s ov nv av) {g : Nat} {c0 c1 c2 c3 c4 c5 c6 c7 c8 : Value} (hg : Blk w g #[c0, c1, c2, c3, c4, c5, c6, c7, c8] 36) (hB : B ≤ g) (v0 v1 v2 v3 v4 v5 v6 v7 v8 : Value) :
    Pst0 (((((((((w.setCell ⟨g, 0, none⟩ v0).setCell ⟨g, 1, none⟩ v1).setCell ⟨g, 2, none⟩ v2).setCell ⟨g, 3, none⟩ v3).setCell ⟨g, 4, none⟩ v4).setCell ⟨g, 5, none⟩ v5).setCell ⟨g, 6, none⟩ v6).setCell ⟨g, 7, none⟩ v7).setCell ⟨g, 8, none⟩ v8) B pb A cp l s ov nv av := by
  have n1 : 36 ≠ 50 := by decide
  have n2 : 36 ≠ 3 := by decide
  have n3 : 36 ≠ 39 := by decide
  have g1 := hg.setCell 0 v0
  have g2 := g1.setCell 1 v1
  have g3 := g2.setCell 2 v2
  have g4 := g3.setCell 3 v3
  have g5 := g4.setCell 4 v4
  have g6 := g5.setCell 5 v5
  have g7 := g6.setCell 6 v6
  have g8 := g7.setCell 7 v7
  exact ((((((((h.box hg n1 n2 n3 hB 0 v0).box g1 n1 n2 n3 hB 1 v1).box g2 n1 n2 n3 hB 2 v2).box g3 n1 n2 n3 hB 3 v3).box g4 n1 n2 n3 hB 4 v4).box g5 n1 n2 n3 hB 5 v5).box g6 n1 n2 n3 hB 6 v6).box g7 n1 n2 n3 hB 7 v7).box g8 n1 n2 n3 hB 8 v8
section
variable {w : World} {B pb : Nat} {A : Option Addr} {cp : Nat} {l : List Tk} {s : PS} {ov nv av : Value}
set_option maxHeartbeats 4000000 in
set_option maxRecDepth 100000 in
theorem want_bad (hP : Pst0 w B pb A cp l s ov nv av) {k e p : Int} (hk : (tkAt l s.read).kind ≠ k) (hf : faultP l s = .bad e p) :
    Calls Try.prog 24 #[.pointer (some ⟨pb, 0, none⟩), .int .i64 k] w (fun e' w' => e' = ftE e p ∧ Below w.heap.size w w') := by
  have HF := Lib.hid hf
  clear hf
  have HP1 : Hid (Pst0 (w.alloc (.cells z9 36)) B pb A cp l s ov nv av) := hP.later ((Below.refl _ _).alloc (Nat.le_refl _) _)
  have HB1 := Lib.hid ((Below.refl w.heap.size w).alloc (Nat.le_refl _) (.cells z9 36))
  have HX1 := Lib.hid (Blk.new w z9 36)
  have hlt0 := hP.blk.lt
  have hBw : B ≤ w.heap.size := Nat.le_of_lt (Nat.lt_of_le_of_lt hP.base hlt0)
  clear hP
  unfold z9 at HP1 HB1 HX1
  go_enter Try.func24, Try.ntmps24
  go_upto_region 1 with (fail)
  generalize w.alloc (.cells #[.int .i64 0, .int .i64 0, .int .u64 0, .int .u64 0, .int .u64 0, .int .u64 0, .string ⟨#[]⟩, .int .i64 0, .int .i64 0] 36) = w1 at *
  go_wp2_with fail
  refine (HP1.out.token).mono ?_; rintro e1 w2 ⟨rfl, hb2⟩
  have HP2 := Lib.hid (HP1.out.later hb2)
  have HX2 := Lib.hid (HX1.out.later hb2)
  have HB2 := Lib.hid (HB1.out.trans (hb2.mono HB1.out.size))
  clear hb2 HP1 HX1 HB1
  generalize hx : tkAt l s.read = x at *
  have HXE := Lib.hid hx
  clear hx
  have hk9 := Lib.hid (Blk.new w2 (tkC x) 36)
  have hb9 := Lib.hid ((Below.refl w2.heap.size w2).alloc (Nat.le_refl _) (.cells (tkC x) 36))
  unfold tkC at *
  go_upto_region 2 with (fail)
  generalize w2.alloc (.cells #[.int .i64 x.kind, .int .i64 x.at_, .int .u64 (wd x.cls 0), .int .u64 (wd x.cls 1), .int .u64 (wd x.cls 2), .int .u64 (wd x.cls 3), .string (bs x.text), .int .i64 x.lo, .int .i64 x.hi] 36) = w3 at *
  have HP3 := Lib.hid (HP2.out.later hb9.out)
  have HX3 := Lib.hid (HX2.out.later hb9.out)
  have HB3 := Lib.hid (HB2.out.trans (hb9.out.mono HB2.out.size))

  clear HP2 HX2 HB2 hb9
  generalize w2.heap.size = tb at *

  obtain ⟨t0, -, -, -, -, -, -, -, -⟩ := nine_cells hk9.out
  clear hk9
  have hn : (x.kind != k) = true := by rw [bne_iff_ne]; exact hk
  go_wp2_with fail
  refine (HP3.out.fault HF.out).mono ?_; rintro e2 w4 ⟨rfl, hb4⟩
  have HB4 := Lib.hid (HB3.out.trans (hb4.mono HB3.out.size))
  clear hb4
  go_wp2
  exact ⟨rfl, rfl, HB4.out⟩
set_option maxHeartbeats 4000000 in
set_option maxRecDepth 100000 in
theorem want_ok (hP : Pst0 w B pb A cp l s ov nv av) {k : Int} (hk : (tkAt l s.read).kind = k) (hr : s.read < 1048576) :
    Calls Try.prog 24 #[.pointer (some ⟨pb, 0, none⟩), .int .i64 k] w (fun e' w' => e' = .returned (.agg (tkC (tkAt l s.read))) ∧ Pst0 w' B pb A cp l s.next ov nv av ∧ Fr B w w') := by
  have HKK := Lib.hid hk
  clear hk
  have HP1 : Hid (Pst0 (w.alloc (.cells z9 36)) B pb A cp l s ov nv av) := hP.later ((Below.refl _ _).alloc (Nat.le_refl _) _)
  have HB1 := Lib.hid ((Below.refl w.heap.size w).alloc (Nat.le_refl _) (.cells z9 36))
  have HX1 := Lib.hid (Blk.new w z9 36)
  have hlt0 := hP.blk.lt
  have hBw : B ≤ w.heap.size := Nat.le_of_lt (Nat.lt_of_le_of_lt hP.base hlt0)
  clear hP
  unfold z9 at HP1 HB1 HX1
  go_enter Try.func24, Try.ntmps24
  go_upto_region 1 with (fail)
  generalize w.alloc (.cells #[.int .i64 0, .int .i64 0, .int .u64 0, .int .u64 0, .int .u64 0, .int .u64 0, .string ⟨#[]⟩, .int .i64 0, .int .i64 0] 36) = w1 at *
  go_wp2_with fail
  refine (HP1.out.token).mono ?_; rintro e1 w2 ⟨rfl, hb2⟩
  have HP2 := Lib.hid (HP1.out.later hb2)
  have HX2 := Lib.hid (HX1.out.later hb2)
  have HB2 := Lib.hid (HB1.out.trans (hb2.mono HB1.out.size))
  clear hb2 HP1 HX1 HB1
  generalize hx : tkAt l s.read = x at *
  have HXE := Lib.hid hx
  clear hx
  have hk9 := Lib.hid (Blk.new w2 (tkC x) 36)
  have hb9 := Lib.hid ((Below.refl w2.heap.size w2).alloc (Nat.le_refl _) (.cells (tkC x) 36))
  unfold tkC at *
  go_upto_region 2 with (fail)
  generalize w2.alloc (.cells #[.int .i64 x.kind, .int .i64 x.at_, .int .u64 (wd x.cls 0), .int .u64 (wd x.cls 1), .int .u64 (wd x.cls 2), .int .u64 (wd x.cls 3), .string (bs x.text), .int .i64 x.lo, .int .i64 x.hi] 36) = w3 at *
  have HP3 := Lib.hid (HP2.out.later hb9.out)
  have HX3 := Lib.hid (HX2.out.later hb9.out)
  have HB3 := Lib.hid (HB2.out.trans (hb9.out.mono HB2.out.size))

  clear HP2 HX2 HB2 hb9
  generalize w2.heap.size = tb at *
  have hn : (x.kind != k) = false := by rw [HKK.out]; simp
  obtain ⟨t0, -, -, -, -, -, -, -, -⟩ := nine_cells hk9.out
  have c1 := HP3.out.blk.cell 1
  simp at c1
  have fz := HP3.out.blk.frozen
  have hrz : (s.read : Int) < 1048576 := by omega
  have hw : wrap64 ((s.read : Int) + 1) = (s.read : Int) + 1 := by unfold wrap64; omega
  have HP4 := Lib.hid (HP3.out.next hr)
  have HB4 := Lib.hid ((Fr.of HB3.out hBw).setP0 HP3.out 1 (.int .i64 ((s.read : Int) + 1)))
  have HX4 := Lib.hid (HX3.out.setCell_ne (a := ⟨pb, 1, none⟩) (Blk.typed2 HP3.out.blk HX3.out (by decide)) (.int .i64 ((s.read : Int) + 1)))
  have HK4 := Lib.hid (hk9.out.setCell_ne (a := ⟨pb, 1, none⟩) (Blk.typed2 HP3.out.blk hk9.out (by decide)) (.int .i64 ((s.read : Int) + 1)))
  clear HP3 HX3 HB3 
  go_upto_region 5 with (fail)
  generalize w3.setCell ⟨pb, 1, none⟩ (.int .i64 ((s.read : Int) + 1)) = w4 at *
  clear t0 c1 fz hw hk9
  obtain ⟨t0, t1, t2, t3, t4, t5, t6, t7, t8⟩ := nine_cells HK4.out
  obtain ⟨m0, m1, m2, m3, m4, m5, m6, m7, m8⟩ := nine_cells HX4.out
  obtain ⟨n0, n1, n2, n3, n4, n5, n6, n7, n8⟩ := nine HX4.out
  have nf := HX4.out.frozen
  have HPE := Lib.hid (HP4.out.box9 HX4.out hBw (.int .i64 x.kind) (.int .i64 x.at_) (.int .u64 (wd x.cls 0)) (.int .u64 (wd x.cls 1)) (.int .u64 (wd x.cls 2)) (.int .u64 (wd x.cls 3)) (.string (bs x.text)) (.int .i64 x.lo) (.int .i64 x.hi))
  have HBE := Lib.hid (fr9 HB4.out HX4.out hBw (.int .i64 x.kind) (.int .i64 x.at_) (.int .u64 (wd x.cls 0)) (.int .u64 (wd x.cls 1)) (.int .u64 (wd x.cls 2)) (.int .u64 (wd x.cls 3)) (.string (bs x.text)) (.int .i64 x.lo) (.int .i64 x.hi))
  have hbk := Lib.hid (nine_cells (nine_blk HX4.out (.int .i64 x.kind) (.int .i64 x.at_) (.int .u64 (wd x.cls 0)) (.int .u64 (wd x.cls 1)) (.int .u64 (wd x.cls 2)) (.int .u64 (wd x.cls 3)) (.string (bs x.text)) (.int .i64 x.lo) (.int .i64 x.hi)))
  clear HP4 HX4 HB4 HK4
  go_wp2
  obtain ⟨r0, r1, r2, r3, r4, r5, r6, r7, r8⟩ := hbk.out
  exact bodyPost_ret (v := .agg #[.int .i64 x.kind, .int .i64 x.at_, .int .u64 (wd x.cls 0), .int .u64 (wd x.cls 1), .int .u64 (wd x.cls 2), .int .u64 (wd x.cls 3), .string (bs x.text), .int .i64 x.lo, .int .i64 x.hi]) (by simp [results, Try.results24, go_sem, r0, r1, r2, r3, r4, r5, r6, r7, r8]) rfl ⟨by rw [HXE.out]; rfl, HPE.out, HBE.out⟩
end
end Go.Proofs.Ytencdlcpnbdlbaa
/- An append of a node to a row of its own: where it stands, and the row that was there. -/
namespace Go.Proofs.Ytencdlcpnbdlbaa
open Go Go.RowKit
set_option linter.unusedVariables false

theorem nd_one (t : Nd) : ∀ u ∈ flat10 [t], u.oneCell' = true := flat10_ones [t]
theorem nd_news {w : World} {b : Nat} {t : Nd} (hnew : Blk w b (ndC t) 39) : ∀ (j : Nat) (u : Value), (flat10 [t])[j]? = some u → w.cell? ((⟨b, 0, none⟩ : Addr).add j) = some u := by
  intro j u hu
  have hadd : (⟨b, 0, none⟩ : Addr).add j = ⟨b, j, none⟩ := by unfold Addr.add; split <;> simp_all
  have hf1 : flat10 [t] = (ndC t).toList := by simp [flat10]
  rw [hf1] at hu
  rw [hadd, hnew.cell, ← hu]; simp
set_option maxRecDepth 100000 in
theorem wp_append_nd2 {w : World} {o : Oper} {a : Act} {K : Act → World → Prop} {Q : Exit → Act → World → Prop} (s x : Operand)
    (ho : o.op = .call { callee := .builtin .append, args := #[s, x], argTypes := #[25, 25] })
    (base : Nat) (v : Value) (l : List Nd) (hs : a.eval s = v) (hown : OwnN w base v l)
    (b : Nat) (t : Nd) (hx : a.eval x = .slice (some ⟨b, 0, none⟩) 1 1) (hnew : Blk w b (ndC t) 39) (hlen : l.length < 1073741824) (hbase : base ≤ w.heap.size)
    (h : ∀ v' w', OwnN w' base v' (l ++ [t]) → w.grownBy w' v.ownBlock → (v'.ownBlock = v.ownBlock ∨ ∃ g', v'.ownBlock = some g' ∧ w.heap.size ≤ g') → OwnN w' base v l → (∀ u, OwnN w base u (l ++ [t]) → OwnN w' base u (l ++ [t])) → K (a.put o.dst v') w') : o.wp Try.prog a w K Q := by
  obtain ⟨ib, hib, hz0, hz1, hz2⟩ := info_parts infoNd
  have hnews := nd_news hnew
  have hone := nd_one t
  obtain ⟨v', w', hr, h2, h3, _⟩ := run_append_own (P := Try.prog) w base 25 o.type 39 ib _ 10 88 Try.underlying25 hib hz0 hz1 hz2 rfl (by decide) v l.length (flat10 l) hown ⟨b, 0, none⟩ 1 1 (flat10 [t]) rfl hnews hone (by unfold maxLen; omega) (by omega) hbase
  have h2' : OwnN w' base v' (l ++ [t]) := by unfold OwnN; rw [List.length_append, flat10_append]; exact h2
  have place : (v'.ownBlock = v.ownBlock ∨ ∃ g', v'.ownBlock = some g' ∧ w.heap.size ≤ g') ∧ OwnN w' base v l ∧ (∀ u, OwnN w base u (l ++ [t]) → OwnN w' base u (l ++ [t])) := by
    rcases hown.2 with ⟨rfl, hn⟩ | ⟨g', cap, cur, rfl, hbg, hgg, hnc, hcm, hcs, htake⟩
    · have hl0 : l = [] := List.length_eq_zero_iff.1 hn
      subst hl0
      obtain ⟨v2, w2, hr2, h4, _, _⟩ := run_append_own (P := Try.prog) w w.heap.size 25 o.type 39 ib _ 10 88 Try.underlying25 hib hz0 hz1 hz2 rfl (by decide) (.slice none 0 0) 0 [] ⟨rfl, .inl ⟨rfl, rfl⟩⟩ ⟨b, 0, none⟩ 1 1 (flat10 [t]) rfl hnews hone (by unfold maxLen; omega) (by omega) (Nat.le_refl _)
      rw [hr] at hr2
      simp only [Result.ok.injEq] at hr2
      obtain ⟨rfl, rfl⟩ := hr2
      refine ⟨?_, OwnN.nil _ _, fun u hu => World.ownsRow.kept hu h3 (by cases hh : u.ownBlock <;> simp [Value.ownBlock])⟩
      rcases h4.2 with ⟨_, h5⟩ | ⟨g2, cap2, cur2, hv, hb2, _⟩
      · omega
      · exact .inr ⟨g2, by rw [hv]; rfl, hb2⟩
    · by_cases hroom : l.length + 1 ≤ cap
      · have hr2 := run_append_room (P := Try.prog) w 25 o.type 39 ib Try.underlying25 hib g' l.length cap cur hgg ⟨b, 0, none⟩ 1 1 (flat10 [t]) (by rw [hz1]; rfl) hnews hone hroom (by rw [hz1, hcs]; simp [flat10_length]; omega)
        rw [hr] at hr2
        simp only [Result.ok.injEq] at hr2
        refine ⟨.inl (by rw [hr2.1]; rfl), ?_⟩
        have hv := hr2.1
        have hown2 := h2'
        obtain ⟨q0, ⟨q1, _⟩ | ⟨g2, cap2, cur2, q1, q2, q3, q4, q5, q6, q7⟩⟩ := h2'
        · rw [hv] at q1; cases q1
        · rw [hv] at q1
          simp only [Value.slice.injEq, Option.some.injEq, Addr.mk.injEq, and_true] at q1
          obtain ⟨rfl, q8, rfl⟩ := q1
          refine ⟨⟨by rw [flat10_length], .inr ⟨g', cap, cur2, rfl, hbg, q3, hnc, hcm, q6, ?_⟩⟩, fun u hu => ?_⟩
          case refine_2 =>
            by_cases hgu : u.ownBlock = some g'
            · obtain ⟨u0, ⟨u1, _⟩ | ⟨g3, cap3, cur3, u1, u2, u3, u4, u5, u6, u7⟩⟩ := hu
              · rw [u1] at hgu; cases hgu
              · rw [u1] at hgu
                have e3 : g3 = g' := by simpa [Value.ownBlock] using hgu
                subst e3
                have e4 := u3.symm.trans hgg
                simp only [Option.some.injEq, Obj.cells.injEq, and_true] at e4
                have e5 : cap3 = cap := by rw [e4] at u6; omega
                rw [u1, e5, ← q8, ← hv]; exact hown2
            · exact World.ownsRow.kept hu h3 (by right; exact hgu)
          have e : cur2.toList.take (l.length * 10) = (cur2.toList.take ((l ++ [t]).length * 10)).take (l.length * 10) := by rw [List.take_take]; congr 1; simp
          rw [e, q7, flat10_append]
          rw [List.take_append_of_le_length (by rw [flat10_length]; omega), ← flat10_length, List.take_length]
      · have holds := World.ownsRow.cells (w := w) (base := base) (e := 39) (size := 10) (v := .slice (some ⟨g', 0, none⟩) l.length cap) (n := l.length) (xs := flat10 l) hown (g := g') rfl
        have hr2 := run_append_grow (P := Try.prog) w 25 o.type 39 ib _ Try.underlying25 hib hz0 ⟨g', 0, none⟩ l.length cap (flat10 l) (by rw [hz1]; exact flat10_length l) holds ⟨b, 0, none⟩ 1 1 (flat10 [t]) (by rw [hz1]; rfl) hnews (by omega) (by omega) (by rw [hz2]; exact growslice_fits (by omega) (by omega))
        rw [hr] at hr2
        simp only [Result.ok.injEq] at hr2
        refine ⟨.inr ⟨w.heap.size, by rw [hr2.1]; rfl, Nat.le_refl _⟩, ?_⟩
        have hb : Below w.heap.size w w' := by rw [hr2.2]; exact ((Below.refl _ w).drew).alloc (Nat.le_refl _) _
        exact ⟨hown.later hb, fun u hu => hu.later hb⟩
  unfold Oper.wp execOp
  simp only [ho, resolve, invoke, builtin, Sem.run_bind, Sem.run_pure, Result.andThen_ok, List.map_toArray, List.map_cons, List.map_nil, hs, hx, hr]
  exact h v' w' h2' h3 place.1 place.2.1 place.2.2
end Go.Proofs.Ytencdlcpnbdlbaa
/- Leaf, Wrap, Pair: walked. -/
namespace Go.Proofs.Ytencdlcpnbdlbaa
open Go Go.RowKit
set_option linter.unusedVariables false
set_option linter.unusedSimpArgs false

theorem NRow.ofBlk {w : World} {b : Nat} {n : Nd} (h : Blk w b (ndC n) 39) : NRow w (some ⟨b, 0, none⟩) [n] := fun i hi => by
  obtain rfl : i = 0 := by simpa using hi
  refine ⟨b, 0, rfl, h.lt, fun j hj => ?_⟩
  rw [Nat.zero_mul, Nat.zero_add, h.cell]; rfl
set_option maxHeartbeats 8000000 in
set_option maxRecDepth 100000 in
theorem leaf_any (n : Nd) (hm : MvOk 0 n) (w : World) : Calls Try.prog 50 #[.agg (ndC n)] w (DPost w [n]) := by
  have HMV : Hid (mvN 0 n = n) := mvN_zero n
  have HM := Lib.hid hm
  have hb := ((Below.refl w.heap.size w).alloc (Nat.le_refl _) (.cells (ndC n) 39)).alloc (by simp) (.cells #[.slice none 0 0] 27)
  have HB := Lib.hid hb
  have HN : Hid (Blk ((w.alloc (.cells (ndC n) 39)).alloc (.cells #[.slice none 0 0] 27)) w.heap.size (ndC n) 39) := (Blk.new w _ _).alloc _
  have HR : Hid (Blk ((w.alloc (.cells (ndC n) 39)).alloc (.cells #[.slice none 0 0] 27)) (w.heap.size + 1) #[.slice none 0 0] 27) := by
    unfold Hid
    have := Blk.new (w.alloc (.cells (ndC n) 39)) #[.slice none 0 0] 27
    simpa using this
  clear hm hb
  unfold ndC at HB HN HR ⊢
  go_enter Try.func50, Try.ntmps50
  go_upto_region 1 with (fail)
  generalize (w.alloc (.cells #[.int .i64 n.kind, .int .i64 n.a, .int .i64 n.b, .int .i64 n.lo, .int .i64 n.hi, .int .u64 (wd n.cls 0), .int .u64 (wd n.cls 1), .int .u64 (wd n.cls 2), .int .u64 (wd n.cls 3), .string (bs n.text)] 39)).alloc (.cells #[.slice none 0 0] 27) = w1 at *
  obtain ⟨g0, g1, g2, g3, g4, g5, g6, g7, g8, g9⟩ := ten_cells HN.out
  have HB2 := Lib.hid ((Below.refl w1.heap.size w1).alloc (Nat.le_refl _) (.cells (ndC n) 39))
  have HN2 := Lib.hid (NRow.ofBlk (Blk.new w1 (ndC n) 39))
  have hlow : w.heap.size + 1 < w1.heap.size := HR.out.lt
  have LC : Hid (Calls Try.prog 52 #[.slice none 0 0, .slice (some ⟨w1.heap.size, 0, none⟩) 1 1, .int .i64 0] (w1.alloc (.cells (ndC n) 39)) (LaidPost (w1.alloc (.cells (ndC n) 39)) (w1.alloc (.cells (ndC n) 39)).heap.size [n])) := by
    have h := laid_any [] [n] 0 (.slice none 0 0) (some ⟨w1.heap.size, 0, none⟩) 1 (w1.alloc (.cells (ndC n) 39)).heap.size _ (OwnN.nil _ _) HN2.out (fun b o e => by cases e; simp) (Nat.le_refl _) (by simp) (fun x hx => by simp at hx; subst hx; exact HM.out)
    unfold Hid
    rw [List.nil_append, List.map_cons, List.map_nil, HMV.out] at h
    exact h
  unfold ndC at HB2 HN2 LC
  go_wp2_with fail
  refine LC.out.mono ?_; intro e w4 hp; obtain ⟨s, rfl, ho, hb4⟩ := hp
  obtain ⟨A2, c2, rfl, -⟩ := ho.row
  have HO := Lib.hid ho
  have hb5 := hb4.trans ((Below.refl _ _))
  have HR4 := Lib.hid ((HR.out.later HB2.out).later hb4)
  have HB4 := Lib.hid ((HB.out.trans (HB2.out.mono HB.out.size)).trans (hb4.mono (by simp; omega)))
  clear hb4 hb5 ho LC g0 g1 g2 g3 g4 g5 g6 g7 g8 g9
  have r0 := HR4.out.cell 0
  simp at r0
  have rf := HR4.out.frozen
  have s0 := HR4.out.put10 (o := 0) (by simp)
  go_wp2
  exact bodyPost_ret (v := .agg #[.slice A2 1 c2]) (by simp [results, Try.results50, go_sem, s0]) rfl ⟨_, rfl, (HO.out.setCell_ne (a := ⟨w.heap.size + 1, 0, none⟩) (by simp; omega) _).weaken (by simp; omega), HB4.out.setCell (p := ⟨w.heap.size + 1, 0, none⟩) (Nat.le_succ _) _⟩
/-- A row at the head of a block of its own. -/
def ownP (g cap : Nat) (L : List Nd) (w : World) : Prop := OwnN w g (.slice (some ⟨g, 0, none⟩) L.length cap) L
theorem ownP.later {g cap : Nat} {L : List Nd} {w w' : World} (h : ownP g cap L w) (hb : Below w.heap.size w w') : ownP g cap L w' := OwnN.later h hb
theorem ownP.front {g cap : Nat} {L X : List Nd} {w : World} (h : ownP g cap (L ++ X) w) : ownP g cap L w := by
  obtain ⟨h0, ⟨hv, hn⟩ | ⟨g', cap', cur, hv, hb, hg, hc, hm, hs, ht⟩⟩ := h
  · cases hv
  · cases hv
    refine ⟨flat10_length L, .inr ⟨g, cap, cur, rfl, hb, hg, ?_, hm, hs, ?_⟩⟩
    · rw [List.length_append] at hc; omega
    · rw [List.length_append, flat10_append] at ht
      have h2 : List.take (L.length * 10) (flat10 L ++ flat10 X) = flat10 L := by rw [List.take_append_of_le_length (by rw [flat10_length]; omega), List.take_of_length_le (by rw [flat10_length]; omega)]
      have := congrArg (List.take (L.length * 10)) ht
      rw [List.take_take, Nat.min_eq_left (by omega), h2] at this
      exact this
theorem ownP.lt {g cap : Nat} {L : List Nd} {w : World} (h : ownP g cap L w) : g < w.heap.size := by
  obtain ⟨h0, ⟨hv, hn⟩ | ⟨g', cap', cur, hv, hb, hg, hr⟩⟩ := h
  · cases hv
  · cases hv
    exact Blk.lt (w := w) (b := g) (vs := cur) (t := 39) hg
/-- How worlds go on where one row is written: what is owned before stays owned, and so does what is owned behind. -/
def RW (g cap : Nat) (L0 L1 : List Nd) (w w' : World) : Prop := w.grownBy w' (some g) ∧ (ownP g cap L0 w → ownP g cap L0 w') ∧ (ownP g cap L1 w → ownP g cap L1 w')
theorem RW.of {g cap : Nat} {L0 L1 : List Nd} (w w' : World) (hb : Below w.heap.size w w') : RW g cap L0 L1 w w' := ⟨gb_of hb, fun h => h.later hb, fun h => h.later hb⟩
theorem Blk.grow {w w' : World} {b g : Nat} {vs : Array Value} {t : TypeId} (h : Blk w b vs t) (hne : b ≠ g) (hg : w.grownBy w' (some g)) : Blk w' b vs t := (hg.block b h.lt (fun e => hne (Option.some.inj e))).trans h
structure WrS (w0 : World) (g cap : Nat) (L0 : List Nd) (A : Option Addr) (m : List Nd) (c bd br bw : Nat) (wh : Nd) (w : World) : Prop where
  bel : Below w0.heap.size w0 w
  row : NRow w A m
  box : Blk w bd #[.slice A m.length c] 27
  res : Blk w br #[.slice none 0 0] 27
  who : Blk w bw (ndC wh) 39
  own : ownP g cap L0 w
structure WrN (w0 : World) (g : Nat) (A : Option Addr) (bd br bw : Nat) : Prop where
  low : w0.heap.size ≤ g
  a : ∀ b o, A = some ⟨b, o, none⟩ → b ≠ g
  d : bd ≠ g
  r : br < g
  w : bw ≠ g
theorem WrS.grow {w0 w w' : World} {g cap : Nat} {L0 L1 : List Nd} {A : Option Addr} {m : List Nd} {c bd br bw : Nat} {wh : Nd} (hn : WrN w0 g A bd br bw) (h : WrS w0 g cap L0 A m c bd br bw wh w) (hr : RW g cap L0 L1 w w') : WrS w0 g cap L0 A m c bd br bw wh w' :=
  ⟨h.bel.trans ⟨hr.1.os, hr.1.tape, hr.1.output, hr.1.size, fun k hk => hr.1.block k (Nat.lt_of_lt_of_le hk h.bel.size) (fun e => by have h1 := Option.some.inj e; have h2 := hn.low; omega)⟩, h.row.gb hn.a hr.1, h.box.grow hn.d hr.1, h.res.grow (by have := hn.r; omega) hr.1, h.who.grow hn.w hr.1, hr.2.1 h.own⟩
/-- A new row of one node. -/
def NewN (g : Nat) (wh : Nd) (v : Value) (w : World) : Prop := ∃ b, v = .slice (some ⟨b, 0, none⟩) 1 1 ∧ Blk w b (ndC wh) 39 ∧ b ≠ g
theorem NewN.grow {g cap : Nat} {L0 L1 : List Nd} (wh : Nd) (v : Value) (w w' : World) (h : NewN g wh v w) (hr : RW g cap L0 L1 w w') : NewN g wh v w' := by
  obtain ⟨b, h1, h2, h3⟩ := h
  exact ⟨b, h1, h2.grow h3 hr.1, h3⟩
/-- The row behind the call. -/
def LaidV (g cap : Nat) (L1 : List Nd) (v : Value) (w : World) : Prop := v = .slice (some ⟨g, 0, none⟩) L1.length cap ∧ ownP g cap L1 w
theorem LaidV.grow {g cap : Nat} {L0 : List Nd} (L1 : List Nd) (v : Value) (w w' : World) (h : LaidV g cap L1 v w) (hr : RW g cap L0 L1 w w') : LaidV g cap L1 v w' := ⟨h.1, hr.2.2 h.2⟩
theorem wpList_make_nd {w : World} {ops : Array Oper} {rest : List Oper} {o : Oper} {a : Act} {Q : Exit → Act → World → Prop} (hgd : o.guard = none) (l c : Operand) (hop : o.op = Op.makeSlice 25 l c)
    (C : Int) (n : Nat) (hl : a.eval l = .int .i64 0) (hc : a.eval c = .int .i64 C) (hC : C = (n : Int)) (hn : n ≤ 1073741824)
    (hK : ∀ w', ownP w.heap.size n [] w' → Below w.heap.size w w' → wpList Try.prog ops Q rest (a.put o.dst (.slice (some ⟨w.heap.size, 0, none⟩) 0 n)) w') : wpList Try.prog ops Q (o :: rest) a w := by
  obtain ⟨ib, hib, hz0, hz1, hz2⟩ := info_parts infoNd
  exact wpList_make_own w hgd l c 25 hop w.heap.size 39 ib _ 10 Try.underlying25 hib hz0 hz1 .i64 .i64 C n hl hc hC (by rw [hz2]; omega) (by unfold maxLen; omega) (Nat.le_refl _)
    fun w' h1 h2 => hK w' h1 ⟨h2.os, h2.tape, h2.output, h2.size, fun k hk => h2.block k hk (by simp)⟩
theorem laid_wr {w0 : World} {g cap : Nat} {L0 : List Nd} {A : Option Addr} {m : List Nd} {c bd br bw : Nat} {wh : Nd} (hn : WrN w0 g A bd br bw) (d : Int) (hroom : L0.length + m.length ≤ cap) (hlen : L0.length + m.length < 1073741824) (hok : ∀ n ∈ m, MvOk d n)
    {w : World} (h : WrS w0 g cap L0 A m c bd br bw wh w) : Calls Try.prog 52 #[.slice (some ⟨g, 0, none⟩) L0.length cap, .slice A m.length c, .int .i64 d] w
      (fun e w' => ∃ v, e = .returned v ∧ LaidV g cap (L0 ++ m.map (mvN d)) v w' ∧ RW g cap L0 (L0 ++ m.map (mvN d)) w w') :=
  (laid_fits L0 m d g cap A c w h.own h.row hn.a hroom hlen hok).mono fun e w' hp => by
    obtain ⟨h1, h2, h3⟩ := hp
    exact ⟨_, h1, ⟨rfl, h2⟩, h3, fun _ => ownP.front h2, fun _ => h2⟩
theorem wp_make_nd {w : World} {o : Oper} {a : Act} {K : Act → World → Prop} {Q : Exit → Act → World → Prop} (l c : Operand) (hop : o.op = Op.makeSlice 25 l c)
    (C : Int) (n : Nat) (hl : a.eval l = .int .i64 0) (hc : a.eval c = .int .i64 C) (hC : C = (n : Int)) (hn : n ≤ 1073741824)
    (hK : ∀ w', ownP w.heap.size n [] w' → Below w.heap.size w w' → K (a.put o.dst (.slice (some ⟨w.heap.size, 0, none⟩) 0 n)) w') : o.wp Try.prog a w K Q := by
  obtain ⟨ib, hib, hz0, hz1, hz2⟩ := info_parts infoNd
  obtain ⟨w', hrun, r1, r2⟩ := run_make_own (P := Try.prog) w w.heap.size 25 39 ib _ 10 Try.underlying25 hib hz0 hz1 .i64 .i64 n (by rw [hz2]; omega) (by unfold maxLen; omega) (Nat.le_refl _)
  subst hC
  unfold Oper.wp
  simp [execOp, hop, hl, hc, hrun, Result.andThen]
  exact hK w' r1 ⟨r2.os, r2.tape, r2.output, r2.size, fun k hk => r2.block k hk (by simp)⟩
def MadeN (lo cap : Nat) (v : Value) (w : World) : Prop := ∃ g, v = .slice (some ⟨g, 0, none⟩) 0 cap ∧ ownP g cap [] w ∧ lo ≤ g
theorem MadeN.later (lo cap : Nat) (v : Value) (w w' : World) (h : MadeN lo cap v w) (hb : Below w.heap.size w w') : MadeN lo cap v w' := by
  obtain ⟨g, h1, h2, h3⟩ := h
  exact ⟨g, h1, h2.later hb, h3⟩
structure PrS (w0 : World) (A B : Option Addr) (a b : List Nd) (c1 c2 lo bw : Nat) (wh : Nd) (w : World) : Prop where
  bel : Below w0.heap.size w0 w
  ra : NRow w A a
  rb : NRow w B b
  ba : Blk w w0.heap.size #[.slice A a.length c1] 27
  bb : Blk w (w0.heap.size + 1) #[.slice B b.length c2] 27
  res : Blk w (w0.heap.size + 2) #[.slice none 0 0] 27
  who : Blk w bw (ndC wh) 39
  low : lo ≤ w.heap.size
theorem PrS.later {w0 w w' : World} {A B : Option Addr} {a b : List Nd} {c1 c2 lo bw : Nat} {wh : Nd} (h : PrS w0 A B a b c1 c2 lo bw wh w) (hb : Below w.heap.size w w') : PrS w0 A B a b c1 c2 lo bw wh w' :=
  ⟨h.bel.trans (hb.mono h.bel.size), h.ra.later hb, h.rb.later hb, h.ba.later hb, h.bb.later hb, h.res.later hb, h.who.later hb, Nat.le_trans h.low hb.size⟩
theorem PrS.new (w : World) (A B : Option Addr) (a b : List Nd) (c1 c2 : Nat) (wh : Nd) (ha : NRow w A a) (hb : NRow w B b) :
    PrS w A B a b c1 c2 (w.heap.size + 4) (w.heap.size + 3) wh ((((w.alloc (.cells #[.slice A a.length c1] 27)).alloc (.cells #[.slice B b.length c2] 27)).alloc (.cells #[.slice none 0 0] 27)).alloc (.cells (ndC wh) 39)) := by
  have HB := ((((Below.refl w.heap.size w).alloc (Nat.le_refl _) (.cells #[.slice A a.length c1] 27)).alloc (by simp) (.cells #[.slice B b.length c2] 27)).alloc (by simp; omega) (.cells #[.slice none 0 0] 27)).alloc (by simp; omega) (.cells (ndC wh) 39)
  refine ⟨HB, ha.later HB, hb.later HB, (((Blk.new w _ _).alloc _).alloc _).alloc _, ?_, ?_, ?_, by simp⟩
  · have := ((Blk.new (w.alloc (.cells #[.slice A a.length c1] 27)) #[.slice B b.length c2] 27).alloc (.cells #[.slice none 0 0] 27)).alloc (.cells (ndC wh) 39)
    simpa using this
  · have := (Blk.new ((w.alloc (.cells #[.slice A a.length c1] 27)).alloc (.cells #[.slice B b.length c2] 27)) #[.slice none 0 0] 27).alloc (.cells (ndC wh) 39)
    simpa using this
  · have := Blk.new (((w.alloc (.cells #[.slice A a.length c1] 27)).alloc (.cells #[.slice B b.length c2] 27)).alloc (.cells #[.slice none 0 0] 27)) (ndC wh) 39
    simpa using this
end Go.Proofs.Ytencdlcpnbdlbaa
