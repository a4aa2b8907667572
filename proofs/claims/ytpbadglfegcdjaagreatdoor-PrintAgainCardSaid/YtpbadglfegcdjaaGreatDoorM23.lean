/- Leaf, Wrap, Pair: walked. -/
import Derived.Test.YtpbadglfegcdjaaGreatDoorM11
import Derived.Test.YtpbadglfegcdjaaGreatDoorM14
import Derived.Test.YtpbadglfegcdjaaGreatDoorM15
import Derived.Laws.MakeOwn
namespace Go.Proofs.YtpbadglfegcdjaaGreatDoor
open Go Go.RowKit
set_option linter.unusedVariables false
set_option linter.unusedSimpArgs false

theorem NRow.ofBlk {w : World} {b : Nat} {n : Nd} (h : Blk w b (ndC n) 43) : NRow w (some ⟨b, 0, none⟩) [n] := fun i hi => by
  obtain rfl : i = 0 := by simpa using hi
  refine ⟨b, 0, rfl, h.lt, fun j hj => ?_⟩
  rw [Nat.zero_mul, Nat.zero_add, h.cell]; rfl
set_option maxHeartbeats 8000000 in
set_option maxRecDepth 100000 in
theorem leaf_any (n : Nd) (hm : MvOk 0 n) (w : World) : Calls Tryz.prog 118 #[.agg (ndC n)] w (DPost w [n]) := by
  have HMV : Hid (mvN 0 n = n) := mvN_zero n
  have HM := Lib.hid hm
  have hb := ((Below.refl w.heap.size w).alloc (Nat.le_refl _) (.cells (ndC n) 43)).alloc (by simp) (.cells #[.slice none 0 0] 24)
  have HB := Lib.hid hb
  have HN : Hid (Blk ((w.alloc (.cells (ndC n) 43)).alloc (.cells #[.slice none 0 0] 24)) w.heap.size (ndC n) 43) := (Blk.new w _ _).alloc _
  have HR : Hid (Blk ((w.alloc (.cells (ndC n) 43)).alloc (.cells #[.slice none 0 0] 24)) (w.heap.size + 1) #[.slice none 0 0] 24) := by
    unfold Hid
    have := Blk.new (w.alloc (.cells (ndC n) 43)) #[.slice none 0 0] 24
    simpa using this
  clear hm hb
  unfold ndC at HB HN HR ⊢
  go_enter Tryz.func118, Tryz.ntmps118
  go_upto_region 1 with (fail)
  generalize (w.alloc (.cells #[.int .i64 n.kind, .int .i64 n.a, .int .i64 n.b, .int .i64 n.lo, .int .i64 n.hi, .int .u64 (wd n.cls 0), .int .u64 (wd n.cls 1), .int .u64 (wd n.cls 2), .int .u64 (wd n.cls 3), .string (bs n.text)] 43)).alloc (.cells #[.slice none 0 0] 24) = w1 at *
  obtain ⟨g0, g1, g2, g3, g4, g5, g6, g7, g8, g9⟩ := ten_cells HN.out
  have HB2 := Lib.hid ((Below.refl w1.heap.size w1).alloc (Nat.le_refl _) (.cells (ndC n) 43))
  have HN2 := Lib.hid (NRow.ofBlk (Blk.new w1 (ndC n) 43))
  have hlow : w.heap.size + 1 < w1.heap.size := HR.out.lt
  have LC : Hid (Calls Tryz.prog 126 #[.slice none 0 0, .slice (some ⟨w1.heap.size, 0, none⟩) 1 1, .int .i64 0] (w1.alloc (.cells (ndC n) 43)) (LaidPost (w1.alloc (.cells (ndC n) 43)) (w1.alloc (.cells (ndC n) 43)).heap.size [n])) := by
    have h := laid_any [] [n] 0 (.slice none 0 0) (some ⟨w1.heap.size, 0, none⟩) 1 (w1.alloc (.cells (ndC n) 43)).heap.size _ (OwnN.nil _ _) HN2.out (fun b o e => by cases e; simp) (Nat.le_refl _) (by simp) (fun x hx => by simp at hx; subst hx; exact HM.out)
    unfold Hid
    rw [List.nil_append, List.map_cons, List.map_nil, HMV.out] at h
    exact h
  unfold ndC at HB2 HN2 LC
  go_wp2_with fail
  refine LC.out.mono ?_; intro e w4 hp; obtain ⟨s, rfl, ho, hb4⟩ := hp
  obtain ⟨A2, c2, rfl, -⟩ := ho.row
  have HO := Lib.hid ho
  have hb5 := hb4.trans ((Below.refl _ _))
  have HR4 := Lib.hid ((HR.out.later HB2.out).later hb4)
  have HB4 := Lib.hid ((HB.out.trans (HB2.out.mono HB.out.size)).trans (hb4.mono (by simp; omega)))
  clear hb4 hb5 ho LC g0 g1 g2 g3 g4 g5 g6 g7 g8 g9
  have r0 := HR4.out.cell 0
  simp at r0
  have rf := HR4.out.frozen
  have s0 := HR4.out.put10 (o := 0) (by simp)
  go_wp2
  exact bodyPost_ret (v := .agg #[.slice A2 1 c2]) (by simp [results, Tryz.results118, go_sem, s0]) rfl ⟨_, rfl, (HO.out.setCell_ne (a := ⟨w.heap.size + 1, 0, none⟩) (by simp; omega) _).weaken (by simp; omega), HB4.out.setCell (p := ⟨w.heap.size + 1, 0, none⟩) (Nat.le_succ _) _⟩
/-- A row at the head of a block of its own. -/
def ownP (g cap : Nat) (L : List Nd) (w : World) : Prop := OwnN w g (.slice (some ⟨g, 0, none⟩) L.length cap) L
theorem ownP.later {g cap : Nat} {L : List Nd} {w w' : World} (h : ownP g cap L w) (hb : Below w.heap.size w w') : ownP g cap L w' := OwnN.later h hb
theorem ownP.front {g cap : Nat} {L X : List Nd} {w : World} (h : ownP g cap (L ++ X) w) : ownP g cap L w := by
  obtain ⟨h0, ⟨hv, hn⟩ | ⟨g', cap', cur, hv, hb, hg, hc, hm, hs, ht⟩⟩ := h
  · cases hv
  · cases hv
    refine ⟨flat10_length L, .inr ⟨g, cap, cur, rfl, hb, hg, ?_, hm, hs, ?_⟩⟩
    · rw [List.length_append] at hc; omega
    · rw [List.length_append, flat10_append] at ht
      have h2 : List.take (L.length * 10) (flat10 L ++ flat10 X) = flat10 L := by rw [List.take_append_of_le_length (by rw [flat10_length]; omega), List.take_of_length_le (by rw [flat10_length]; omega)]
      have := congrArg (List.take (L.length * 10)) ht
      rw [List.take_take, Nat.min_eq_left (by omega), h2] at this
      exact this
theorem ownP.lt {g cap : Nat} {L : List Nd} {w : World} (h : ownP g cap L w) : g < w.heap.size := by
  obtain ⟨h0, ⟨hv, hn⟩ | ⟨g', cap', cur, hv, hb, hg, hr⟩⟩ := h
  · cases hv
  · cases hv
    exact Blk.lt (w := w) (b := g) (vs := cur) (t := 43) hg
/-- How worlds go on where one row is written: what is owned before stays owned, and so does what is owned behind. -/
def RW (g cap : Nat) (L0 L1 : List Nd) (w w' : World) : Prop := w.grownBy w' (some g) ∧ (ownP g cap L0 w → ownP g cap L0 w') ∧ (ownP g cap L1 w → ownP g cap L1 w')
theorem RW.of {g cap : Nat} {L0 L1 : List Nd} (w w' : World) (hb : Below w.heap.size w w') : RW g cap L0 L1 w w' := ⟨gb_of hb, fun h => h.later hb, fun h => h.later hb⟩
theorem Blk.grow {w w' : World} {b g : Nat} {vs : Array Value} {t : TypeId} (h : Blk w b vs t) (hne : b ≠ g) (hg : w.grownBy w' (some g)) : Blk w' b vs t := (hg.block b h.lt (fun e => hne (Option.some.inj e))).trans h
structure WrS (w0 : World) (g cap : Nat) (L0 : List Nd) (A : Option Addr) (m : List Nd) (c bd br bw : Nat) (wh : Nd) (w : World) : Prop where
  bel : Below w0.heap.size w0 w
  row : NRow w A m
  box : Blk w bd #[.slice A m.length c] 24
  res : Blk w br #[.slice none 0 0] 24
  who : Blk w bw (ndC wh) 43
  own : ownP g cap L0 w
structure WrN (w0 : World) (g : Nat) (A : Option Addr) (bd br bw : Nat) : Prop where
  low : w0.heap.size ≤ g
  a : ∀ b o, A = some ⟨b, o, none⟩ → b ≠ g
  d : bd ≠ g
  r : br < g
  w : bw ≠ g
theorem WrS.grow {w0 w w' : World} {g cap : Nat} {L0 L1 : List Nd} {A : Option Addr} {m : List Nd} {c bd br bw : Nat} {wh : Nd} (hn : WrN w0 g A bd br bw) (h : WrS w0 g cap L0 A m c bd br bw wh w) (hr : RW g cap L0 L1 w w') : WrS w0 g cap L0 A m c bd br bw wh w' :=
  ⟨h.bel.trans ⟨hr.1.os, hr.1.tape, hr.1.output, hr.1.size, fun k hk => hr.1.block k (Nat.lt_of_lt_of_le hk h.bel.size) (fun e => by have h1 := Option.some.inj e; have h2 := hn.low; omega)⟩, h.row.gb hn.a hr.1, h.box.grow hn.d hr.1, h.res.grow (by have := hn.r; omega) hr.1, h.who.grow hn.w hr.1, hr.2.1 h.own⟩
/-- A new row of one node. -/
def NewN (g : Nat) (wh : Nd) (v : Value) (w : World) : Prop := ∃ b, v = .slice (some ⟨b, 0, none⟩) 1 1 ∧ Blk w b (ndC wh) 43 ∧ b ≠ g
theorem NewN.grow {g cap : Nat} {L0 L1 : List Nd} (wh : Nd) (v : Value) (w w' : World) (h : NewN g wh v w) (hr : RW g cap L0 L1 w w') : NewN g wh v w' := by
  obtain ⟨b, h1, h2, h3⟩ := h
  exact ⟨b, h1, h2.grow h3 hr.1, h3⟩
/-- The row behind the call. -/
def LaidV (g cap : Nat) (L1 : List Nd) (v : Value) (w : World) : Prop := v = .slice (some ⟨g, 0, none⟩) L1.length cap ∧ ownP g cap L1 w
theorem LaidV.grow {g cap : Nat} {L0 : List Nd} (L1 : List Nd) (v : Value) (w w' : World) (h : LaidV g cap L1 v w) (hr : RW g cap L0 L1 w w') : LaidV g cap L1 v w' := ⟨h.1, hr.2.2 h.2⟩
def MadeN (lo cap : Nat) (v : Value) (w : World) : Prop := ∃ g, v = .slice (some ⟨g, 0, none⟩) 0 cap ∧ ownP g cap [] w ∧ lo ≤ g
theorem MadeN.later (lo cap : Nat) (v : Value) (w w' : World) (h : MadeN lo cap v w) (hb : Below w.heap.size w w') : MadeN lo cap v w' := by
  obtain ⟨g, h1, h2, h3⟩ := h
  exact ⟨g, h1, h2.later hb, h3⟩
structure PrS (w0 : World) (A B : Option Addr) (a b : List Nd) (c1 c2 lo bw : Nat) (wh : Nd) (w : World) : Prop where
  bel : Below w0.heap.size w0 w
  ra : NRow w A a
  rb : NRow w B b
  ba : Blk w w0.heap.size #[.slice A a.length c1] 24
  bb : Blk w (w0.heap.size + 1) #[.slice B b.length c2] 24
  res : Blk w (w0.heap.size + 2) #[.slice none 0 0] 24
  who : Blk w bw (ndC wh) 43
  low : lo ≤ w.heap.size
theorem PrS.later {w0 w w' : World} {A B : Option Addr} {a b : List Nd} {c1 c2 lo bw : Nat} {wh : Nd} (h : PrS w0 A B a b c1 c2 lo bw wh w) (hb : Below w.heap.size w w') : PrS w0 A B a b c1 c2 lo bw wh w' :=
  ⟨h.bel.trans (hb.mono h.bel.size), h.ra.later hb, h.rb.later hb, h.ba.later hb, h.bb.later hb, h.res.later hb, h.who.later hb, Nat.le_trans h.low hb.size⟩
theorem PrS.new (w : World) (A B : Option Addr) (a b : List Nd) (c1 c2 : Nat) (wh : Nd) (ha : NRow w A a) (hb : NRow w B b) :
    PrS w A B a b c1 c2 (w.heap.size + 4) (w.heap.size + 3) wh ((((w.alloc (.cells #[.slice A a.length c1] 24)).alloc (.cells #[.slice B b.length c2] 24)).alloc (.cells #[.slice none 0 0] 24)).alloc (.cells (ndC wh) 43)) := by
  have HB := ((((Below.refl w.heap.size w).alloc (Nat.le_refl _) (.cells #[.slice A a.length c1] 24)).alloc (by simp) (.cells #[.slice B b.length c2] 24)).alloc (by simp; omega) (.cells #[.slice none 0 0] 24)).alloc (by simp; omega) (.cells (ndC wh) 43)
  refine ⟨HB, ha.later HB, hb.later HB, (((Blk.new w _ _).alloc _).alloc _).alloc _, ?_, ?_, ?_, by simp⟩
  · have := ((Blk.new (w.alloc (.cells #[.slice A a.length c1] 24)) #[.slice B b.length c2] 24).alloc (.cells #[.slice none 0 0] 24)).alloc (.cells (ndC wh) 43)
    simpa using this
  · have := (Blk.new ((w.alloc (.cells #[.slice A a.length c1] 24)).alloc (.cells #[.slice B b.length c2] 24)) #[.slice none 0 0] 24).alloc (.cells (ndC wh) 43)
    simpa using this
  · have := Blk.new (((w.alloc (.cells #[.slice A a.length c1] 24)).alloc (.cells #[.slice B b.length c2] 24)).alloc (.cells #[.slice none 0 0] 24)) (ndC wh) 43
    simpa using this
end Go.Proofs.YtpbadglfegcdjaaGreatDoor
/- The anchor of layer 4: answers that the document fixes. -/
namespace Go.Proofs.YtpbadglfegcdjaaGreatDoor
open Go Go.RowKit
set_option linter.unusedVariables false
set_option linter.unusedSimpArgs false

def awA : List Nd := [{ kind := 1 }]
def awX : Nd := { kind := 3, text := [120] }
def awB : List Nd := [awX, { kind := 7, a := 0, lo := 1, hi := 2 }]
def awN2 : Nd := { kind := 7, a := 1, lo := 1, hi := 2 }
def awN3 : Nd := { kind := 5, a := 0, b := 2 }
def awD : List Nd := [{ kind := 1 }, awX, awN2, awN3]
structure AwN (w0 : World) (b1 b2 b3 : Nat) (A1 A2 : Option Addr) (bd od : Nat) (c1 c2 c3 : Nat) (w : World) : Prop where
  bel : Below w0.heap.size w0 w
  u8 : U8T w
  x1 : Blk w b1 #[.slice A1 1 c1] 24
  x2 : Blk w b2 #[.slice A2 2 c2] 24
  x3 : Blk w b3 #[.slice (some ⟨bd, od, none⟩) 4 c3] 24
  r1 : NRow w A1 awA
  r2 : NRow w A2 awB
  r3 : NRow w (some ⟨bd, od, none⟩) awD
theorem AwN.later {w0 w w' : World} {b1 b2 b3 : Nat} {A1 A2 : Option Addr} {bd od c1 c2 c3 : Nat} (h : AwN w0 b1 b2 b3 A1 A2 bd od c1 c2 c3 w) (hb : Below w.heap.size w w') : AwN w0 b1 b2 b3 A1 A2 bd od c1 c2 c3 w' :=
  ⟨h.bel.trans (hb.mono h.bel.size), h.u8.later hb, h.x1.later hb, h.x2.later hb, h.x3.later hb, h.r1.later hb, h.r2.later hb, h.r3.later hb⟩
theorem AwN.cells {w0 w : World} {b1 b2 b3 : Nat} {A1 A2 : Option Addr} {bd od c1 c2 c3 : Nat} (h : AwN w0 b1 b2 b3 A1 A2 bd od c1 c2 c3 w) : w.cell? ⟨bd, od + 20, none⟩ = some (.int .i64 7) ∧ w.cell? ⟨bd, od + 21, none⟩ = some (.int .i64 1) ∧ w.cell? ⟨bd, od + 22, none⟩ = some (.int .i64 0) ∧ w.cell? ⟨bd, od + 23, none⟩ = some (.int .i64 1) ∧ w.cell? ⟨bd, od + 24, none⟩ = some (.int .i64 2) ∧ w.cell? ⟨bd, od + 25, none⟩ = some (.int .u64 0) ∧ w.cell? ⟨bd, od + 26, none⟩ = some (.int .u64 0) ∧ w.cell? ⟨bd, od + 27, none⟩ = some (.int .u64 0) ∧ w.cell? ⟨bd, od + 28, none⟩ = some (.int .u64 0) ∧ w.cell? ⟨bd, od + 29, none⟩ = some (.string ⟨#[]⟩) ∧ w.cell? ⟨bd, od + 30, none⟩ = some (.int .i64 5) ∧ w.cell? ⟨bd, od + 31, none⟩ = some (.int .i64 0) ∧ w.cell? ⟨bd, od + 32, none⟩ = some (.int .i64 2) ∧ w.cell? ⟨bd, od + 33, none⟩ = some (.int .i64 0) ∧ w.cell? ⟨bd, od + 34, none⟩ = some (.int .i64 0) ∧ w.cell? ⟨bd, od + 35, none⟩ = some (.int .u64 0) ∧ w.cell? ⟨bd, od + 36, none⟩ = some (.int .u64 0) ∧ w.cell? ⟨bd, od + 37, none⟩ = some (.int .u64 0) ∧ w.cell? ⟨bd, od + 38, none⟩ = some (.int .u64 0) ∧ w.cell? ⟨bd, od + 39, none⟩ = some (.string ⟨#[]⟩) := by
  have g2 : At10 w bd (od + 20) awN2 := h.r3.at (i := 2) (by decide) rfl
  have g3 : At10 w bd (od + 30) awN3 := h.r3.at (i := 3) (by decide) rfl
  obtain ⟨a0, a1, a2, a3, a4, a5, a6, a7, a8, a9⟩ := g2
  obtain ⟨d0, d1, d2, d3, d4, d5, d6, d7, d8, d9⟩ := g3
  have z0 : (wd awN2.cls 0 : Int) = 0 := by decide
  have z1 : (wd awN2.cls 1 : Int) = 0 := by decide
  have z2 : (wd awN2.cls 2 : Int) = 0 := by decide
  have z3 : (wd awN2.cls 3 : Int) = 0 := by decide
  have y0 : (wd awN3.cls 0 : Int) = 0 := by decide
  have y1 : (wd awN3.cls 1 : Int) = 0 := by decide
  have y2 : (wd awN3.cls 2 : Int) = 0 := by decide
  have y3 : (wd awN3.cls 3 : Int) = 0 := by decide
  rw [z0] at a5
  rw [z1] at a6
  rw [z2] at a7
  rw [z3] at a8
  rw [y0] at d5
  rw [y1] at d6
  rw [y2] at d7
  rw [y3] at d8
  exact ⟨a0, a1, a2, a3, a4, a5, a6, a7, a8, a9, d0, d1, d2, d3, d4, d5, d6, d7, d8, d9⟩
end Go.Proofs.YtpbadglfegcdjaaGreatDoor
/- The statement NodeParts of layer 4, walked. -/
namespace Go.Proofs.YtpbadglfegcdjaaGreatDoor
open Go Go.RowKit
set_option linter.unusedVariables false
set_option linter.unusedSimpArgs false

theorem Form.mvOk {l : List Nd} (h : Form l) (ht : Txt l) (hlen : l.length ≤ 1073741823) {d : Int} (h1 : -1073741824 ≤ d) (h2 : d ≤ 1073741824) : ∀ n ∈ l, MvOk d n := fun n hn => by
  obtain ⟨i, hi, e⟩ := List.mem_iff_getElem.1 hn
  have ha : atN l i = n := by unfold atN; rw [List.getD_eq_getElem?_getD, List.getElem?_eq_getElem hi]; exact e
  have := (h.2.1 i hi).mvOk (by omega) (txt_at ht i) h1 h2
  rwa [ha] at this
structure NpS (w0 : World) (A : Option Addr) (l : List Nd) (c : Nat) (w : World) : Prop where
  fst : FstS w0 A l c w
  u8 : U8T w
theorem NpS.later {w0 w w' : World} {A : Option Addr} {l : List Nd} {c : Nat} (h : NpS w0 A l c w) (hb : Below w.heap.size w w') : NpS w0 A l c w' := ⟨h.fst.later hb, h.u8.later hb⟩
structure NqS (w0 : World) (A : Option Addr) (l : List Nd) (c bx by_ : Nat) (B : Option Addr) (k : Nat) (e : Nat) (m : List Nd) (n : Nd) (w : World) : Prop where
  s : NpS w0 A l c w
  x : Blk w bx #[.slice B k e] 24
  r : NRow w B m
  y : Blk w by_ (ndC n) 43
theorem NqS.later {w0 w w' : World} {A : Option Addr} {l : List Nd} {c bx by_ : Nat} {B : Option Addr} {k e : Nat} {m : List Nd} {n : Nd} (h : NqS w0 A l c bx by_ B k e m n w) (hb : Below w.heap.size w w') : NqS w0 A l c bx by_ B k e m n w' := ⟨h.s.later hb, h.x.later hb, h.r.later hb, h.y.later hb⟩
end Go.Proofs.YtpbadglfegcdjaaGreatDoor
/- The statement NodeForms of layer 4, walked. -/
namespace Go.Proofs.YtpbadglfegcdjaaGreatDoor
open Go Go.RowKit
set_option linter.unusedVariables false
set_option linter.unusedSimpArgs false

theorem okN.kind9 {l : List Nd} {i : Nat} {n : Nd} (h : okN l i n) : n.kind ≤ 9 := by
  obtain ⟨_, h⟩ := h; omega
structure NfS (w0 : World) (A B : Option Addr) (a b : List Nd) (c1 c2 : Nat) (w : World) : Prop where
  s : RsS w0 A B a b c1 c2 w
  u8 : U8T w
theorem NfS.later {w0 w w' : World} {A B : Option Addr} {a b : List Nd} {c1 c2 : Nat} (h : NfS w0 A B a b c1 c2 w) (hb : Below w.heap.size w w') : NfS w0 A B a b c1 c2 w' := ⟨h.s.later hb, h.u8.later hb⟩
end Go.Proofs.YtpbadglfegcdjaaGreatDoor
