/- Tokens of a class, a text, a repeat: walked. -/
import Derived.Test.YtcgjmnhmhiddkaaDoorM13
import Derived.Test.YtcgjmnhmhiddkaaDoorM05
import Derived.Test.YtcgjmnhmhiddkaaDoorM03
import Derived.Test.YtcgjmnhmhiddkaaDoorProg
import Derived.WalkKit
import Derived.Carry
import Derived.Below
import Derived.Laws.EntriesVeiled
namespace Go.Proofs.YtcgjmnhmhiddkaaDoor
open Go Go.RowKit
set_option linter.unusedVariables false

/-- A token's cells. -/
def tokC (t : Tok) : Array Value := #[.int .i64 (t.kind : Int), .int .i64 (t.at_ : Int), .int .u64 (wd t.cls 0), .int .u64 (wd t.cls 1), .int .u64 (wd t.cls 2), .int .u64 (wd t.cls 3), .string (bs t.text), .int .i64 (t.lo : Int), .int .i64 (t.hi : Int)]
def z9 : Array Value := #[.int .i64 0, .int .i64 0, .int .u64 0, .int .u64 0, .int .u64 0, .int .u64 0, .string ⟨#[]⟩, .int .i64 0, .int .i64 0]
def tokR (o : Option Tok) : Value := match o with
  | some t => .tuple #[.agg (tokC t), .bool true]
  | none => .tuple #[.agg z9, .bool false]
theorem Blk.put {w : World} {b : Nat} {t : TypeId} {vs : Array Value} (h : Blk w b vs t) {o : Nat} (ho : o < vs.size) (v : Value) : (w.setCell ⟨b, o, none⟩ v).cell? ⟨b, o, none⟩ = some v := by
  rw [(h.setCell o v).cell o]; simp [ho]
section
variable {w : World} {b : Nat} {t : TypeId} {c0 c1 c2 c3 c4 c5 c6 c7 c8 : Value}
/-- What is stored is read. -/
theorem nine (h : Blk w b #[c0, c1, c2, c3, c4, c5, c6, c7, c8] t) :
    (∀ v0 : Value, (w.setCell ⟨b, 0, none⟩ v0).cell? ⟨b, 0, none⟩ = some v0) ∧ (∀ v0 v1 : Value, ((w.setCell ⟨b, 0, none⟩ v0).setCell ⟨b, 1, none⟩ v1).cell? ⟨b, 1, none⟩ = some v1) ∧ (∀ v0 v1 v2 : Value, (((w.setCell ⟨b, 0, none⟩ v0).setCell ⟨b, 1, none⟩ v1).setCell ⟨b, 2, none⟩ v2).cell? ⟨b, 2, none⟩ = some v2) ∧ (∀ v0 v1 v2 v3 : Value, ((((w.setCell ⟨b, 0, none⟩ v0).setCell ⟨b, 1, none⟩ v1).setCell ⟨b, 2, none⟩ v2).setCell ⟨b, 3, none⟩ v3).cell? ⟨b, 3, none⟩ = some v3) ∧ (∀ v0 v1 v2 v3 v4 : Value, (((((w.setCell ⟨b, 0, none⟩ v0).setCell ⟨b, 1, none⟩ v1).setCell ⟨b, 2, none⟩ v2).setCell ⟨b, 3, none⟩ v3).setCell ⟨b, 4, none⟩ v4).cell? ⟨b, 4, none⟩ = some v4) ∧ (∀ v0 v1 v2 v3 v4 v5 : Value, ((((((w.setCell ⟨b, 0, none⟩ v0).setCell ⟨b, 1, none⟩ v1).setCell ⟨b, 2, none⟩ v2).setCell ⟨b, 3, none⟩ v3).setCell ⟨b, 4, none⟩ v4).setCell ⟨b, 5, none⟩ v5).cell? ⟨b, 5, none⟩ = some v5) ∧ (∀ v0 v1 v2 v3 v4 v5 v6 : Value, (((((((w.setCell ⟨b, 0, none⟩ v0).setCell ⟨b, 1, none⟩ v1).setCell ⟨b, 2, none⟩ v2).setCell ⟨b, 3, none⟩ v3).setCell ⟨b, 4, none⟩ v4).setCell ⟨b, 5, none⟩ v5).setCell ⟨b, 6, none⟩ v6).cell? ⟨b, 6, none⟩ = some v6) ∧ (∀ v0 v1 v2 v3 v4 v5 v6 v7 : Value, ((((((((w.setCell ⟨b, 0, none⟩ v0).setCell ⟨b, 1, none⟩ v1).setCell ⟨b, 2, none⟩ v2).setCell ⟨b, 3, none⟩ v3).setCell ⟨b, 4, none⟩ v4).setCell ⟨b, 5, none⟩ v5).setCell ⟨b, 6, none⟩ v6).setCell ⟨b, 7, none⟩ v7).cell? ⟨b, 7, none⟩ = some v7) ∧ (∀ v0 v1 v2 v3 v4 v5 v6 v7 v8 : Value, (((((((((w.setCell ⟨b, 0, none⟩ v0).setCell ⟨b, 1, none⟩ v1).setCell ⟨b, 2, none⟩ v2).setCell ⟨b, 3, none⟩ v3).setCell ⟨b, 4, none⟩ v4).setCell ⟨b, 5, none⟩ v5).setCell ⟨b, 6, none⟩ v6).setCell ⟨b, 7, none⟩ v7).setCell ⟨b, 8, none⟩ v8).cell? ⟨b, 8, none⟩ = some v8) :=
  ⟨fun v0 => h.put (by simp) v0, fun v0 v1 => (h.setCell 0 v0).put (by simp) v1, fun v0 v1 v2 => ((h.setCell 0 v0).setCell 1 v1).put (by simp) v2, fun v0 v1 v2 v3 => (((h.setCell 0 v0).setCell 1 v1).setCell 2 v2).put (by simp) v3, fun v0 v1 v2 v3 v4 => ((((h.setCell 0 v0).setCell 1 v1).setCell 2 v2).setCell 3 v3).put (by simp) v4, fun v0 v1 v2 v3 v4 v5 => (((((h.setCell 0 v0).setCell 1 v1).setCell 2 v2).setCell 3 v3).setCell 4 v4).put (by simp) v5, fun v0 v1 v2 v3 v4 v5 v6 => ((((((h.setCell 0 v0).setCell 1 v1).setCell 2 v2).setCell 3 v3).setCell 4 v4).setCell 5 v5).put (by simp) v6, fun v0 v1 v2 v3 v4 v5 v6 v7 => (((((((h.setCell 0 v0).setCell 1 v1).setCell 2 v2).setCell 3 v3).setCell 4 v4).setCell 5 v5).setCell 6 v6).put (by simp) v7, fun v0 v1 v2 v3 v4 v5 v6 v7 v8 => ((((((((h.setCell 0 v0).setCell 1 v1).setCell 2 v2).setCell 3 v3).setCell 4 v4).setCell 5 v5).setCell 6 v6).setCell 7 v7).put (by simp) v8⟩
theorem nine_cells (h : Blk w b #[c0, c1, c2, c3, c4, c5, c6, c7, c8] t) :
    w.cell? ⟨b, 0, none⟩ = some c0 ∧ w.cell? ⟨b, 1, none⟩ = some c1 ∧ w.cell? ⟨b, 2, none⟩ = some c2 ∧ w.cell? ⟨b, 3, none⟩ = some c3 ∧ w.cell? ⟨b, 4, none⟩ = some c4 ∧ w.cell? ⟨b, 5, none⟩ = some c5 ∧ w.cell? ⟨b, 6, none⟩ = some c6 ∧ w.cell? ⟨b, 7, none⟩ = some c7 ∧ w.cell? ⟨b, 8, none⟩ = some c8 :=
  ⟨h.cell 0, h.cell 1, h.cell 2, h.cell 3, h.cell 4, h.cell 5, h.cell 6, h.cell 7, h.cell 8⟩
theorem nine_blk (h : Blk w b #[c0, c1, c2, c3, c4, c5, c6, c7, c8] t) (v0 v1 v2 v3 v4 v5 v6 v7 v8 : Value) : Blk (((((((((w.setCell ⟨b, 0, none⟩ v0).setCell ⟨b, 1, none⟩ v1).setCell ⟨b, 2, none⟩ v2).setCell ⟨b, 3, none⟩ v3).setCell ⟨b, 4, none⟩ v4).setCell ⟨b, 5, none⟩ v5).setCell ⟨b, 6, none⟩ v6).setCell ⟨b, 7, none⟩ v7).setCell ⟨b, 8, none⟩ v8) b #[v0, v1, v2, v3, v4, v5, v6, v7, v8] t := by
  have h1 : Blk (w.setCell ⟨b, 0, none⟩ v0) b #[v0, c1, c2, c3, c4, c5, c6, c7, c8] t := h.setCell 0 v0
  have h2 : Blk ((w.setCell ⟨b, 0, none⟩ v0).setCell ⟨b, 1, none⟩ v1) b #[v0, v1, c2, c3, c4, c5, c6, c7, c8] t := h1.setCell 1 v1
  have h3 : Blk (((w.setCell ⟨b, 0, none⟩ v0).setCell ⟨b, 1, none⟩ v1).setCell ⟨b, 2, none⟩ v2) b #[v0, v1, v2, c3, c4, c5, c6, c7, c8] t := h2.setCell 2 v2
  have h4 : Blk ((((w.setCell ⟨b, 0, none⟩ v0).setCell ⟨b, 1, none⟩ v1).setCell ⟨b, 2, none⟩ v2).setCell ⟨b, 3, none⟩ v3) b #[v0, v1, v2, v3, c4, c5, c6, c7, c8] t := h3.setCell 3 v3
  have h5 : Blk (((((w.setCell ⟨b, 0, none⟩ v0).setCell ⟨b, 1, none⟩ v1).setCell ⟨b, 2, none⟩ v2).setCell ⟨b, 3, none⟩ v3).setCell ⟨b, 4, none⟩ v4) b #[v0, v1, v2, v3, v4, c5, c6, c7, c8] t := h4.setCell 4 v4
  have h6 : Blk ((((((w.setCell ⟨b, 0, none⟩ v0).setCell ⟨b, 1, none⟩ v1).setCell ⟨b, 2, none⟩ v2).setCell ⟨b, 3, none⟩ v3).setCell ⟨b, 4, none⟩ v4).setCell ⟨b, 5, none⟩ v5) b #[v0, v1, v2, v3, v4, v5, c6, c7, c8] t := h5.setCell 5 v5
  have h7 : Blk (((((((w.setCell ⟨b, 0, none⟩ v0).setCell ⟨b, 1, none⟩ v1).setCell ⟨b, 2, none⟩ v2).setCell ⟨b, 3, none⟩ v3).setCell ⟨b, 4, none⟩ v4).setCell ⟨b, 5, none⟩ v5).setCell ⟨b, 6, none⟩ v6) b #[v0, v1, v2, v3, v4, v5, v6, c7, c8] t := h6.setCell 6 v6
  have h8 : Blk ((((((((w.setCell ⟨b, 0, none⟩ v0).setCell ⟨b, 1, none⟩ v1).setCell ⟨b, 2, none⟩ v2).setCell ⟨b, 3, none⟩ v3).setCell ⟨b, 4, none⟩ v4).setCell ⟨b, 5, none⟩ v5).setCell ⟨b, 6, none⟩ v6).setCell ⟨b, 7, none⟩ v7) b #[v0, v1, v2, v3, v4, v5, v6, v7, c8] t := h7.setCell 7 v7
  have h9 : Blk (((((((((w.setCell ⟨b, 0, none⟩ v0).setCell ⟨b, 1, none⟩ v1).setCell ⟨b, 2, none⟩ v2).setCell ⟨b, 3, none⟩ v3).setCell ⟨b, 4, none⟩ v4).setCell ⟨b, 5, none⟩ v5).setCell ⟨b, 6, none⟩ v6).setCell ⟨b, 7, none⟩ v7).setCell ⟨b, 8, none⟩ v8) b #[v0, v1, v2, v3, v4, v5, v6, v7, v8] t := h8.setCell 8 v8
  exact h9
end
theorem below9 {B : Nat} {a w : World} (h : Below B a w) {b : Nat} (hb : B ≤ b) (v0 v1 v2 v3 v4 v5 v6 v7 v8 : Value) : Below B a (((((((((w.setCell ⟨b, 0, none⟩ v0).setCell ⟨b, 1, none⟩ v1).setCell ⟨b, 2, none⟩ v2).setCell ⟨b, 3, none⟩ v3).setCell ⟨b, 4, none⟩ v4).setCell ⟨b, 5, none⟩ v5).setCell ⟨b, 6, none⟩ v6).setCell ⟨b, 7, none⟩ v7).setCell ⟨b, 8, none⟩ v8) := (((((((((h.setCell (p := ⟨b, 0, none⟩) hb v0).setCell (p := ⟨b, 1, none⟩) hb v1).setCell (p := ⟨b, 2, none⟩) hb v2).setCell (p := ⟨b, 3, none⟩) hb v3).setCell (p := ⟨b, 4, none⟩) hb v4).setCell (p := ⟨b, 5, none⟩) hb v5).setCell (p := ⟨b, 6, none⟩) hb v6).setCell (p := ⟨b, 7, none⟩) hb v7).setCell (p := ⟨b, 8, none⟩) hb v8)
/-- A box for a token that was just made. -/
structure Box9 (w : World) (w' : World) : Prop where
  bel : Below w.heap.size w w'
  blk : Blk w' w.heap.size z9 61
theorem Box9.new (w : World) : Box9 w (w.alloc (.cells #[.int .i64 0, .int .i64 0, .int .u64 0, .int .u64 0, .int .u64 0, .int .u64 0, .string ⟨#[]⟩, .int .i64 0, .int .i64 0] 61)) := ⟨(Below.refl _ _).alloc (Nat.le_refl _) _, Blk.new _ _ _⟩
theorem Box9.later {w w1 w2 : World} (h : Box9 w w1) (hb : Below w1.heap.size w1 w2) : Box9 w w2 := ⟨h.bel.trans (hb.mono h.bel.size), h.blk.later hb⟩

theorem tok_simple (t : Tok) (hc : t.cls = 0#256) : tokR (some t) = .tuple #[.agg #[.int .i64 (t.kind : Int), .int .i64 (t.at_ : Int), .int .u64 0, .int .u64 0, .int .u64 0, .int .u64 0, .string (bs t.text), .int .i64 (t.lo : Int), .int .i64 (t.hi : Int)], .bool true] := by
  have z0 : wd 0#256 0 = 0 := by decide
  have z1 : wd 0#256 1 = 0 := by decide
  have z2 : wd 0#256 2 = 0 := by decide
  have z3 : wd 0#256 3 = 0 := by decide
  unfold tokR tokC
  simp only [hc, z0, z1, z2, z3]; rfl
def clsTok (s : BitVec 256) : Tok := { kind := 1, at_ := 0, cls := s }
theorem numR_some {o : Option Nat} {n : Nat} (h : o = some n) : numR o = .tuple #[.int .i64 (n : Int), .bool true] := by rw [h]; rfl
theorem numR_none {o : Option Nat} (h : o = none) : numR o = .tuple #[.int .i64 0, .bool false] := by rw [h]; rfl
def repTok (p : Nat × Nat) : Tok := { kind := 7, at_ := 0, lo := p.1, hi := p.2 }
set_option maxHeartbeats 4000000 in
set_option maxRecDepth 100000 in
theorem reptok_any (l : List UInt8) (w : World) (hl : l.length ≤ 1073741824) : Calls Tryd.prog 24 #[.string (bs l)] w (Ans w (tokR ((repV l).map repTok))) := by
  have hsz : (bs l).size ≤ 4294967296 := by rw [bs_size]; omega
  cases hc : cutAt 44 l with
  | none =>
    have HC : Hid (cutAt 44 (bs l).data.toList = none) := hc
    have HV : Hid (tokR ((repV l).map repTok) = .tuple #[.agg z9, .bool false]) := by unfold Hid repV; rw [hc]; rfl
    clear hc
    generalize tokR ((repV l).map repTok) = v at *
    have HE := Lib.hid (numR_none (o := numV []) rfl)
    go_enter Tryd.func24, Tryd.ntmps24
    go_wp2_with fail
    refine (cut_miss _ _ _ HC.out).mono ?_; rintro e w2 ⟨rfl, hb2⟩
    have HX := Lib.hid ((Box9.new w).later hb2)
    clear hb2
    cases ho : numV l with
    | none =>
      have HN := Lib.hid (numR_none ho)
      clear ho
      go_wp2_with fail
      refine (num_any l _).mono ?_; rintro e wn ⟨rfl, hbn⟩
      rw [HN.out]
      have HX2 := Lib.hid (HX.out.later hbn)
      clear hbn
      go_wp2_with fail
      refine (num_any [] _).mono ?_; rintro e wn ⟨rfl, hbn⟩
      rw [HE.out]
      have HX3 := Lib.hid (HX2.out.later hbn)
      clear hbn
      have hk := HX3.out.blk
      unfold z9 at hk
      have ef := hk.frozen
      obtain ⟨e0, e1, e2, e3, e4, e5, e6, e7, e8⟩ := nine_cells hk
      obtain ⟨s0, s1, s2, s3, s4, s5, s6, s7, s8⟩ := nine hk
      clear hk
      go_wp2
      exact bodyPost_ret (v := .tuple #[.agg #[.int .i64 0, .int .i64 0, .int .u64 0, .int .u64 0, .int .u64 0, .int .u64 0, .string ⟨#[]⟩, .int .i64 0, .int .i64 0], .bool false]) (by simp [results, Tryd.results24, go_sem, s0, s1, s2, s3, s4, s5, s6, s7, s8]) rfl ⟨by rw [HV.out]; rfl, below9 HX3.out.bel (Nat.le_refl _) _ _ _ _ _ _ _ _ _⟩
    | some x =>
      have HN := Lib.hid (numR_some ho)
      clear ho
      go_wp2_with fail
      refine (num_any l _).mono ?_; rintro e wn ⟨rfl, hbn⟩
      rw [HN.out]
      have HX2 := Lib.hid (HX.out.later hbn)
      clear hbn
      go_wp2_with fail
      refine (num_any [] _).mono ?_; rintro e wn ⟨rfl, hbn⟩
      rw [HE.out]
      have HX3 := Lib.hid (HX2.out.later hbn)
      clear hbn
      have hk := HX3.out.blk
      unfold z9 at hk
      have ef := hk.frozen
      obtain ⟨e0, e1, e2, e3, e4, e5, e6, e7, e8⟩ := nine_cells hk
      obtain ⟨s0, s1, s2, s3, s4, s5, s6, s7, s8⟩ := nine hk
      clear hk
      go_wp2
      exact bodyPost_ret (v := .tuple #[.agg #[.int .i64 0, .int .i64 0, .int .u64 0, .int .u64 0, .int .u64 0, .int .u64 0, .string ⟨#[]⟩, .int .i64 0, .int .i64 0], .bool false]) (by simp [results, Tryd.results24, go_sem, s0, s1, s2, s3, s4, s5, s6, s7, s8]) rfl ⟨by rw [HV.out]; rfl, below9 HX3.out.bel (Nat.le_refl _) _ _ _ _ _ _ _ _ _⟩
  | some p =>
    obtain ⟨a, b⟩ := p
    have HC : Hid (cutAt 44 (bs l).data.toList = some (a, b)) := hc
    have hrv : repV l = match numV a, numV b with
      | some x, some y => some (x, y)
      | _, _ => none := by unfold repV; rw [hc]; rfl
    have HRV := Lib.hid hrv
    clear hc hrv
    go_enter Tryd.func24, Tryd.ntmps24
    go_wp2_with fail
    refine (cut_hit _ _ _ _ _ HC.out hsz).mono ?_; rintro e w2 ⟨rfl, hb2⟩
    have HX := Lib.hid ((Box9.new w).later hb2)
    clear hb2
    cases ho : numV a with
    | none =>
      have HN := Lib.hid (numR_none ho)
      have HV : Hid (tokR ((repV l).map repTok) = .tuple #[.agg z9, .bool false]) := by unfold Hid; rw [HRV.out, ho]; rfl
      clear ho HRV
      generalize tokR ((repV l).map repTok) = v at *
      go_wp2_with fail
      refine (num_any a _).mono ?_; rintro e wn ⟨rfl, hbn⟩
      rw [HN.out]
      have HX2 := Lib.hid (HX.out.later hbn)
      clear hbn
      cases ho : numV b with
      | none =>
        have HM := Lib.hid (numR_none ho)
        clear ho
        go_wp2_with fail
        refine (num_any b _).mono ?_; rintro e wn ⟨rfl, hbn⟩
        rw [HM.out]
        have HX3 := Lib.hid (HX2.out.later hbn)
        clear hbn
        have hk := HX3.out.blk
        unfold z9 at hk
        have ef := hk.frozen
        obtain ⟨e0, e1, e2, e3, e4, e5, e6, e7, e8⟩ := nine_cells hk
        obtain ⟨s0, s1, s2, s3, s4, s5, s6, s7, s8⟩ := nine hk
        clear hk
        go_wp2
        exact bodyPost_ret (v := .tuple #[.agg #[.int .i64 0, .int .i64 0, .int .u64 0, .int .u64 0, .int .u64 0, .int .u64 0, .string ⟨#[]⟩, .int .i64 0, .int .i64 0], .bool false]) (by simp [results, Tryd.results24, go_sem, s0, s1, s2, s3, s4, s5, s6, s7, s8]) rfl ⟨by rw [HV.out]; rfl, below9 HX3.out.bel (Nat.le_refl _) _ _ _ _ _ _ _ _ _⟩
      | some y =>
        have HM := Lib.hid (numR_some ho)
        clear ho
        go_wp2_with fail
        refine (num_any b _).mono ?_; rintro e wn ⟨rfl, hbn⟩
        rw [HM.out]
        have HX3 := Lib.hid (HX2.out.later hbn)
        clear hbn
        have hk := HX3.out.blk
        unfold z9 at hk
        have ef := hk.frozen
        obtain ⟨e0, e1, e2, e3, e4, e5, e6, e7, e8⟩ := nine_cells hk
        obtain ⟨s0, s1, s2, s3, s4, s5, s6, s7, s8⟩ := nine hk
        clear hk
        go_wp2
        exact bodyPost_ret (v := .tuple #[.agg #[.int .i64 0, .int .i64 0, .int .u64 0, .int .u64 0, .int .u64 0, .int .u64 0, .string ⟨#[]⟩, .int .i64 0, .int .i64 0], .bool false]) (by simp [results, Tryd.results24, go_sem, s0, s1, s2, s3, s4, s5, s6, s7, s8]) rfl ⟨by rw [HV.out]; rfl, below9 HX3.out.bel (Nat.le_refl _) _ _ _ _ _ _ _ _ _⟩
    | some x =>
      have HN := Lib.hid (numR_some ho)
      cases ho2 : numV b with
      | none =>
        have HM := Lib.hid (numR_none ho2)
        have HV : Hid (tokR ((repV l).map repTok) = .tuple #[.agg z9, .bool false]) := by unfold Hid; rw [HRV.out, ho, ho2]; rfl
        clear ho ho2 HRV
        generalize tokR ((repV l).map repTok) = v at *
        go_wp2_with fail
        refine (num_any a _).mono ?_; rintro e wn ⟨rfl, hbn⟩
        rw [HN.out]
        have HX2 := Lib.hid (HX.out.later hbn)
        clear hbn
        go_wp2_with fail
        refine (num_any b _).mono ?_; rintro e wn ⟨rfl, hbn⟩
        rw [HM.out]
        have HX3 := Lib.hid (HX2.out.later hbn)
        clear hbn
        have hk := HX3.out.blk
        unfold z9 at hk
        have ef := hk.frozen
        obtain ⟨e0, e1, e2, e3, e4, e5, e6, e7, e8⟩ := nine_cells hk
        obtain ⟨s0, s1, s2, s3, s4, s5, s6, s7, s8⟩ := nine hk
        clear hk
        go_wp2
        exact bodyPost_ret (v := .tuple #[.agg #[.int .i64 0, .int .i64 0, .int .u64 0, .int .u64 0, .int .u64 0, .int .u64 0, .string ⟨#[]⟩, .int .i64 0, .int .i64 0], .bool false]) (by simp [results, Tryd.results24, go_sem, s0, s1, s2, s3, s4, s5, s6, s7, s8]) rfl ⟨by rw [HV.out]; rfl, below9 HX3.out.bel (Nat.le_refl _) _ _ _ _ _ _ _ _ _⟩
      | some y =>
        have HM := Lib.hid (numR_some ho2)
        have HV : Hid (tokR ((repV l).map repTok) = .tuple #[.agg #[.int .i64 7, .int .i64 0, .int .u64 0, .int .u64 0, .int .u64 0, .int .u64 0, .string ⟨#[]⟩, .int .i64 (x : Int), .int .i64 (y : Int)], .bool true]) := by unfold Hid; rw [HRV.out, ho, ho2]; exact tok_simple _ rfl
        clear ho ho2 HRV
        generalize tokR ((repV l).map repTok) = v at *
        go_wp2_with fail
        refine (num_any a _).mono ?_; rintro e wn ⟨rfl, hbn⟩
        rw [HN.out]
        have HX2 := Lib.hid (HX.out.later hbn)
        clear hbn
        go_wp2_with fail
        refine (num_any b _).mono ?_; rintro e wn ⟨rfl, hbn⟩
        rw [HM.out]
        have HX3 := Lib.hid (HX2.out.later hbn)
        clear hbn
        have hk := HX3.out.blk
        unfold z9 at hk
        have ef := hk.frozen
        obtain ⟨e0, e1, e2, e3, e4, e5, e6, e7, e8⟩ := nine_cells hk
        obtain ⟨s0, s1, s2, s3, s4, s5, s6, s7, s8⟩ := nine hk
        clear hk
        go_wp2
        exact bodyPost_ret (v := .tuple #[.agg #[.int .i64 7, .int .i64 0, .int .u64 0, .int .u64 0, .int .u64 0, .int .u64 0, .string ⟨#[]⟩, .int .i64 (x : Int), .int .i64 (y : Int)], .bool true]) (by simp [results, Tryd.results24, go_sem, s0, s1, s2, s3, s4, s5, s6, s7, s8]) rfl ⟨by rw [HV.out], below9 HX3.out.bel (Nat.le_refl _) _ _ _ _ _ _ _ _ _⟩
/-! ### a text -/
def txtTok (t : List UInt8) : Tok := { kind := 2, at_ := 0, text := t }
set_option maxHeartbeats 4000000 in
set_option maxRecDepth 100000 in
theorem txttok_empty (w : World) : Calls Tryd.prog 23 #[.string ⟨#[]⟩] w (Ans w (.tuple #[.agg z9, .bool false])) := by
  obtain ⟨v, hv⟩ : ∃ v, v = Value.tuple #[.agg z9, .bool false] := ⟨_, rfl⟩
  have HV := Lib.hid hv
  rw [← hv]
  clear hv
  go_enter Tryd.func23, Tryd.ntmps23
  go_wp2
  exact bodyPost_ret (v := .tuple #[.agg #[.int .i64 0, .int .i64 0, .int .u64 0, .int .u64 0, .int .u64 0, .int .u64 0, .string ⟨#[]⟩, .int .i64 0, .int .i64 0], .bool false]) (by simp [results, Tryd.results23, go_sem]) rfl ⟨by rw [HV.out]; rfl, by go_grown⟩
set_option maxHeartbeats 4000000 in
set_option maxRecDepth 100000 in
theorem txttok_any (l : List UInt8) (w : World) (hl : l.length ≤ 1073741824) (hT : U8T w) : Calls Tryd.prog 23 #[.string (bs l)] w (Ans w (tokR ((textV l).map txtTok))) := by
  have hs63 : (bs l).size ≤ 9223372036854775807 := by rw [bs_size]; omega
  have hs48 : (bs l).size ≤ 281474976710656 := by rw [bs_size]; omega
  have HT := Lib.hid (hT.later (Box9.new w).bel)
  clear hT
  by_cases h0 : l = []
  · subst h0
    have hv : tokR ((textV []).map txtTok) = .tuple #[.agg z9, .bool false] := by unfold textV; rw [if_pos (.inl rfl)]; rfl
    rw [hv]
    exact txttok_empty w
  · have hne : (bs l).toList.isEmpty = false := by
      rw [Lib.toList_data, bs_data]; cases l with
      | nil => exact absurd rfl h0
      | cons a l => rfl
    cases hu : utf8L l with
    | false =>
      have HV : Hid (tokR ((textV l).map txtTok) = .tuple #[.agg z9, .bool false]) := by unfold Hid textV; rw [if_pos (.inr hu)]; rfl
      have HU : Hid (utf8L (bs l).data.toList = false) := hu
      clear hu h0
      generalize tokR ((textV l).map txtTok) = v at *
      go_enter Tryd.func23, Tryd.ntmps23
      go_wp2_with fail
      refine (utf8_any (bs l) _ hs63 HT.out).mono ?_; rintro e w2 ⟨rfl, hb2⟩
      rw [HU.out]
      have HX := Lib.hid ((Box9.new w).later hb2)
      clear hb2
      have hk := HX.out.blk
      unfold z9 at hk
      have ef := hk.frozen
      obtain ⟨e0, e1, e2, e3, e4, e5, e6, e7, e8⟩ := nine_cells hk
      obtain ⟨s0, s1, s2, s3, s4, s5, s6, s7, s8⟩ := nine hk
      clear hk
      go_wp2
      exact bodyPost_ret (v := .tuple #[.agg #[.int .i64 0, .int .i64 0, .int .u64 0, .int .u64 0, .int .u64 0, .int .u64 0, .string ⟨#[]⟩, .int .i64 0, .int .i64 0], .bool false]) (by simp [results, Tryd.results23, go_sem, s0, s1, s2, s3, s4, s5, s6, s7, s8]) rfl ⟨by rw [HV.out]; rfl, below9 HX.out.bel (Nat.le_refl _) _ _ _ _ _ _ _ _ _⟩
    | true =>
      have HV : Hid (tokR ((textV l).map txtTok) = .tuple #[.agg #[.int .i64 2, .int .i64 0, .int .u64 0, .int .u64 0, .int .u64 0, .int .u64 0, .string (bs l), .int .i64 0, .int .i64 0], .bool true]) := by
        unfold Hid textV; rw [if_neg (by rw [hu]; simp [h0])]; exact tok_simple _ rfl
      have HU : Hid (utf8L (bs l).data.toList = true) := hu
      clear hu h0
      generalize tokR ((textV l).map txtTok) = v at *
      go_enter Tryd.func23, Tryd.ntmps23
      go_wp2_with fail
      refine (utf8_any (bs l) _ hs63 HT.out).mono ?_; rintro e w2 ⟨rfl, hb2⟩
      rw [HU.out]
      have HX2 := Lib.hid ((Box9.new w).later hb2)
      clear hb2
      go_wp2_with fail
      refine (clone_any (bs l) _ hs48).mono ?_; rintro e w3 ⟨rfl, hb3⟩
      have HX3 := Lib.hid (HX2.out.later hb3)
      clear hb3
      have hk := HX3.out.blk
      unfold z9 at hk
      have ef := hk.frozen
      obtain ⟨e0, e1, e2, e3, e4, e5, e6, e7, e8⟩ := nine_cells hk
      obtain ⟨s0, s1, s2, s3, s4, s5, s6, s7, s8⟩ := nine hk
      clear hk
      go_wp2
      exact bodyPost_ret (v := .tuple #[.agg #[.int .i64 2, .int .i64 0, .int .u64 0, .int .u64 0, .int .u64 0, .int .u64 0, .string (bs l), .int .i64 0, .int .i64 0], .bool true]) (by simp [results, Tryd.results23, go_sem, s0, s1, s2, s3, s4, s5, s6, s7, s8]) rfl ⟨by rw [HV.out], below9 HX3.out.bel (Nat.le_refl _) _ _ _ _ _ _ _ _ _⟩
/-! ### a class -/
theorem optR_some {o : Option (BitVec 256)} {s : BitVec 256} (h : o = some s) : optR o = .tuple #[cls s, .bool true] := by rw [h]; rfl
theorem optR_none {o : Option (BitVec 256)} (h : o = none) : optR o = .tuple #[cls 0#256, .bool false] := by rw [h]; rfl
theorem clsTok_val (s : BitVec 256) : tokR (some (clsTok s)) = .tuple #[.agg #[.int .i64 1, .int .i64 0, .int .u64 (wd s 0), .int .u64 (wd s 1), .int .u64 (wd s 2), .int .u64 (wd s 3), .string ⟨#[]⟩, .int .i64 0, .int .i64 0], .bool true] := rfl
set_option maxHeartbeats 4000000 in
set_option maxRecDepth 100000 in
theorem clstok_miss (l : List UInt8) (w : World) (hl : l.length ≤ 1073741824) (h94 : l.head? ≠ some 94) : Calls Tryd.prog 22 #[.string (bs l)] w (Ans w (tokR ((listV l).map clsTok))) := by
  have HM := Lib.hid (show (bs l).data.toList.head? ≠ some 94 from h94)
  clear h94
  have hLL := hl
  cases hv : listV l with
  | none =>
    have HO := Lib.hid (optR_none hv)
    have HV : Hid (tokR ((none : Option (BitVec 256)).map clsTok) = .tuple #[.agg z9, .bool false]) := rfl
    clear hv
    generalize tokR ((none : Option (BitVec 256)).map clsTok) = v at *
    go_enter Tryd.func22, Tryd.ntmps22
    go_wp2_with fail
    refine (cutp_miss _ _ _ HM.out).mono ?_; rintro e w2 ⟨rfl, rfl⟩
    go_wp2_with fail
    refine (items_any l _ hLL).mono ?_; rintro e w3 ⟨rfl, hb3⟩
    rw [HO.out]
    rw [cls_zero]
    have HX0 := Lib.hid (((Box9.new w).later hb3).later ((Below.refl _ _).alloc (Nat.le_refl _) (.cells #[.int .u64 0, .int .u64 0, .int .u64 0, .int .u64 0] 33)))
    have hz3 := ((Box9.new w).later hb3).blk.lt
    clear hb3
    go_upto_region 3 with (fail)
    generalize w3.alloc (.cells #[.int .u64 0, .int .u64 0, .int .u64 0, .int .u64 0] 33) = w4 at *
    have hk := HX0.out.blk
    unfold z9 at hk
    have ef := hk.frozen
    obtain ⟨e0, e1, e2, e3, e4, e5, e6, e7, e8⟩ := nine_cells hk
    obtain ⟨s0, s1, s2, s3, s4, s5, s6, s7, s8⟩ := nine hk
    clear hk
    go_wp2
    exact bodyPost_ret (v := .tuple #[.agg #[.int .i64 0, .int .i64 0, .int .u64 0, .int .u64 0, .int .u64 0, .int .u64 0, .string ⟨#[]⟩, .int .i64 0, .int .i64 0], .bool false]) (by simp [results, Tryd.results22, go_sem, s0, s1, s2, s3, s4, s5, s6, s7, s8]) rfl ⟨by rw [HV.out]; rfl, below9 HX0.out.bel (Nat.le_refl _) _ _ _ _ _ _ _ _ _⟩
  | some t =>
    have HO := Lib.hid (optR_some hv)
    have HV := Lib.hid (clsTok_val t)
    clear hv
    show Calls _ _ _ _ (Ans w (tokR (some (clsTok t))))
    generalize tokR (some (clsTok t)) = v at *
    go_enter Tryd.func22, Tryd.ntmps22
    go_wp2_with fail
    refine (cutp_miss _ _ _ HM.out).mono ?_; rintro e w2 ⟨rfl, rfl⟩
    go_wp2_with fail
    refine (items_any l _ hLL).mono ?_; rintro e w3 ⟨rfl, hb3⟩
    rw [HO.out]
    unfold cls
    have HX0 := Lib.hid (((Box9.new w).later hb3).later ((Below.refl _ _).alloc (Nat.le_refl _) (.cells (cells4 t) 33)))
    have HBT := Lib.hid (Blk.new w3 (cells4 t) 33)
    have hz3 := ((Box9.new w).later hb3).blk.lt
    clear hb3
    unfold cells4 at HX0 HBT
    go_upto_region 3 with (fail)
    generalize w3.alloc (.cells #[.int .u64 (wd t 0), .int .u64 (wd t 1), .int .u64 (wd t 2), .int .u64 (wd t 3)] 33) = w4 at *
    generalize w3.heap.size = bt at *
    have ht := HBT.out.cells
    have hk := HX0.out.blk
    unfold z9 at hk
    have ef := hk.frozen
    obtain ⟨e0, e1, e2, e3, e4, e5, e6, e7, e8⟩ := nine_cells hk
    obtain ⟨s0, s1, s2, s3, s4, s5, s6, s7, s8⟩ := nine hk
    clear hk
    go_wp2
    exact bodyPost_ret (v := .tuple #[.agg #[.int .i64 1, .int .i64 0, .int .u64 (wd t 0), .int .u64 (wd t 1), .int .u64 (wd t 2), .int .u64 (wd t 3), .string ⟨#[]⟩, .int .i64 0, .int .i64 0], .bool true]) (by simp [results, Tryd.results22, go_sem, s0, s1, s2, s3, s4, s5, s6, s7, s8]) rfl ⟨by rw [HV.out], below9 HX0.out.bel (Nat.le_refl _) _ _ _ _ _ _ _ _ _⟩
set_option maxHeartbeats 4000000 in
set_option maxRecDepth 100000 in
theorem clstok_hit (l : List UInt8) (w : World) (hl : l.length ≤ 1073741824) : Calls Tryd.prog 22 #[.string (bs (94 :: l))] w (Ans w (tokR (((listV l).map (~~~ ·)).map clsTok))) := by
  have hLL := hl
  cases hv : listV l with
  | none =>
    have HO := Lib.hid (optR_none hv)
    have HV : Hid (tokR (((none : Option (BitVec 256)).map (~~~ ·)).map clsTok) = .tuple #[.agg z9, .bool false]) := rfl
    clear hv
    generalize tokR (((none : Option (BitVec 256)).map (~~~ ·)).map clsTok) = v at *
    go_enter Tryd.func22, Tryd.ntmps22
    go_wp2_with fail
    refine (cutp_hit _ _ _).mono ?_; rintro e w2 ⟨rfl, rfl⟩
    go_wp2_with fail
    refine (items_any l _ hLL).mono ?_; rintro e w3 ⟨rfl, hb3⟩
    rw [HO.out]
    rw [cls_zero]
    have HX0 := Lib.hid (((Box9.new w).later hb3).later ((Below.refl _ _).alloc (Nat.le_refl _) (.cells #[.int .u64 0, .int .u64 0, .int .u64 0, .int .u64 0] 33)))
    have hz3 := ((Box9.new w).later hb3).blk.lt
    clear hb3
    go_upto_region 3 with (fail)
    generalize w3.alloc (.cells #[.int .u64 0, .int .u64 0, .int .u64 0, .int .u64 0] 33) = w4 at *
    have hk := HX0.out.blk
    unfold z9 at hk
    have ef := hk.frozen
    obtain ⟨e0, e1, e2, e3, e4, e5, e6, e7, e8⟩ := nine_cells hk
    obtain ⟨s0, s1, s2, s3, s4, s5, s6, s7, s8⟩ := nine hk
    clear hk
    go_wp2
    exact bodyPost_ret (v := .tuple #[.agg #[.int .i64 0, .int .i64 0, .int .u64 0, .int .u64 0, .int .u64 0, .int .u64 0, .string ⟨#[]⟩, .int .i64 0, .int .i64 0], .bool false]) (by simp [results, Tryd.results22, go_sem, s0, s1, s2, s3, s4, s5, s6, s7, s8]) rfl ⟨by rw [HV.out]; rfl, below9 HX0.out.bel (Nat.le_refl _) _ _ _ _ _ _ _ _ _⟩
  | some t =>
    have HO := Lib.hid (optR_some hv)
    have HV := Lib.hid (clsTok_val (~~~ t))
    clear hv
    show Calls _ _ _ _ (Ans w (tokR (some (clsTok (~~~ t)))))
    generalize tokR (some (clsTok (~~~ t))) = v at *
    go_enter Tryd.func22, Tryd.ntmps22
    go_wp2_with fail
    refine (cutp_hit _ _ _).mono ?_; rintro e w2 ⟨rfl, rfl⟩
    go_wp2_with fail
    refine (items_any l _ hLL).mono ?_; rintro e w3 ⟨rfl, hb3⟩
    rw [HO.out]
    unfold cls
    have HX0 := Lib.hid (((Box9.new w).later hb3).later ((Below.refl _ _).alloc (Nat.le_refl _) (.cells (cells4 t) 33)))
    have HBT := Lib.hid (Blk.new w3 (cells4 t) 33)
    have hz3 := ((Box9.new w).later hb3).blk.lt
    clear hb3
    unfold cells4 at HX0 HBT
    go_upto_region 3 with (fail)
    generalize w3.alloc (.cells #[.int .u64 (wd t 0), .int .u64 (wd t 1), .int .u64 (wd t 2), .int .u64 (wd t 3)] 33) = w4 at *
    generalize w3.heap.size = bt at *
    have ht := HBT.out.cells
    go_wp2_with fail
    refine (not_any t _).mono ?_; rintro e w5 ⟨rfl, hb5⟩
    have hx5 := HX0.out.later hb5
    have HBT5 := HBT.out.later hb5
    clear ht hb5
    have hft := HBT5.frozen
    have ht5 := (show Blk w5 bt (cells4 t) _ from HBT5).cells
    have hnb : w.heap.size < bt := hz3
    have HX6 : Hid (Box9 w ((((w5.setCell ⟨bt, 0, none⟩ (.int .u64 (wd (~~~t) 0))).setCell ⟨bt, 1, none⟩ (.int .u64 (wd (~~~t) 1))).setCell ⟨bt, 2, none⟩ (.int .u64 (wd (~~~t) 2))).setCell ⟨bt, 3, none⟩ (.int .u64 (wd (~~~t) 3)))) :=
      ⟨(((hx5.bel.setCell (p := ⟨bt, 0, none⟩) (Nat.le_of_lt hnb) _).setCell (p := ⟨bt, 1, none⟩) (Nat.le_of_lt hnb) _).setCell (p := ⟨bt, 2, none⟩) (Nat.le_of_lt hnb) _).setCell (p := ⟨bt, 3, none⟩) (Nat.le_of_lt hnb) _,
        (((hx5.blk.setCell_ne (a := ⟨bt, 0, none⟩) (by show bt ≠ _; omega) _).setCell_ne (a := ⟨bt, 1, none⟩) (by show bt ≠ _; omega) _).setCell_ne (a := ⟨bt, 2, none⟩) (by show bt ≠ _; omega) _).setCell_ne (a := ⟨bt, 3, none⟩) (by show bt ≠ _; omega) _⟩
    have HB6 := Lib.hid ((show Blk w5 bt (cells4 t) _ from HBT5).set4 (~~~ t))
    clear hx5 HBT5
    unfold cls
    go_upto_region 7 with (fail)
    generalize ((((w5.setCell ⟨bt, 0, none⟩ (.int .u64 (wd (~~~t) 0))).setCell ⟨bt, 1, none⟩ (.int .u64 (wd (~~~t) 1))).setCell ⟨bt, 2, none⟩ (.int .u64 (wd (~~~t) 2))).setCell ⟨bt, 3, none⟩ (.int .u64 (wd (~~~t) 3))) = w6 at *
    clear ht5 hft
    generalize ~~~ t = t' at *
    have ht := HB6.out.cells
    have hk := HX6.out.blk
    unfold z9 at hk
    have ef := hk.frozen
    obtain ⟨e0, e1, e2, e3, e4, e5, e6, e7, e8⟩ := nine_cells hk
    obtain ⟨s0, s1, s2, s3, s4, s5, s6, s7, s8⟩ := nine hk
    clear hk
    go_wp2
    exact bodyPost_ret (v := .tuple #[.agg #[.int .i64 1, .int .i64 0, .int .u64 (wd t' 0), .int .u64 (wd t' 1), .int .u64 (wd t' 2), .int .u64 (wd t' 3), .string ⟨#[]⟩, .int .i64 0, .int .i64 0], .bool true]) (by simp [results, Tryd.results22, go_sem, s0, s1, s2, s3, s4, s5, s6, s7, s8]) rfl ⟨by rw [HV.out], below9 HX6.out.bel (Nat.le_refl _) _ _ _ _ _ _ _ _ _⟩
theorem clstok_any (l : List UInt8) (w : World) (hl : l.length ≤ 1073741824) : Calls Tryd.prog 22 #[.string (bs l)] w (Ans w (tokR ((classV l).map clsTok))) := by
  unfold classV
  by_cases h : l.head? = some 94
  · rw [if_pos h]
    match l, h with
    | a :: l, h =>
      obtain rfl : a = 94 := by simpa using h
      exact clstok_hit l w (by simp at hl; omega)
  · rw [if_neg h]; exact clstok_miss l w hl h
end Go.Proofs.YtcgjmnhmhiddkaaDoor
/- A map whose keys are runes: what a look-up finds, what a new key leaves. -/
namespace Go.Proofs.YtcgjmnhmhiddkaaDoor
open Go Go.RowKit
set_option linter.unusedVariables false
set_option linter.unusedSimpArgs false

def mapEs : List (Int × Value) → Nat → List MapEntry
  | [], _ => []
  | p :: l, i => { key := .int .i32 p.1, val := p.2, born := i } :: mapEs l (i + 1)
theorem mapEs_append : ∀ (l : List (Int × Value)) (k : Int) (v : Value) (i : Nat), mapEs (l ++ [(k, v)]) i = mapEs l i ++ [{ key := .int .i32 k, val := v, born := i + l.length }]
  | [], k, v, i => rfl
  | p :: l, k, v, i => by
    show _ :: mapEs (l ++ [(k, v)]) (i + 1) = _
    rw [mapEs_append l k v (i + 1)]
    simp [mapEs]; omega
/-- What a map holds, in the order in which it was put in. -/
def IsMap (w : World) (m : Nat) (l : List (Int × Value)) : Prop := w.heap[m]? = some (.map (mapEs l 0).toArray l.length)
theorem IsMap.lt {w : World} {m : Nat} {l : List (Int × Value)} (h : IsMap w m l) : m < w.heap.size := (Array.getElem?_eq_some_iff.1 h).1
theorem IsMap.later {w w' : World} {m : Nat} {l : List (Int × Value)} (h : IsMap w m l) (hb : Below w.heap.size w w') : IsMap w' m l := (hb.block m h.lt).trans h
/-- The world with a map's block turned. -/
def putMap (w : World) (m : Nat) (l : List (Int × Value)) : World := { w with heap := w.heap.setIfInBounds m (.map (mapEs l 0).toArray l.length) }
theorem putMap_is {w : World} {m : Nat} (h : m < w.heap.size) (l' : List (Int × Value)) : IsMap (putMap w m l') m l' := by
  unfold IsMap putMap; simp [h]
theorem putMap_other {w : World} {m b : Nat} (hb : b ≠ m) (l : List (Int × Value)) : (putMap w m l).heap[b]? = w.heap[b]? := by
  unfold putMap; simp [Ne.symm hb]
theorem putMap_size (w : World) (m : Nat) (l : List (Int × Value)) : (putMap w m l).heap.size = w.heap.size := by simp [putMap]
theorem putMap_below {B : Nat} {a w : World} {m : Nat} (h : Below B a w) (hm : B ≤ m) (l : List (Int × Value)) : Below B a (putMap w m l) :=
  h.trans ⟨rfl, rfl, rfl, by rw [putMap_size]; exact Nat.le_refl _, fun i hi => putMap_other (by omega) l⟩
/-- What a look-up finds. -/
def findE : List (Int × Value) → Int → Nat → Option (Nat × Value)
  | [], _, _ => none
  | p :: l, k, i => if p.1 = k then some (i, p.2) else findE l k (i + 1)
theorem findNow_mapEs (k : Int) : ∀ (l : List (Int × Value)) (i : Nat), Instr.findNow (.int .i32) (.int .i32 k) (mapEs l i) i = some (findE l k i)
  | [], i => rfl
  | p :: l, i => by
    unfold mapEs Instr.findNow findE
    simp only [Instr.sameNow, if_true]
    by_cases h : p.1 = k
    · have : (k == p.1) = true := by rw [beq_iff_eq]; exact h.symm
      rw [this, if_pos h]
    · have : (k == p.1) = false := by rw [beq_eq_false_iff_ne]; exact fun e => h e.symm
      rw [this, if_neg h]
      exact findNow_mapEs k l (i + 1)
theorem keys_free {e : Bool} {k : Int} (w : World) : (Instr.checkKey e 10000 21 (.int .i32 k)).run Tryd.prog w = .ok () w := by
  rw [show (10000 : Nat) = 9999 + 1 from rfl]
  unfold Instr.checkKey
  simp [run_underlying Tryd.underlying21, Result.andThen]
theorem run_lookup_rune (w : World) (m : Nat) (l : List (Int × Value)) (k : Int) (hm : IsMap w m l) :
    (Instr.lookup 54 (.map (some m)) (.int .i32 k) true).run Tryd.prog w = .ok (match findE l k 0 with | some (_, v) => .tuple #[v, .bool true] | none => .tuple #[.agg #[.string ⟨#[]⟩, .int .i64 0, .nilFunc], .bool false]) w := by
  unfold IsMap at hm
  have hf := findNow_mapEs k l 0
  have hz := Tryd.zeroValue58
  simp only [Instr.lookup, Sem.run_bind, run_underlying Tryd.underlying54, Result.andThen, getObj, Sem.run, hm, keys_free, Instr.findKey, run_underlying Tryd.underlying21, hf]
  rw [show (Sem.run Tryd.prog (pure (mapEs l 0).toArray) w) = .ok (mapEs l 0).toArray w from rfl]
  simp only [hf]
  cases h : findE l k 0 with
  | none => simp [Sem.run_bind, hz, Result.andThen]
  | some p => obtain ⟨i, v⟩ := p; rfl
theorem run_update_rune (w : World) (m : Nat) (l : List (Int × Value)) (k : Int) (v : Value) (hm : IsMap w m l) (hk : findE l k 0 = none) :
    (Instr.mapUpdate 54 (.map (some m)) (.int .i32 k) v).run Tryd.prog w = .ok () (putMap w m (l ++ [(k, v)])) := by
  have hlt := hm.lt
  unfold IsMap at hm
  have hf := findNow_mapEs k l 0
  rw [hk] at hf
  simp only [Instr.mapUpdate, Sem.run_bind, run_underlying Tryd.underlying54, Result.andThen, getObj, Sem.run, hm, keys_free, Instr.findKey, run_underlying Tryd.underlying21, hf]
  simp only [setObj, Sem.run, hm]
  unfold putMap
  rw [mapEs_append]
  simp [Sem.run, hm]
end Go.Proofs.YtcgjmnhmhiddkaaDoor
/- What a byte begins: the table of beginnings, walked. -/
namespace Go.Proofs.YtcgjmnhmhiddkaaDoor
open Go Go.RowKit
set_option linter.unusedVariables false

/-- The beginning of a token of one byte, whose token is in such a box. -/
def alV (b : Nat) : Value := .agg #[.string ⟨#[]⟩, .int .i64 0, .func (.func 31) #[] #[.pointer (some ⟨b, 0, none⟩)]]
set_option maxHeartbeats 1000000 in
set_option maxRecDepth 100000 in
theorem alone_any (c0 c1 c2 c3 c4 c5 c6 c7 c8 : Value) (w : World) : Calls Tryd.prog 20 #[.agg #[c0, c1, c2, c3, c4, c5, c6, c7, c8]] w
    (fun e w' => e = .returned (alV w.heap.size) ∧ Blk w' w.heap.size #[c0, c1, c2, c3, c4, c5, c6, c7, c8] 61 ∧ Below w.heap.size w w') := by
  have HB := Lib.hid (Blk.new w #[c0, c1, c2, c3, c4, c5, c6, c7, c8] 61)
  go_enter Tryd.func20, Tryd.ntmps20
  go_wp2
  exact bodyPost_ret (v := alV w.heap.size) (by simp [results, Tryd.results20, go_sem, alV]) rfl ⟨rfl, HB.out.alloc _, by go_grown⟩
set_option maxHeartbeats 1000000 in
set_option maxRecDepth 100000 in
theorem alone1_any (k x0 x1 x2 x3 : Int) (b : Nat) (s : ByteArray) (w : World) (hb : Blk w b #[.int .i64 k, .int .i64 0, .int .u64 x0, .int .u64 x1, .int .u64 x2, .int .u64 x3, .string ⟨#[]⟩, .int .i64 0, .int .i64 0] 61) :
    Calls Tryd.prog 31 #[.string s, .pointer (some ⟨b, 0, none⟩)] w (Ans w (.tuple #[.agg #[.int .i64 k, .int .i64 0, .int .u64 x0, .int .u64 x1, .int .u64 x2, .int .u64 x3, .string ⟨#[]⟩, .int .i64 0, .int .i64 0], .bool true])) := by
  have hlt := hb.lt
  obtain ⟨e0, e1, e2, e3, e4, e5, e6, e7, e8⟩ := nine_cells hb
  have HB := Lib.hid hb
  clear hb
  go_enter Tryd.func31, Tryd.ntmps31
  go_wp2
  exact bodyPost_ret (v := .tuple #[.agg #[.int .i64 k, .int .i64 0, .int .u64 x0, .int .u64 x1, .int .u64 x2, .int .u64 x3, .string ⟨#[]⟩, .int .i64 0, .int .i64 0], .bool true]) (by simp [results, Tryd.results31, go_sem]) rfl ⟨rfl, by go_grown⟩

def begL (b1 b2 b3 b4 b5 b6 b7 : Nat) : List (Int × Value) := [(46, alV b1), (40, alV b2), (41, alV b3), (124, alV b4), (42, alV b5), (98, alV b6), (119, alV b7),
  (60, .agg #[.string ⟨#[62]⟩, .int .i64 2, .func (.func 22) #[] #[]]), (34, .agg #[.string ⟨#[34]⟩, .int .i64 3, .func (.func 23) #[] #[]]), (123, .agg #[.string ⟨#[125]⟩, .int .i64 4, .func (.func 24) #[] #[]])]
def kTok (k : Nat) : Array Value := #[.int .i64 (k : Int), .int .i64 0, .int .u64 0, .int .u64 0, .int .u64 0, .int .u64 0, .string ⟨#[]⟩, .int .i64 0, .int .i64 0]
def dotTok : Array Value := #[.int .i64 1, .int .i64 0, .int .u64 (wd (rowB 0 255) 0), .int .u64 (wd (rowB 0 255) 1), .int .u64 (wd (rowB 0 255) 2), .int .u64 (wd (rowB 0 255) 3), .string ⟨#[]⟩, .int .i64 0, .int .i64 0]
structure BegS (m b1 b2 b3 b4 b5 b6 b7 : Nat) (w : World) : Prop where
  map : IsMap w m (begL b1 b2 b3 b4 b5 b6 b7)
  t1 : Blk w b1 dotTok 61
  t2 : Blk w b2 (kTok 3) 61
  t3 : Blk w b3 (kTok 4) 61
  t4 : Blk w b4 (kTok 5) 61
  t5 : Blk w b5 (kTok 6) 61
  t6 : Blk w b6 (kTok 8) 61
  t7 : Blk w b7 (kTok 9) 61
/-- The table of beginnings. -/
def Known (m : Nat) (w : World) : Prop := ∃ b1 b2 b3 b4 b5 b6 b7, BegS m b1 b2 b3 b4 b5 b6 b7 w
theorem BegS.later {m b1 b2 b3 b4 b5 b6 b7 : Nat} {w w' : World} (h : BegS m b1 b2 b3 b4 b5 b6 b7 w) (hb : Below w.heap.size w w') : BegS m b1 b2 b3 b4 b5 b6 b7 w' :=
  ⟨h.map.later hb, h.t1.later hb, h.t2.later hb, h.t3.later hb, h.t4.later hb, h.t5.later hb, h.t6.later hb, h.t7.later hb⟩
theorem Known.later {m : Nat} {w w' : World} (h : Known m w) (hb : Below w.heap.size w w') : Known m w' := by
  obtain ⟨b1, b2, b3, b4, b5, b6, b7, h⟩ := h
  exact ⟨b1, b2, b3, b4, b5, b6, b7, h.later hb⟩
/-- The map as it grows, and the boxes so far. -/
structure Grw (w0 : World) (m : Nat) (l : List (Int × Value)) (bs : List (Nat × Array Value)) (w : World) : Prop where
  bel : Below w0.heap.size w0 w
  low : w0.heap.size ≤ m
  map : IsMap w m l
  box : ∀ p ∈ bs, Blk w p.1 p.2 61
theorem Grw.later {w0 : World} {m : Nat} {l : List (Int × Value)} {bs : List (Nat × Array Value)} {w w' : World} (h : Grw w0 m l bs w) (hb : Below w.heap.size w w') : Grw w0 m l bs w' :=
  ⟨h.bel.trans (hb.mono h.bel.size), h.low, h.map.later hb, fun p hp => (h.box p hp).later hb⟩
theorem Grw.put {w0 : World} {m : Nat} {l : List (Int × Value)} {bs : List (Nat × Array Value)} {w : World} (h : Grw w0 m l bs w) (l' : List (Int × Value)) : Grw w0 m l' bs (putMap w m l') :=
  ⟨putMap_below h.bel h.low l', h.low, putMap_is h.map.lt l', fun p hp => by
    have hne : p.1 ≠ m := fun e => by
      have h1 := h.box p hp
      have h2 := h.map
      unfold Blk at h1; unfold IsMap at h2
      rw [e, h2] at h1; cases h1
    exact (putMap_other hne l').trans (h.box p hp)⟩
theorem Grw.add {w0 : World} {m : Nat} {l : List (Int × Value)} {bs : List (Nat × Array Value)} {w : World} (h : Grw w0 m l bs w) {b : Nat} {cs : Array Value} (hk : Blk w b cs 61) : Grw w0 m l ((b, cs) :: bs) w :=
  ⟨h.bel, h.low, h.map, fun p hp => by rcases List.mem_cons.1 hp with rfl | hp; exact hk; exact h.box p hp⟩

set_option maxHeartbeats 8000000 in
set_option maxRecDepth 100000 in
theorem begin_any (w : World) : Calls Tryd.prog 15 #[] w (fun e w' => ∃ m, e = .returned (.map (some m)) ∧ Known m w' ∧ Below w.heap.size w w') := by
  have hmm := @run_makeMap Tryd.prog
  have H0 : Hid (Grw w w.heap.size [] [] (w.alloc (.map #[] 0))) := ⟨(Below.refl _ _).alloc (Nat.le_refl _) _, Nat.le_refl _, by unfold IsMap mapEs; show (w.heap.push _)[w.heap.size]? = _; simp, by simp⟩
  go_enter Tryd.func15, Tryd.ntmps15
  go_wp2_with fail
  generalize w.alloc (.map #[] 0) = w0 at *
  refine (of_any 0 255 (by decide) (by decide) _).mono ?_; rintro e wa ⟨rfl, hba⟩
  have H1 := Lib.hid (H0.out.later hba)
  clear hba
  unfold cls
  go_wp2_with fail
  generalize hb1 : wa.heap.size = b1 at *
  refine (alone_any _ _ _ _ _ _ _ _ _ _).mono ?_; rintro e wb1 ⟨rfl, hk, hb⟩
  rw [hb1] at hk
  have HN := Lib.hid ((H1.out.later hb).add hk)
  clear hk hb H1
  have hu := run_update_rune wb1 w.heap.size [] 46 (alV b1) HN.out.map rfl
  have P1 := Lib.hid (HN.out.put ([(46, alV b1)]))
  rw [hb1]
  clear hb1 HN
  go_wp2_with fail
  (try simp only [List.nil_append, List.cons_append] at P1 ⊢)
  generalize putMap wb1 w.heap.size [(46, alV b1)] = wc1 at *
  clear hu
  generalize hb2 : wc1.heap.size = b2 at *
  refine (alone_any _ _ _ _ _ _ _ _ _ _).mono ?_; rintro e wb2 ⟨rfl, hk, hb⟩
  rw [hb2] at hk
  have HN := Lib.hid ((P1.out.later hb).add hk)
  clear hk hb P1
  have hu := run_update_rune wb2 w.heap.size [(46, alV b1)] 40 (alV b2) HN.out.map rfl
  have P2 := Lib.hid (HN.out.put ([(46, alV b1), (40, alV b2)]))
  rw [hb2]
  clear hb2 HN
  go_wp2_with fail
  (try simp only [List.nil_append, List.cons_append] at P2 ⊢)
  generalize putMap wb2 w.heap.size [(46, alV b1), (40, alV b2)] = wc2 at *
  clear hu
  generalize hb3 : wc2.heap.size = b3 at *
  refine (alone_any _ _ _ _ _ _ _ _ _ _).mono ?_; rintro e wb3 ⟨rfl, hk, hb⟩
  rw [hb3] at hk
  have HN := Lib.hid ((P2.out.later hb).add hk)
  clear hk hb P2
  have hu := run_update_rune wb3 w.heap.size [(46, alV b1), (40, alV b2)] 41 (alV b3) HN.out.map rfl
  have P3 := Lib.hid (HN.out.put ([(46, alV b1), (40, alV b2), (41, alV b3)]))
  rw [hb3]
  clear hb3 HN
  go_wp2_with fail
  (try simp only [List.nil_append, List.cons_append] at P3 ⊢)
  generalize putMap wb3 w.heap.size [(46, alV b1), (40, alV b2), (41, alV b3)] = wc3 at *
  clear hu
  generalize hb4 : wc3.heap.size = b4 at *
  refine (alone_any _ _ _ _ _ _ _ _ _ _).mono ?_; rintro e wb4 ⟨rfl, hk, hb⟩
  rw [hb4] at hk
  have HN := Lib.hid ((P3.out.later hb).add hk)
  clear hk hb P3
  have hu := run_update_rune wb4 w.heap.size [(46, alV b1), (40, alV b2), (41, alV b3)] 124 (alV b4) HN.out.map rfl
  have P4 := Lib.hid (HN.out.put ([(46, alV b1), (40, alV b2), (41, alV b3), (124, alV b4)]))
  rw [hb4]
  clear hb4 HN
  go_wp2_with fail
  (try simp only [List.nil_append, List.cons_append] at P4 ⊢)
  generalize putMap wb4 w.heap.size [(46, alV b1), (40, alV b2), (41, alV b3), (124, alV b4)] = wc4 at *
  clear hu
  generalize hb5 : wc4.heap.size = b5 at *
  refine (alone_any _ _ _ _ _ _ _ _ _ _).mono ?_; rintro e wb5 ⟨rfl, hk, hb⟩
  rw [hb5] at hk
  have HN := Lib.hid ((P4.out.later hb).add hk)
  clear hk hb P4
  have hu := run_update_rune wb5 w.heap.size [(46, alV b1), (40, alV b2), (41, alV b3), (124, alV b4)] 42 (alV b5) HN.out.map rfl
  have P5 := Lib.hid (HN.out.put ([(46, alV b1), (40, alV b2), (41, alV b3), (124, alV b4), (42, alV b5)]))
  rw [hb5]
  clear hb5 HN
  go_wp2_with fail
  (try simp only [List.nil_append, List.cons_append] at P5 ⊢)
  generalize putMap wb5 w.heap.size [(46, alV b1), (40, alV b2), (41, alV b3), (124, alV b4), (42, alV b5)] = wc5 at *
  clear hu
  generalize hb6 : wc5.heap.size = b6 at *
  refine (alone_any _ _ _ _ _ _ _ _ _ _).mono ?_; rintro e wb6 ⟨rfl, hk, hb⟩
  rw [hb6] at hk
  have HN := Lib.hid ((P5.out.later hb).add hk)
  clear hk hb P5
  have hu := run_update_rune wb6 w.heap.size [(46, alV b1), (40, alV b2), (41, alV b3), (124, alV b4), (42, alV b5)] 98 (alV b6) HN.out.map rfl
  have P6 := Lib.hid (HN.out.put ([(46, alV b1), (40, alV b2), (41, alV b3), (124, alV b4), (42, alV b5), (98, alV b6)]))
  rw [hb6]
  clear hb6 HN
  go_wp2_with fail
  (try simp only [List.nil_append, List.cons_append] at P6 ⊢)
  generalize putMap wb6 w.heap.size [(46, alV b1), (40, alV b2), (41, alV b3), (124, alV b4), (42, alV b5), (98, alV b6)] = wc6 at *
  clear hu
  generalize hb7 : wc6.heap.size = b7 at *
  refine (alone_any _ _ _ _ _ _ _ _ _ _).mono ?_; rintro e wb7 ⟨rfl, hk, hb⟩
  rw [hb7] at hk
  have HN := Lib.hid ((P6.out.later hb).add hk)
  clear hk hb P6
  have hu := run_update_rune wb7 w.heap.size [(46, alV b1), (40, alV b2), (41, alV b3), (124, alV b4), (42, alV b5), (98, alV b6)] 119 (alV b7) HN.out.map rfl
  have P7 := Lib.hid (HN.out.put ([(46, alV b1), (40, alV b2), (41, alV b3), (124, alV b4), (42, alV b5), (98, alV b6), (119, alV b7)]))
  rw [hb7]
  clear hb7 HN
  have hv0 := run_update_rune (putMap wb7 w.heap.size [(46, alV b1), (40, alV b2), (41, alV b3), (124, alV b4), (42, alV b5), (98, alV b6), (119, alV b7)]) w.heap.size [(46, alV b1), (40, alV b2), (41, alV b3), (124, alV b4), (42, alV b5), (98, alV b6), (119, alV b7)] 60 (.agg #[.string ⟨#[62]⟩, .int .i64 2, .func (.func 22) #[] #[]]) P7.out.map rfl
  have P8 := Lib.hid (P7.out.put ([(46, alV b1), (40, alV b2), (41, alV b3), (124, alV b4), (42, alV b5), (98, alV b6), (119, alV b7), (60, .agg #[.string ⟨#[62]⟩, .int .i64 2, .func (.func 22) #[] #[]])]))
  (try simp only [List.nil_append, List.cons_append] at hv0)
  have hv1 := run_update_rune (putMap (putMap wb7 w.heap.size [(46, alV b1), (40, alV b2), (41, alV b3), (124, alV b4), (42, alV b5), (98, alV b6), (119, alV b7)]) w.heap.size [(46, alV b1), (40, alV b2), (41, alV b3), (124, alV b4), (42, alV b5), (98, alV b6), (119, alV b7), (60, .agg #[.string ⟨#[62]⟩, .int .i64 2, .func (.func 22) #[] #[]])]) w.heap.size [(46, alV b1), (40, alV b2), (41, alV b3), (124, alV b4), (42, alV b5), (98, alV b6), (119, alV b7), (60, .agg #[.string ⟨#[62]⟩, .int .i64 2, .func (.func 22) #[] #[]])] 34 (.agg #[.string ⟨#[34]⟩, .int .i64 3, .func (.func 23) #[] #[]]) P8.out.map rfl
  have P9 := Lib.hid (P8.out.put ([(46, alV b1), (40, alV b2), (41, alV b3), (124, alV b4), (42, alV b5), (98, alV b6), (119, alV b7), (60, .agg #[.string ⟨#[62]⟩, .int .i64 2, .func (.func 22) #[] #[]]), (34, .agg #[.string ⟨#[34]⟩, .int .i64 3, .func (.func 23) #[] #[]])]))
  (try simp only [List.nil_append, List.cons_append] at hv1)
  have hv2 := run_update_rune (putMap (putMap (putMap wb7 w.heap.size [(46, alV b1), (40, alV b2), (41, alV b3), (124, alV b4), (42, alV b5), (98, alV b6), (119, alV b7)]) w.heap.size [(46, alV b1), (40, alV b2), (41, alV b3), (124, alV b4), (42, alV b5), (98, alV b6), (119, alV b7), (60, .agg #[.string ⟨#[62]⟩, .int .i64 2, .func (.func 22) #[] #[]])]) w.heap.size [(46, alV b1), (40, alV b2), (41, alV b3), (124, alV b4), (42, alV b5), (98, alV b6), (119, alV b7), (60, .agg #[.string ⟨#[62]⟩, .int .i64 2, .func (.func 22) #[] #[]]), (34, .agg #[.string ⟨#[34]⟩, .int .i64 3, .func (.func 23) #[] #[]])]) w.heap.size [(46, alV b1), (40, alV b2), (41, alV b3), (124, alV b4), (42, alV b5), (98, alV b6), (119, alV b7), (60, .agg #[.string ⟨#[62]⟩, .int .i64 2, .func (.func 22) #[] #[]]), (34, .agg #[.string ⟨#[34]⟩, .int .i64 3, .func (.func 23) #[] #[]])] 123 (.agg #[.string ⟨#[125]⟩, .int .i64 4, .func (.func 24) #[] #[]]) P9.out.map rfl
  have P10 := Lib.hid (P9.out.put ([(46, alV b1), (40, alV b2), (41, alV b3), (124, alV b4), (42, alV b5), (98, alV b6), (119, alV b7), (60, .agg #[.string ⟨#[62]⟩, .int .i64 2, .func (.func 22) #[] #[]]), (34, .agg #[.string ⟨#[34]⟩, .int .i64 3, .func (.func 23) #[] #[]]), (123, .agg #[.string ⟨#[125]⟩, .int .i64 4, .func (.func 24) #[] #[]])]))
  (try simp only [List.nil_append, List.cons_append] at hv2)
  (try simp only [List.nil_append, List.cons_append] at hu)
  go_wp2
  go_ret
  have hG := P10.out
  refine ⟨w.heap.size, rfl, ⟨b1, b2, b3, b4, b5, b6, b7, hG.map, ?_, ?_, ?_, ?_, ?_, ?_, ?_⟩, hG.bel⟩
  · exact hG.box (b1, _) (by simp; done)
  · exact hG.box (b2, _) (by simp; done)
  · exact hG.box (b3, _) (by simp; done)
  · exact hG.box (b4, _) (by simp; done)
  · exact hG.box (b5, _) (by simp; done)
  · exact hG.box (b6, _) (by simp; done)
  · exact hG.box (b7, _) (by simp; done)
end Go.Proofs.YtcgjmnhmhiddkaaDoor
