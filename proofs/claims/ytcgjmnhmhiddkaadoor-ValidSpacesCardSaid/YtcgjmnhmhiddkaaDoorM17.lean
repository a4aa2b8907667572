/- Rows of tokens in memory, whose numbers may be any. -/
import Derived.Test.YtcgjmnhmhiddkaaDoorM15
import Derived.Test.YtcgjmnhmhiddkaaDoorM06
import Derived.Test.YtcgjmnhmhiddkaaDoorM03
import Derived.Test.YtcgjmnhmhiddkaaDoorM05
namespace Go.Proofs.YtcgjmnhmhiddkaaDoor
open Go Go.RowKit
set_option linter.unusedVariables false

def tkC (t : Tk) : Array Value := #[.int .i64 t.kind, .int .i64 t.at_, .int .u64 (wd t.cls 0), .int .u64 (wd t.cls 1), .int .u64 (wd t.cls 2), .int .u64 (wd t.cls 3), .string (bs t.text), .int .i64 t.lo, .int .i64 t.hi]
/-- A token that lex answers. -/
def Tok.tk (t : Tok) : Tk := { kind := (t.kind : Int), at_ := (t.at_ : Int), lo := (t.lo : Int), hi := (t.hi : Int), cls := t.cls, text := t.text }
theorem tk_tok (t : Tok) : tkC t.tk = tokC t := rfl
/-- A row of tokens that is read. -/
def TkRow (w : World) (a : Option Addr) (l : List Tk) : Prop :=
  ∀ i, i < l.length → ∃ b off, a = some ⟨b, off, none⟩ ∧ b < w.heap.size ∧ ∀ j, j < 9 → w.cell? ⟨b, off + i * 9 + j, none⟩ = (tkC (l.getD i tkEnd))[j]?
theorem TkRow.later {w w' : World} {a : Option Addr} {l : List Tk} (h : TkRow w a l) (hb : Below w.heap.size w w') : TkRow w' a l := fun i hi => by
  obtain ⟨b, off, ha, hlt, hc⟩ := h i hi
  exact ⟨b, off, ha, Nat.lt_of_lt_of_le hlt hb.size, fun j hj => (hb.cell (p := ⟨b, off + i * 9 + j, none⟩) hlt).trans (hc j hj)⟩
theorem TkRow.nil (w : World) (a : Option Addr) : TkRow w a [] := fun i hi => by simp at hi
theorem TRow.tk {w : World} {a : Option Addr} {l : List Tok} (h : TRow w a l) : TkRow w a (l.map Tok.tk) := fun i hi => by
  rw [List.length_map] at hi
  obtain ⟨b, off, ha, hlt, hc⟩ := h i hi
  refine ⟨b, off, ha, hlt, fun j hj => (hc j hj).trans ?_⟩
  have : (l.map Tok.tk).getD i tkEnd = (l.getD i tok0).tk := by simp [hi]
  rw [this, tk_tok]
theorem tk_zero : tkC tkEnd = #[.int .i64 10, .int .i64 0, .int .u64 0, .int .u64 0, .int .u64 0, .int .u64 0, .string ⟨#[]⟩, .int .i64 0, .int .i64 0] := by kernel_rfl
end Go.Proofs.YtcgjmnhmhiddkaaDoor
/- The parser's token, and what begins: walked. -/
namespace Go.Proofs.YtcgjmnhmhiddkaaDoor
open Go Go.RowKit
set_option linter.unusedVariables false
set_option linter.unusedSimpArgs false

def At9K (w : World) (b o : Nat) (x : Tk) : Prop := w.cell? ⟨b, o, none⟩ = some (.int .i64 x.kind) ∧ w.cell? ⟨b, o + 1, none⟩ = some (.int .i64 x.at_) ∧ w.cell? ⟨b, o + 2, none⟩ = some (.int .u64 (wd x.cls 0)) ∧ w.cell? ⟨b, o + 3, none⟩ = some (.int .u64 (wd x.cls 1)) ∧
  w.cell? ⟨b, o + 4, none⟩ = some (.int .u64 (wd x.cls 2)) ∧ w.cell? ⟨b, o + 5, none⟩ = some (.int .u64 (wd x.cls 3)) ∧ w.cell? ⟨b, o + 6, none⟩ = some (.string (bs x.text)) ∧ w.cell? ⟨b, o + 7, none⟩ = some (.int .i64 x.lo) ∧ w.cell? ⟨b, o + 8, none⟩ = some (.int .i64 x.hi)
theorem TkRow.at {w : World} {A : Option Addr} {a : List Tk} (h : TkRow w A a) {i : Nat} (hi : i < a.length) {b o : Nat} (hA : A = some ⟨b, o, none⟩) : At9K w b (o + i * 9) (tkAt a i) := by
  obtain ⟨b', o', h1, _, h2⟩ := h i hi
  rw [hA] at h1; cases h1
  exact ⟨h2 0 (by omega), h2 1 (by omega), h2 2 (by omega), h2 3 (by omega), h2 4 (by omega), h2 5 (by omega), h2 6 (by omega), h2 7 (by omega), h2 8 (by omega)⟩
/-- What token holds while it runs. -/
structure TkS (w0 : World) (pb : Nat) (cs : Array Value) (A : Option Addr) (l : List Tk) (w : World) : Prop where
  bel : Below w0.heap.size w0 w
  blk : Blk w pb cs 65
  row : TkRow w A l
  box : Blk w w0.heap.size z9 61
theorem TkS.later {w0 : World} {pb : Nat} {cs : Array Value} {A : Option Addr} {l : List Tk} {w w' : World} (h : TkS w0 pb cs A l w) (hb : Below w.heap.size w w') : TkS w0 pb cs A l w' :=
  ⟨h.bel.trans (hb.mono h.bel.size), h.blk.later hb, h.row.later hb, h.box.later hb⟩
set_option maxHeartbeats 2000000 in
set_option maxRecDepth 100000 in
theorem begins_any (t : Tk) (w : World) : Calls Tryd.prog 59 #[.agg (tkC t)] w (Ans w (.bool (begK t.kind))) := by
  have HB := Lib.hid (Blk.new w (tkC t) 61)
  have hbel := Lib.hid ((Below.refl w.heap.size w).alloc (Nat.le_refl _) (.cells (tkC t) 61))
  have HK : Hid (∀ b, begK t.kind = b → b = begK t.kind) := fun b h => h.symm
  unfold tkC at HB hbel ⊢
  go_enter Tryd.func59, Tryd.ntmps59
  go_upto_region 1 with (fail)
  generalize w.alloc (.cells #[.int .i64 t.kind, .int .i64 t.at_, .int .u64 (wd t.cls 0), .int .u64 (wd t.cls 1), .int .u64 (wd t.cls 2), .int .u64 (wd t.cls 3), .string (bs t.text), .int .i64 t.lo, .int .i64 t.hi] 61) = w1 at *
  obtain ⟨e0, -, -, -, -, -, -, -, -⟩ := nine_cells HB.out
  generalize t.kind = k at *
  by_cases hk : begK k = true
  · unfold begK at hk ⊢
    simp only [Bool.or_eq_true, decide_eq_true_eq] at hk
    rcases hk with (((rfl | rfl) | rfl) | rfl) | rfl
    all_goals (go_wp2; exact bodyPost_ret (v := .bool true) (by simp [results, Tryd.results59, go_sem]) rfl ⟨rfl, hbel.out⟩)
  · have HF : Hid (begK k = false) := by unfold Hid; simpa using hk
    unfold begK at hk
    simp only [Bool.or_eq_true, decide_eq_true_eq, not_or] at hk
    obtain ⟨⟨⟨⟨k1, k2⟩, k3⟩, k8⟩, k9⟩ := hk
    have b1 := beq_false_of_ne k1
    have b2 := beq_false_of_ne k2
    have b3 := beq_false_of_ne k3
    have b8 := beq_false_of_ne k8
    have b9 := beq_false_of_ne k9
    go_wp2
    exact bodyPost_ret (v := .bool false) (by simp [results, Tryd.results59, go_sem]) rfl ⟨by rw [HF.out], hbel.out⟩
set_option maxHeartbeats 2000000 in
set_option maxRecDepth 100000 in
theorem token_any (l : List Tk) (A : Option Addr) (cp r : Nat) (v2 v3 v4 v5 : Value) (pb : Nat) (w : World) (hb : Blk w pb #[.slice A l.length cp, .int .i64 (r : Int), v2, v3, v4, v5] 65) (hr : TkRow w A l) (hl : l.length ≤ 1073741824) (hrd : r ≤ 1073741824) :
    Calls Tryd.prog 41 #[.pointer (some ⟨pb, 0, none⟩)] w (Ans w (.agg (tkC (tkAt l r)))) := by
  have HX : Hid (TkS w pb #[.slice A l.length cp, .int .i64 (r : Int), v2, v3, v4, v5] A l (w.alloc (.cells z9 61))) :=
    ⟨(Below.refl _ _).alloc (Nat.le_refl _) _, hb.alloc _, hr.later ((Below.refl _ _).alloc (Nat.le_refl _) _), Blk.new w _ _⟩
  have HR := Lib.hid hr
  have hlt0 := hb.lt
  clear hb hr
  unfold z9 at HX
  go_enter Tryd.func41, Tryd.ntmps41
  go_upto_region 1 with (fail)
  generalize w.alloc (.cells #[.int .i64 0, .int .i64 0, .int .u64 0, .int .u64 0, .int .u64 0, .int .u64 0, .string ⟨#[]⟩, .int .i64 0, .int .i64 0] 61) = w1 at *
  by_cases hlt : r < l.length
  · have hd : decide ((r : Int) < (l.length : Int)) = true := decide_eq_true (by omega)
    have hltz : (r : Int) < (l.length : Int) := by omega
    obtain ⟨ba, oa, rfl, _, _⟩ := HR.out r hlt
    have FA := Lib.hid (fun (w' : World) (h : TkRow w' (some ⟨ba, oa, none⟩) l) => h.at hlt rfl)
    generalize tkAt l r = x at *
    refine wp_region_stable (S := (TkS w pb #[.slice (some ⟨ba, oa, none⟩) l.length cp, .int .i64 (r : Int), v2, v3, v4, v5] (some ⟨ba, oa, none⟩) l)) (hSt := fun _ _ h hb => h.later hb) (plan := [[(0, none)], [(3, some 0)], [(4, some 1)], [(5, some 2)], [(0, none)], [(7, some 4)], [(8, some 5)], [(9, some 6)], [(10, some 7)], [(6, some 3), (11, some 8)]]) (by kernel_rfl) (by kernel_rfl) (by kernel_rfl) ?hS ?_
    rotate_left
    iterate 10 first
      | (refine chain_skip (by rfl) (by rfl) ?_)
      | (apply chain_want (by rfl)
         · intro act wx hS hr
           simp at hr
           have c0 := hS.blk.cell 0
           have c1 := hS.blk.cell 1
           simp at c0 c1
           have cl := hS.blk.lt
           go_simp
           (try go_ints)
           first
             | exact Done.same
        )
    show ∀ w', _ → _
    intro wz hz
    simp [Act.put]
    case hS => exact HX.out
    have HZ := Lib.hid hz
    clear hz
    go_upto_region 2 with (fail)
    refine wp_region_stable_last (S := (TkS w pb #[.slice (some ⟨ba, oa, none⟩) l.length cp, .int .i64 (r : Int), v2, v3, v4, v5] (some ⟨ba, oa, none⟩) l)) (hSt := fun _ _ h hb => h.later hb) (plan := [[(0, none)], [(13, some 0)], [(14, some 1)], [(15, some 2)], [(0, none)], [(17, some 4)], [(18, some 5)], [(19, some 6)], [(16, some 3), (20, some 7)], [(21, some 8)]]) rfl (by kernel_rfl) (by kernel_rfl) (by kernel_rfl) (by kernel_rfl) ?hS ?_
    rotate_left
    simp only [List.dropLast]
    iterate 10 first
      | (refine chain_skip (by rfl) (by rfl) ?_)
      | (apply chain_want (by rfl)
         · intro act wx hS hr
           simp at hr
           have c0 := hS.blk.cell 0
           have c1 := hS.blk.cell 1
           simp at c0 c1
           have cl := hS.blk.lt
           have g := FA.out _ hS.row
           unfold At9K at g
           obtain ⟨g0, g1, g2, g3, g4, g5, g6, g7, g8⟩ := g
           go_simp
           (try go_ints)
           first
             | exact Done.same (v := .agg (tkC x))
             | exact Done.same
        )
    show ∀ w', _ → _
    intro wy hy
    simp [Act.put]
    case hS => exact HZ.out
    obtain ⟨n0, n1, n2, n3, n4, n5, n6, n7, n8⟩ := nine hy.box
    obtain ⟨m0, m1, m2, m3, m4, m5, m6, m7, m8⟩ := nine_cells hy.box
    have nf := hy.box.frozen
    have hbl := Lib.hid (below9 hy.bel (Nat.le_refl _) (.int .i64 x.kind) (.int .i64 x.at_) (.int .u64 (wd x.cls 0)) (.int .u64 (wd x.cls 1)) (.int .u64 (wd x.cls 2)) (.int .u64 (wd x.cls 3)) (.string (bs x.text)) (.int .i64 x.lo) (.int .i64 x.hi))
    have hbk := Lib.hid (nine_cells (nine_blk hy.box (.int .i64 x.kind) (.int .i64 x.at_) (.int .u64 (wd x.cls 0)) (.int .u64 (wd x.cls 1)) (.int .u64 (wd x.cls 2)) (.int .u64 (wd x.cls 3)) (.string (bs x.text)) (.int .i64 x.lo) (.int .i64 x.hi)))
    clear hy
    unfold tkC
    go_wp2
    obtain ⟨r0, r1, r2, r3, r4, r5, r6, r7, r8⟩ := hbk.out
    exact bodyPost_ret (v := .agg #[.int .i64 x.kind, .int .i64 x.at_, .int .u64 (wd x.cls 0), .int .u64 (wd x.cls 1), .int .u64 (wd x.cls 2), .int .u64 (wd x.cls 3), .string (bs x.text), .int .i64 x.lo, .int .i64 x.hi]) (by simp [results, Tryd.results41, go_sem, r0, r1, r2, r3, r4, r5, r6, r7, r8]) rfl ⟨rfl, hbl.out⟩
  · have hd : decide ((r : Int) < (l.length : Int)) = false := decide_eq_false (by omega)
    have HE : Hid (tkC (tkAt l r) = #[.int .i64 10, .int .i64 0, .int .u64 0, .int .u64 0, .int .u64 0, .int .u64 0, .string ⟨#[]⟩, .int .i64 0, .int .i64 0]) := by
      unfold Hid; rw [← tk_zero]; congr 1
      unfold tkAt; rw [List.getD_eq_getElem?_getD, List.getElem?_eq_none (by omega)]; rfl
    refine wp_region_stable (S := (TkS w pb #[.slice A l.length cp, .int .i64 (r : Int), v2, v3, v4, v5] A l)) (hSt := fun _ _ h hb => h.later hb) (plan := [[(0, none)], [(3, some 0)], [(4, some 1)], [(5, some 2)], [(0, none)], [(7, some 4)], [(8, some 5)], [(9, some 6)], [(10, some 7)], [(6, some 3), (11, some 8)]]) (by kernel_rfl) (by kernel_rfl) (by kernel_rfl) ?hS ?_
    rotate_left
    iterate 10 first
      | (refine chain_skip (by rfl) (by rfl) ?_)
      | (apply chain_want (by rfl)
         · intro act wx hS hr
           simp at hr
           have c0 := hS.blk.cell 0
           have c1 := hS.blk.cell 1
           simp at c0 c1
           have cl := hS.blk.lt
           go_simp
           (try go_ints)
           first
             | exact Done.same
        )
    show ∀ w', _ → _
    intro wz hz
    simp [Act.put]
    case hS => exact HX.out
    obtain ⟨n0, n1, n2, n3, n4, n5, n6, n7, n8⟩ := nine hz.box
    obtain ⟨m0, m1, m2, m3, m4, m5, m6, m7, m8⟩ := nine_cells hz.box
    have nf := hz.box.frozen
    have hbl := Lib.hid (below9 hz.bel (Nat.le_refl _) (.int .i64 10) (.int .i64 0) (.int .u64 0) (.int .u64 0) (.int .u64 0) (.int .u64 0) (.string ⟨#[]⟩) (.int .i64 0) (.int .i64 0))
    have hbk := Lib.hid (nine_cells (nine_blk hz.box (.int .i64 10) (.int .i64 0) (.int .u64 0) (.int .u64 0) (.int .u64 0) (.int .u64 0) (.string ⟨#[]⟩) (.int .i64 0) (.int .i64 0)))
    clear hz
    go_wp2
    obtain ⟨r0, r1, r2, r3, r4, r5, r6, r7, r8⟩ := hbk.out
    exact bodyPost_ret (v := .agg #[.int .i64 10, .int .i64 0, .int .u64 0, .int .u64 0, .int .u64 0, .int .u64 0, .string ⟨#[]⟩, .int .i64 0, .int .i64 0]) (by simp [results, Tryd.results41, go_sem, r0, r1, r2, r3, r4, r5, r6, r7, r8]) rfl ⟨by rw [HE.out], hbl.out⟩
end Go.Proofs.YtcgjmnhmhiddkaaDoor
/- Boxes of ten cells. -/
namespace Go.Proofs.YtcgjmnhmhiddkaaDoor
open Go Go.RowKit
set_option linter.unusedVariables false

/-- A node's cells. -/
def ndC (n : Nd) : Array Value := #[.int .i64 n.kind, .int .i64 n.a, .int .i64 n.b, .int .i64 n.lo, .int .i64 n.hi, .int .u64 (wd n.cls 0), .int .u64 (wd n.cls 1), .int .u64 (wd n.cls 2), .int .u64 (wd n.cls 3), .string (bs n.text)]
def z10 : Array Value := #[.int .i64 0, .int .i64 0, .int .i64 0, .int .i64 0, .int .i64 0, .int .u64 0, .int .u64 0, .int .u64 0, .int .u64 0, .string ⟨#[]⟩]
theorem Blk.put10 {w : World} {b : Nat} {t : TypeId} {vs : Array Value} (h : Blk w b vs t) {o : Nat} (ho : o < vs.size) (v : Value) : (w.setCell ⟨b, o, none⟩ v).cell? ⟨b, o, none⟩ = some v := by
  rw [(h.setCell o v).cell o]; simp [ho]
section
variable {w : World} {b : Nat} {t : TypeId} {c0 c1 c2 c3 c4 c5 c6 c7 c8 c9 : Value}
/-- What is stored is read. -/
theorem ten (h : Blk w b #[c0, c1, c2, c3, c4, c5, c6, c7, c8, c9] t) :
    (∀ v0 : Value, (w.setCell ⟨b, 0, none⟩ v0).cell? ⟨b, 0, none⟩ = some v0) ∧ (∀ v0 v1 : Value, ((w.setCell ⟨b, 0, none⟩ v0).setCell ⟨b, 1, none⟩ v1).cell? ⟨b, 1, none⟩ = some v1) ∧ (∀ v0 v1 v2 : Value, (((w.setCell ⟨b, 0, none⟩ v0).setCell ⟨b, 1, none⟩ v1).setCell ⟨b, 2, none⟩ v2).cell? ⟨b, 2, none⟩ = some v2) ∧ (∀ v0 v1 v2 v3 : Value, ((((w.setCell ⟨b, 0, none⟩ v0).setCell ⟨b, 1, none⟩ v1).setCell ⟨b, 2, none⟩ v2).setCell ⟨b, 3, none⟩ v3).cell? ⟨b, 3, none⟩ = some v3) ∧ (∀ v0 v1 v2 v3 v4 : Value, (((((w.setCell ⟨b, 0, none⟩ v0).setCell ⟨b, 1, none⟩ v1).setCell ⟨b, 2, none⟩ v2).setCell ⟨b, 3, none⟩ v3).setCell ⟨b, 4, none⟩ v4).cell? ⟨b, 4, none⟩ = some v4) ∧ (∀ v0 v1 v2 v3 v4 v5 : Value, ((((((w.setCell ⟨b, 0, none⟩ v0).setCell ⟨b, 1, none⟩ v1).setCell ⟨b, 2, none⟩ v2).setCell ⟨b, 3, none⟩ v3).setCell ⟨b, 4, none⟩ v4).setCell ⟨b, 5, none⟩ v5).cell? ⟨b, 5, none⟩ = some v5) ∧ (∀ v0 v1 v2 v3 v4 v5 v6 : Value, (((((((w.setCell ⟨b, 0, none⟩ v0).setCell ⟨b, 1, none⟩ v1).setCell ⟨b, 2, none⟩ v2).setCell ⟨b, 3, none⟩ v3).setCell ⟨b, 4, none⟩ v4).setCell ⟨b, 5, none⟩ v5).setCell ⟨b, 6, none⟩ v6).cell? ⟨b, 6, none⟩ = some v6) ∧ (∀ v0 v1 v2 v3 v4 v5 v6 v7 : Value, ((((((((w.setCell ⟨b, 0, none⟩ v0).setCell ⟨b, 1, none⟩ v1).setCell ⟨b, 2, none⟩ v2).setCell ⟨b, 3, none⟩ v3).setCell ⟨b, 4, none⟩ v4).setCell ⟨b, 5, none⟩ v5).setCell ⟨b, 6, none⟩ v6).setCell ⟨b, 7, none⟩ v7).cell? ⟨b, 7, none⟩ = some v7) ∧ (∀ v0 v1 v2 v3 v4 v5 v6 v7 v8 : Value, (((((((((w.setCell ⟨b, 0, none⟩ v0).setCell ⟨b, 1, none⟩ v1).setCell ⟨b, 2, none⟩ v2).setCell ⟨b, 3, none⟩ v3).setCell ⟨b, 4, none⟩ v4).setCell ⟨b, 5, none⟩ v5).setCell ⟨b, 6, none⟩ v6).setCell ⟨b, 7, none⟩ v7).setCell ⟨b, 8, none⟩ v8).cell? ⟨b, 8, none⟩ = some v8) ∧ (∀ v0 v1 v2 v3 v4 v5 v6 v7 v8 v9 : Value, ((((((((((w.setCell ⟨b, 0, none⟩ v0).setCell ⟨b, 1, none⟩ v1).setCell ⟨b, 2, none⟩ v2).setCell ⟨b, 3, none⟩ v3).setCell ⟨b, 4, none⟩ v4).setCell ⟨b, 5, none⟩ v5).setCell ⟨b, 6, none⟩ v6).setCell ⟨b, 7, none⟩ v7).setCell ⟨b, 8, none⟩ v8).setCell ⟨b, 9, none⟩ v9).cell? ⟨b, 9, none⟩ = some v9) :=
  ⟨fun v0 => (h).put10 (by simp) v0, fun v0 v1 => ((h).setCell 0 v0).put10 (by simp) v1, fun v0 v1 v2 => (((h).setCell 0 v0).setCell 1 v1).put10 (by simp) v2, fun v0 v1 v2 v3 => ((((h).setCell 0 v0).setCell 1 v1).setCell 2 v2).put10 (by simp) v3, fun v0 v1 v2 v3 v4 => (((((h).setCell 0 v0).setCell 1 v1).setCell 2 v2).setCell 3 v3).put10 (by simp) v4, fun v0 v1 v2 v3 v4 v5 => ((((((h).setCell 0 v0).setCell 1 v1).setCell 2 v2).setCell 3 v3).setCell 4 v4).put10 (by simp) v5, fun v0 v1 v2 v3 v4 v5 v6 => (((((((h).setCell 0 v0).setCell 1 v1).setCell 2 v2).setCell 3 v3).setCell 4 v4).setCell 5 v5).put10 (by simp) v6, fun v0 v1 v2 v3 v4 v5 v6 v7 => ((((((((h).setCell 0 v0).setCell 1 v1).setCell 2 v2).setCell 3 v3).setCell 4 v4).setCell 5 v5).setCell 6 v6).put10 (by simp) v7, fun v0 v1 v2 v3 v4 v5 v6 v7 v8 => (((((((((h).setCell 0 v0).setCell 1 v1).setCell 2 v2).setCell 3 v3).setCell 4 v4).setCell 5 v5).setCell 6 v6).setCell 7 v7).put10 (by simp) v8, fun v0 v1 v2 v3 v4 v5 v6 v7 v8 v9 => ((((((((((h).setCell 0 v0).setCell 1 v1).setCell 2 v2).setCell 3 v3).setCell 4 v4).setCell 5 v5).setCell 6 v6).setCell 7 v7).setCell 8 v8).put10 (by simp) v9⟩
theorem ten_cells (h : Blk w b #[c0, c1, c2, c3, c4, c5, c6, c7, c8, c9] t) :
    w.cell? ⟨b, 0, none⟩ = some c0 ∧ w.cell? ⟨b, 1, none⟩ = some c1 ∧ w.cell? ⟨b, 2, none⟩ = some c2 ∧ w.cell? ⟨b, 3, none⟩ = some c3 ∧ w.cell? ⟨b, 4, none⟩ = some c4 ∧ w.cell? ⟨b, 5, none⟩ = some c5 ∧ w.cell? ⟨b, 6, none⟩ = some c6 ∧ w.cell? ⟨b, 7, none⟩ = some c7 ∧ w.cell? ⟨b, 8, none⟩ = some c8 ∧ w.cell? ⟨b, 9, none⟩ = some c9 :=
  ⟨h.cell 0, h.cell 1, h.cell 2, h.cell 3, h.cell 4, h.cell 5, h.cell 6, h.cell 7, h.cell 8, h.cell 9⟩
end
theorem below10 {B : Nat} {a w : World} (h : Below B a w) {b : Nat} (hb : B ≤ b) (v0 v1 v2 v3 v4 v5 v6 v7 v8 v9 : Value) : Below B a ((((((((((w.setCell ⟨b, 0, none⟩ v0).setCell ⟨b, 1, none⟩ v1).setCell ⟨b, 2, none⟩ v2).setCell ⟨b, 3, none⟩ v3).setCell ⟨b, 4, none⟩ v4).setCell ⟨b, 5, none⟩ v5).setCell ⟨b, 6, none⟩ v6).setCell ⟨b, 7, none⟩ v7).setCell ⟨b, 8, none⟩ v8).setCell ⟨b, 9, none⟩ v9) := ((((((((((h).setCell (p := ⟨b, 0, none⟩) hb v0).setCell (p := ⟨b, 1, none⟩) hb v1).setCell (p := ⟨b, 2, none⟩) hb v2).setCell (p := ⟨b, 3, none⟩) hb v3).setCell (p := ⟨b, 4, none⟩) hb v4).setCell (p := ⟨b, 5, none⟩) hb v5).setCell (p := ⟨b, 6, none⟩) hb v6).setCell (p := ⟨b, 7, none⟩) hb v7).setCell (p := ⟨b, 8, none⟩) hb v8).setCell (p := ⟨b, 9, none⟩) hb v9
end Go.Proofs.YtcgjmnhmhiddkaaDoor
/- Nodes turned to values of types of their own: walked. -/
namespace Go.Proofs.YtcgjmnhmhiddkaaDoor
open Go Go.RowKit
set_option linter.unusedVariables false
set_option linter.unusedSimpArgs false

/-- The node as a value of its kind's type. -/
def anyV (k a b lo hi c0 c1 c2 c3 : Int) (s : ByteArray) : Value :=
  if k = 1 then .iface 133 (.agg #[])
  else if k = 2 then .iface 135 (.agg #[.int .u64 c0, .int .u64 c1, .int .u64 c2, .int .u64 c3])
  else if k = 3 then .iface 137 (.agg #[.string s])
  else if k = 6 ∨ k = 8 ∨ k = 9 then .iface 127 (.agg #[.int .i64 k, .int .i64 a])
  else if k = 7 then .iface 129 (.agg #[.int .i64 a, .int .i64 lo, .int .i64 hi])
  else if k = 4 ∨ k = 5 then .iface 131 (.agg #[.int .i64 k, .int .i64 a, .int .i64 b])
  else .nilIface
set_option maxHeartbeats 4000000 in
set_option maxRecDepth 100000 in
theorem turned_raw (k a b lo hi c0 c1 c2 c3 : Int) (s : ByteArray) (w : World) :
    Calls Tryd.prog 86 #[.agg #[.int .i64 k, .int .i64 a, .int .i64 b, .int .i64 lo, .int .i64 hi, .int .u64 c0, .int .u64 c1, .int .u64 c2, .int .u64 c3, .string s]] w (Ans w (anyV k a b lo hi c0 c1 c2 c3 s)) := by
  obtain ⟨V, hV⟩ : ∃ V, V = anyV k a b lo hi c0 c1 c2 c3 s := ⟨_, rfl⟩
  rw [← hV]
  unfold anyV at hV
  by_cases h1 : k = 1
  · subst h1
    rw [if_pos rfl] at hV
    subst hV
    go_enter Tryd.func86, Tryd.ntmps86
    go_wp2
    go_ret
    exact ⟨rfl, (Below.refl _ _).alloc (Nat.le_refl _) _⟩
  by_cases h2 : k = 2
  · subst h2
    rw [if_neg (by decide), if_pos rfl] at hV
    subst hV
    go_enter Tryd.func86, Tryd.ntmps86
    go_wp2
    go_ret
    exact ⟨rfl, (Below.refl _ _).alloc (Nat.le_refl _) _⟩
  by_cases h3 : k = 3
  · subst h3
    rw [if_neg (by decide), if_neg (by decide), if_pos rfl] at hV
    subst hV
    go_enter Tryd.func86, Tryd.ntmps86
    go_wp2
    go_ret
    exact ⟨rfl, (Below.refl _ _).alloc (Nat.le_refl _) _⟩
  rw [if_neg h1, if_neg h2, if_neg h3] at hV
  by_cases h6 : k = 6 ∨ k = 8 ∨ k = 9
  · rw [if_pos h6] at hV
    subst hV
    rcases h6 with rfl | rfl | rfl
    all_goals
      clear h1 h2 h3
      go_enter Tryd.func86, Tryd.ntmps86
      go_wp2
      go_ret
      exact ⟨rfl, (Below.refl _ _).alloc (Nat.le_refl _) _⟩
  rw [if_neg h6] at hV
  by_cases h7 : k = 7
  · rw [if_pos h7] at hV
    subst hV
    subst h7
    clear h1 h2 h3 h6
    go_enter Tryd.func86, Tryd.ntmps86
    go_wp2
    go_ret
    exact ⟨rfl, (Below.refl _ _).alloc (Nat.le_refl _) _⟩
  rw [if_neg h7] at hV
  by_cases h4 : k = 4 ∨ k = 5
  · rw [if_pos h4] at hV
    subst hV
    rcases h4 with rfl | rfl
    all_goals
      clear h1 h2 h3 h6 h7
      go_enter Tryd.func86, Tryd.ntmps86
      go_wp2
      go_ret
      exact ⟨rfl, (Below.refl _ _).alloc (Nat.le_refl _) _⟩
  rw [if_neg h4] at hV
  subst hV
  have g1 : (k == 1) = false := by rw [beq_eq_false_iff_ne]; omega
  have g2 : (k == 2) = false := by rw [beq_eq_false_iff_ne]; omega
  have g3 : (k == 3) = false := by rw [beq_eq_false_iff_ne]; omega
  have g4 : (k == 4) = false := by rw [beq_eq_false_iff_ne]; omega
  have g5 : (k == 5) = false := by rw [beq_eq_false_iff_ne]; omega
  have g6 : (k == 6) = false := by rw [beq_eq_false_iff_ne]; omega
  have g7 : (k == 7) = false := by rw [beq_eq_false_iff_ne]; omega
  have g8 : (k == 8) = false := by rw [beq_eq_false_iff_ne]; omega
  have g9 : (k == 9) = false := by rw [beq_eq_false_iff_ne]; omega
  clear h1 h2 h3 h6 h7 h4
  go_enter Tryd.func86, Tryd.ntmps86
  go_wp2
  go_ret
  exact ⟨rfl, (Below.refl _ _).alloc (Nat.le_refl _) _⟩
end Go.Proofs.YtcgjmnhmhiddkaaDoor
