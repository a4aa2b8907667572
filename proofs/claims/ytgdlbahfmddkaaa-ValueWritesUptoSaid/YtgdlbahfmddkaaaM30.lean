/- What a value writes: the document's walk, a repeat. -/
import Derived.Test.YtgdlbahfmddkaaaM29
import Derived.Test.YtgdlbahfmddkaaaM24
namespace Go.Proofs.Ytgdlbahfmddkaaa
open Go Go.RowKit
set_option linter.unusedVariables false
set_option linter.unusedSimpArgs false
set_option maxRecDepth 100000

end Go.Proofs.Ytgdlbahfmddkaaa
/- What a value writes: the document's walk, all nodes; Write, Few. -/
namespace Go.Proofs.Ytgdlbahfmddkaaa
open Go Go.RowKit
set_option linter.unusedVariables false
set_option linter.unusedSimpArgs false
set_option maxRecDepth 100000

/-- A description and a value in their boxes. -/
structure WvS (w0 : World) (A : Option Addr) (l : List Nd) (c : Nat) (v : Vl) (B : Option Addr) (cv : Nat) (w : World) : Prop where
  bel : Below w0.heap.size w0 w
  row : NRow w A l
  box : Blk w w0.heap.size #[.slice A l.length c] 24
  bv : Blk w (w0.heap.size + 1) (vlC v B cv) 27
  kids : VRow w B 0 v.kids
theorem WvS.later {w0 w w' : World} {A : Option Addr} {l : List Nd} {c : Nat} {v : Vl} {B : Option Addr} {cv : Nat} (h : WvS w0 A l c v B cv w) (hb : Below w.heap.size w w') : WvS w0 A l c v B cv w' := ⟨h.bel.trans (hb.mono h.bel.size), h.row.later hb, h.box.later hb, h.bv.later hb, h.kids.later hb⟩
theorem WvS.new (w : World) (A : Option Addr) (l : List Nd) (c : Nat) (v : Vl) (B : Option Addr) (cv : Nat) (h : NRow w A l) (k : VRow w B 0 v.kids) : WvS w A l c v B cv ((w.alloc (.cells #[.slice A l.length c] 24)).alloc (.cells (vlC v B cv) 27)) := by
  have HB := ((Below.refl w.heap.size w).alloc (Nat.le_refl _) (.cells #[.slice A l.length c] 24)).alloc (by simp) (.cells (vlC v B cv) 27)
  exact ⟨HB, h.later HB, (Blk.new w _ _).alloc _, Blk.new' (by simp) _ _, k.later HB⟩
/-- A value of few? -/
def fewV (v : Vl) : Bool := decide (cntV v ≤ 400) && decide (v.text.length ≤ 400)
set_option maxHeartbeats 16000000 in
theorem rfewv_any (v : Vl) (hv : cntV v ≤ 4611686018427387904) (u : Value) (w : World) (hu : IsV w u v) : Calls Try.prog 10 #[u] w (Ans w (.bool (fewV v))) := by
  obtain ⟨B, cv, hcv, rfl, hkr⟩ := hu
  have HS0 := Lib.hid (MnS.new (c := cv) hkr)
  have CM : Hid (∀ w', MnS w v B cv w' → Calls Try.prog 17 #[.agg (vlC v B cv)] w' (Ans w' (.int .i64 ((cntV v : Nat) : Int)))) := fun w' h => rmany_any v hv _ w' ⟨B, cv, hcv, rfl, h.row⟩
  unfold fewV
  have hn : cntV v ≤ 4611686018427387904 := hv
  generalize cntV v = n at *
  clear hkr hv
  obtain ⟨vk, vb, vt, vp, ks⟩ := v
  rw [vlC_five] at *
  simp only at *
  have hts : (bs vt).size = vt.length := bs_size vt
  by_cases h1 : n ≤ 400
  · have g1 : (n : Int) ≤ 400 := by omega
    have g1d : decide ((n : Int) ≤ 400) = true := decide_eq_true g1
    by_cases h2 : vt.length ≤ 400
    · have g2 : ((bs vt).size : Int) ≤ 400 := by omega
      have g2d : decide (((bs vt).size : Int) ≤ 400) = true := decide_eq_true g2
      have g2n : (bs vt).size ≤ 400 := by omega
      rw [decide_eq_true h1, decide_eq_true h2]
      clear h2 hts
      go_enter Try.func10, Try.ntmps10
      go_upto_region 1 with (fail)
      generalize w.alloc (.cells #[.int .i64 vk, .int .u8 ((vb.toNat : Nat) : Int), .string (bs vt), .int .i64 vp, .slice B ks.len cv] 27) = w1 at *
      obtain ⟨b0, b1, b2, b3, b4⟩ := vl_cells HS0.out.box
      go_wp2_with fail
      refine (CM.out _ HS0.out).mono ?_; rintro e w2 ⟨rfl, hb⟩
      have HS2 := Lib.hid (HS0.out.later hb)
      clear hb b0 b1 b2 b3 b4 HS0
      obtain ⟨b0, b1, b2, b3, b4⟩ := vl_cells HS2.out.box
      go_wp2
      go_ret
      exact ⟨rfl, HS2.out.bel⟩
    · have g2 : ¬ ((bs vt).size : Int) ≤ 400 := by omega
      have g2d : decide (((bs vt).size : Int) ≤ 400) = false := decide_eq_false g2
      have g2n : ¬ (bs vt).size ≤ 400 := by omega
      rw [decide_eq_true h1, decide_eq_false h2]
      clear h2 hts
      go_enter Try.func10, Try.ntmps10
      go_upto_region 1 with (fail)
      generalize w.alloc (.cells #[.int .i64 vk, .int .u8 ((vb.toNat : Nat) : Int), .string (bs vt), .int .i64 vp, .slice B ks.len cv] 27) = w1 at *
      obtain ⟨b0, b1, b2, b3, b4⟩ := vl_cells HS0.out.box
      go_wp2_with fail
      refine (CM.out _ HS0.out).mono ?_; rintro e w2 ⟨rfl, hb⟩
      have HS2 := Lib.hid (HS0.out.later hb)
      clear hb b0 b1 b2 b3 b4 HS0
      obtain ⟨b0, b1, b2, b3, b4⟩ := vl_cells HS2.out.box
      go_wp2
      go_ret
      exact ⟨rfl, HS2.out.bel⟩
  · have g1 : ¬ (n : Int) ≤ 400 := by omega
    have g1d : decide ((n : Int) ≤ 400) = false := decide_eq_false g1
    rw [decide_eq_false h1]
    clear hts
    go_enter Try.func10, Try.ntmps10
    go_upto_region 1 with (fail)
    generalize w.alloc (.cells #[.int .i64 vk, .int .u8 ((vb.toNat : Nat) : Int), .string (bs vt), .int .i64 vp, .slice B ks.len cv] 27) = w1 at *
    obtain ⟨b0, b1, b2, b3, b4⟩ := vl_cells HS0.out.box
    go_wp2_with fail
    refine (CM.out _ HS0.out).mono ?_; rintro e w2 ⟨rfl, hb⟩
    have HS2 := Lib.hid (HS0.out.later hb)
    clear hb b0 b1 b2 b3 b4 HS0
    obtain ⟨b0, b1, b2, b3, b4⟩ := vl_cells HS2.out.box
    go_wp2
    go_ret
    exact ⟨rfl, HS2.out.bel⟩
end Go.Proofs.Ytgdlbahfmddkaaa
/- What the document's package of layer 2 tells two rows by: the same classes, the same bytes. -/
namespace Go.Proofs.Ytgdlbahfmddkaaa
open Go Go.RowKit
set_option linter.unusedVariables false

theorem take_eq {α : Type} [Inhabited α] (z : α) {l m : List α} {k : Nat} (h1 : k < l.length) (h2 : k < m.length) (ht : l.take k = m.take k) (hx : l.getD k z = m.getD k z) : l.take (k + 1) = m.take (k + 1) := by
  rw [List.take_succ_eq_append_getElem h1, List.take_succ_eq_append_getElem h2, ht]
  have e1 : l.getD k z = l[k] := by simp [h1]
  have e2 : m.getD k z = m[k] := by simp [h2]
  rw [← e1, ← e2, hx]
/-! ### Bytes -/
structure RowsB (w0 : World) (a b : Option Addr) (l m : List Nat) (w : World) : Prop where
  below : Below w0.heap.size w0 w
  r1 : Row8 w a l
  r2 : Row8 w b m
theorem RowsB.later {w0 w w' : World} {a b : Option Addr} {l m : List Nat} (h : RowsB w0 a b l m w) (hb : Below w.heap.size w w') : RowsB w0 a b l m w' :=
  ⟨h.below.trans (hb.mono h.below.size), h.r1.later' hb, h.r2.later' hb⟩
def BytL (w0 : World) (a b : Option Addr) (l m : List Nat) (i : Value) (w : World) : Prop := ∃ k, k ≤ l.length ∧ i = .int .i64 k ∧ l.take k = m.take k ∧ RowsB w0 a b l m w

set_option maxRecDepth 1000000 in
set_option maxHeartbeats 16000000 in
theorem refbytes_any (l m : List Nat) (a b : Option Addr) (c1 c2 : Nat) (w : World) (h1 : Row8 w a l) (h2 : Row8 w b m) (hl : l.length < 1073741824) (hm : m.length < 1073741824) :
    Calls Try.prog 13 #[.slice a l.length c1, .slice b m.length c2] w (Ans w (.bool (l == m))) := by
  by_cases hne : l.length = m.length
  · have H := Lib.hid (RowsB.mk (Below.refl w.heap.size w) h1 h2)
    have HNE := Lib.hid hne
    have hlz : ((l.length : Int) != (m.length : Int)) = false := by rw [bne_eq_false_iff_eq]; omega
    obtain ⟨r, hr⟩ : ∃ r, (l == m) = r := ⟨_, rfl⟩
    rw [hr]
    have HR := Lib.hid hr
    clear h1 h2 hne hr
    go_enter Try.func13, Try.ntmps13
    go_wp2
    go_loopw [5] (BytL w a b l m) (fun i _ => l.length - (intOf i).toNat)
    case atStart => exact ⟨0, Nat.zero_le _, rfl, rfl, H.out⟩
    case round =>
      obtain ⟨k, hk, rfl, ht, hS⟩ := hrel
      have HS := Lib.hid hS
      have HT := Lib.hid ht
      clear hS ht H
      by_cases hlt : k < l.length
      · have hltz : (k : Int) < (l.length : Int) := by omega
        have hkm : k < m.length := by have := HNE.out; omega
        have hkmz : (k : Int) < (m.length : Int) := by omega
        obtain ⟨b1, o1, ha, hb1, _⟩ := HS.out.r1.2.2 k hlt
        obtain ⟨b2, o2, hb, hb2, _⟩ := HS.out.r2.2.2 k hkm
        subst ha hb
        have f1 : ∀ w, Row8 w (some ⟨b1, o1, none⟩) l → w.cell? ⟨b1, o1 + k, none⟩ = some (.int .u8 ((l.getD k 0 : Nat) : Int)) := fun w h => by
          obtain ⟨b, o, e, _, h⟩ := h.2.2 k hlt; cases e; exact h
        have f2 : ∀ w, Row8 w (some ⟨b2, o2, none⟩) m → w.cell? ⟨b2, o2 + k, none⟩ = some (.int .u8 ((m.getD k 0 : Nat) : Int)) := fun w h => by
          obtain ⟨b, o, e, _, h⟩ := h.2.2 k hkm; cases e; exact h
        have F1 := Lib.hid f1
        have F2 := Lib.hid f2
        clear f1 f2
        have HE : Hid (l.getD k 0 = m.getD k 0 → l.take (k + 1) = m.take (k + 1)) := fun hx => take_eq _ hlt hkm HT.out hx
        have HD : Hid (l.getD k 0 ≠ m.getD k 0 → r = false) := fun hx => by
          rw [← HR.out, beq_eq_false_iff_ne]; intro e; exact hx (by rw [e])
        generalize l.getD k 0 = x at *
        generalize m.getD k 0 = y at *
        by_cases hxy : x = y
        · have HE2 := Lib.hid (HE.out hxy)
          have hxz : ((x : Int) != (y : Int)) = false := by rw [bne_eq_false_iff_eq]; omega
          clear hxy HE HD
          go_upto_region 6 with (fail)
          refine wp_region_stable (S := (RowsB w (some ⟨b1, o1, none⟩) (some ⟨b2, o2, none⟩) l m)) (hSt := fun _ _ h hb => h.later hb) (plan := [[(0, none)], [(5, none)], [(17, some 0), (18, some 1)], [(19, some 2)], [(1, none)], [(5, none)], [(21, some 4), (22, some 5)], [(23, some 6)], [(20, some 3), (24, some 7)]]) (by kernel_rfl) (by kernel_rfl) (by kernel_rfl) ?hS ?_
          rotate_left
          iterate 9 first
            | (refine chain_skip (by rfl) (by rfl) ?_)
            | (apply chain_want (by rfl)
               · intro act wx hS hr
                 simp at hr
                 have h1 := F1.out _ hS.r1
                 have h2 := F2.out _ hS.r2
                 go_simp
                 (try go_ints)
                 first
                   | exact Done.same
              )
          show ∀ w', _ → _
          intro wz hz
          simp [Act.put]
          case hS => exact HS.out
          have HZ := Lib.hid hz
          clear hz
          go_wp2
          go_roundw
          case rel => exact ⟨k + 1, by omega, by go_num, HE2.out, HZ.out⟩
          case measure => simp [intOf]; omega
        · have hrf := HD.out hxy
          subst hrf
          have hxz : ((x : Int) != (y : Int)) = true := by rw [bne_iff_ne]; omega
          go_upto_region 6 with (fail)
          refine wp_region_stable (S := (RowsB w (some ⟨b1, o1, none⟩) (some ⟨b2, o2, none⟩) l m)) (hSt := fun _ _ h hb => h.later hb) (plan := [[(0, none)], [(5, none)], [(17, some 0), (18, some 1)], [(19, some 2)], [(1, none)], [(5, none)], [(21, some 4), (22, some 5)], [(23, some 6)], [(20, some 3), (24, some 7)]]) (by kernel_rfl) (by kernel_rfl) (by kernel_rfl) ?hS ?_
          rotate_left
          iterate 9 first
            | (refine chain_skip (by rfl) (by rfl) ?_)
            | (apply chain_want (by rfl)
               · intro act wx hS hr
                 simp at hr
                 have h1 := F1.out _ hS.r1
                 have h2 := F2.out _ hS.r2
                 go_simp
                 (try go_ints)
                 first
                   | exact Done.same
              )
          show ∀ w', _ → _
          intro wz hz
          simp [Act.put]
          case hS => exact HS.out
          have HZ := Lib.hid hz
          clear hz
          go_wp2
          go_ret
          exact ⟨rfl, HZ.out.below⟩
      · obtain rfl : k = l.length := by omega
        have hrt : r = true := by
          rw [← HR.out, beq_iff_eq]
          have := HT.out
          rwa [List.take_length, HNE.out, List.take_length] at this
        subst hrt
        go_wp2
        go_ret
        exact ⟨rfl, HS.out.below⟩
  · have hz : ((l.length : Int) != (m.length : Int)) = true := by rw [bne_iff_ne]; omega
    have hr : (l == m) = false := by rw [beq_eq_false_iff_ne]; intro e; exact hne (by rw [e])
    rw [hr]
    clear h1 h2 hne hr
    go_enter Try.func13, Try.ntmps13
    go_wp2
    go_ret
    exact ⟨rfl, Below.refl _ _⟩
end Go.Proofs.Ytgdlbahfmddkaaa
/- The statement ValueTells of layer 11, walked, of a program that writes, counts and compares values as it should. -/
namespace Go.Proofs.Ytgdlbahfmddkaaa
open Go Go.RowKit
set_option linter.unusedVariables false
set_option linter.unusedSimpArgs false

/-- What the program answers: a word, if there is one. -/
def TupV (r : Option Wd) (x : Value) (w : World) : Prop := ∃ sv, x = .tuple #[sv, .bool r.isSome] ∧ IsW (r.getD []) sv w
def PrV (w : World) (r : Option Wd) (e : Ending) (w' : World) : Prop := ∃ x, e = .returned x ∧ TupV r x w' ∧ Below w.heap.size w w'
/-- What is asked of the program's own calls. -/
def WriteC : Prop := ∀ (l : List Nd) (A : Option Addr) (c : Nat) (v : Vl) (u : Value) (w : World), Form l → l.length ≤ c → l.length ≤ 536870912 → (∀ n ∈ l, n.text.length ≤ 2000) → cntV v ≤ 100000 → NRow w A l → IsV w u v →
  Calls Try.prog 11 #[.agg #[.slice A l.length c], u] w (PrV w (wrD l v))
def SameC : Prop := ∀ (a b : Vl) (u v : Value) (w : World), cntV a ≤ 100000000 → cntV b ≤ 100000000 → IsV w u a → IsV w v b → Calls Try.prog 14 #[u, v] w (Ans w (.bool (sameV a b)))
def ManyC : Prop := ∀ (v : Vl) (u : Value) (w : World), cntV v ≤ 100000000 → IsV w u v → Calls Try.prog 16 #[u] w (Ans w (.int .i64 ((cntV v : Nat) : Int)))
def Awake11 : Prop := ∀ (w : World), Calls Try.prog 7 #[] w (Ans w (.bool true))
theorem bytes_rowV (l m : List Nat) (v u : Value) (w : World) (hv : IsBytes l v w) (hu : IsBytes m u w) (hl : l.length < 1073741824) (hm : m.length < 1073741824) : Calls Try.prog 13 #[v, u] w (Ans w (.bool (l == m))) := by
  obtain ⟨a, c1, rfl, h1⟩ := hv
  obtain ⟨b, c2, rfl, h2⟩ := hu
  exact refbytes_any l m a b c1 c2 w h1 h2 hl hm
end Go.Proofs.Ytgdlbahfmddkaaa
