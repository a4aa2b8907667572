/- What the document's package of layer 2 tells two rows by: the same classes, the same bytes. -/
import Derived.Test.YtgehepiphdphjaaDoorSplitHeads
namespace Go.Proofs.YtgehepiphdphjaaDoor
open Go Go.RowKit
set_option linter.unusedVariables false

structure RowsL (w0 : World) (a b : Option Addr) (l m : List (BitVec 256)) (w : World) : Prop where
  below : Below w0.heap.size w0 w
  r1 : LRow w a l
  r2 : LRow w b m
theorem RowsL.later {w0 w w' : World} {a b : Option Addr} {l m : List (BitVec 256)} (h : RowsL w0 a b l m w) (hb : Below w.heap.size w w') : RowsL w0 a b l m w' :=
  ⟨h.below.trans (hb.mono h.below.size), h.r1.later hb, h.r2.later hb⟩
theorem take_eq {α : Type} [Inhabited α] (z : α) {l m : List α} {k : Nat} (h1 : k < l.length) (h2 : k < m.length) (ht : l.take k = m.take k) (hx : l.getD k z = m.getD k z) : l.take (k + 1) = m.take (k + 1) := by
  rw [List.take_succ_eq_append_getElem h1, List.take_succ_eq_append_getElem h2, ht]
  have e1 : l.getD k z = l[k] := by simp [h1]
  have e2 : m.getD k z = m[k] := by simp [h2]
  rw [← e1, ← e2, hx]
def SameL (w0 : World) (a b : Option Addr) (l m : List (BitVec 256)) (i : Value) (w : World) : Prop := ∃ k, k ≤ l.length ∧ i = .int .i64 k ∧ l.take k = m.take k ∧ RowsL w0 a b l m w

set_option maxRecDepth 1000000 in
set_option maxHeartbeats 16000000 in
theorem refsame_any (l m : List (BitVec 256)) (a b : Option Addr) (c1 c2 : Nat) (w : World) (h1 : LRow w a l) (h2 : LRow w b m) (hl : l.length < 1073741824) (hm : m.length < 1073741824) :
    Calls Tryd.prog 17 #[.slice a l.length c1, .slice b m.length c2] w (Ans w (.bool (l == m))) := by
  by_cases hne : l.length = m.length
  · have H := Lib.hid (RowsL.mk (Below.refl w.heap.size w) h1 h2)
    have HNE := Lib.hid hne
    have hz : ((l.length : Int) != (m.length : Int)) = false := by rw [bne_eq_false_iff_eq]; omega
    have hneq := neq_cls
    have hg2 := eqGuard_neq
    have HX : Hid (∀ x, (l == m) = x ↔ decide (l = m) = x) := fun x => by simp [Bool.beq_eq_decide_eq]
    obtain ⟨r, hr⟩ : ∃ r, (l == m) = r := ⟨_, rfl⟩
    rw [hr]
    have HR := Lib.hid hr
    clear h1 h2 hne hr HX
    go_enter Tryd.func17, Tryd.ntmps17
    go_wp2
    go_loopw [5] (SameL w a b l m) (fun i _ => l.length - (intOf i).toNat)
    case atStart => exact ⟨0, Nat.zero_le _, rfl, rfl, H.out⟩
    case round =>
      obtain ⟨k, hk, rfl, ht, hS⟩ := hrel
      have HS := Lib.hid hS
      have HT := Lib.hid ht
      clear hS ht H
      by_cases hlt : k < l.length
      · have hltz : (k : Int) < (l.length : Int) := by omega
        have hkm : k < m.length := by have := HNE.out; omega
        have hkmz : (k : Int) < (m.length : Int) := by omega
        obtain ⟨b1, o1, ha, hb1, _⟩ := HS.out.r1.cells k hlt
        obtain ⟨b2, o2, hb, hb2, _⟩ := HS.out.r2.cells k hkm
        subst ha hb
        have f1 : ∀ w, LRow w (some ⟨b1, o1, none⟩) l → w.cell? ⟨b1, o1 + k * 4, none⟩ = some (.int .u64 (wd (l.getD k 0) 0)) ∧ w.cell? ⟨b1, o1 + k * 4 + 1, none⟩ = some (.int .u64 (wd (l.getD k 0) 1)) ∧ w.cell? ⟨b1, o1 + k * 4 + 2, none⟩ = some (.int .u64 (wd (l.getD k 0) 2)) ∧ w.cell? ⟨b1, o1 + k * 4 + 3, none⟩ = some (.int .u64 (wd (l.getD k 0) 3)) := fun w h => by
          obtain ⟨b, o, e, _, h⟩ := h.cells k hlt; cases e; exact h
        have f2 : ∀ w, LRow w (some ⟨b2, o2, none⟩) m → w.cell? ⟨b2, o2 + k * 4, none⟩ = some (.int .u64 (wd (m.getD k 0) 0)) ∧ w.cell? ⟨b2, o2 + k * 4 + 1, none⟩ = some (.int .u64 (wd (m.getD k 0) 1)) ∧ w.cell? ⟨b2, o2 + k * 4 + 2, none⟩ = some (.int .u64 (wd (m.getD k 0) 2)) ∧ w.cell? ⟨b2, o2 + k * 4 + 3, none⟩ = some (.int .u64 (wd (m.getD k 0) 3)) := fun w h => by
          obtain ⟨b, o, e, _, h⟩ := h.cells k hkm; cases e; exact h
        have F1 := Lib.hid f1
        have F2 := Lib.hid f2
        clear f1 f2
        have HE : Hid (l.getD k 0 = m.getD k 0 → l.take (k + 1) = m.take (k + 1)) := fun hx => take_eq _ hlt hkm HT.out hx
        have HD : Hid (l.getD k 0 ≠ m.getD k 0 → r = false) := fun hx => by
          rw [← HR.out, beq_eq_false_iff_ne]; intro e; exact hx (by rw [e])
        generalize l.getD k 0 = x at *
        generalize m.getD k 0 = y at *
        cases hxy : (x == y) with
        | true =>
          have HE2 := Lib.hid (HE.out (by simpa using hxy))
          go_upto_region 6 with (fail)
          refine wp_region_stable (S := (RowsL w (some ⟨b1, o1, none⟩) (some ⟨b2, o2, none⟩) l m)) (hSt := fun _ _ h hb => h.later hb) (plan := [[(0, none)], [(5, none)], [(17, some 0), (18, some 1)], [(19, some 2)], [(1, none)], [(5, none)], [(21, some 4), (22, some 5)], [(23, some 6)], [(20, some 3), (24, some 7)]]) (by kernel_rfl) (by kernel_rfl) (by kernel_rfl) ?hS ?_
          rotate_left
          iterate 9 first
            | (refine chain_skip (by rfl) (by rfl) ?_)
            | (apply chain_want (by rfl)
               · intro act wx hS hr
                 simp at hr
                 have h1 := F1.out _ hS.r1
                 have h2 := F2.out _ hS.r2
                 go_simp
                 (try go_ints)
                 first
                   | exact Done.same (v := cls _)
                   | exact Done.same
              )
          show ∀ w', _ → _
          intro wz hz
          simp [Act.put]
          case hS => exact HS.out
          have HZ := Lib.hid hz
          clear hz
          clear hneq hg2
          go_wp2
          go_roundw
          case rel => exact ⟨k + 1, by omega, by go_num, HE2.out, HZ.out⟩
          case measure => simp [intOf]; omega
        | false =>
          have hrf := HD.out (by simpa using hxy)
          subst hrf
          go_upto_region 6 with (fail)
          refine wp_region_stable (S := (RowsL w (some ⟨b1, o1, none⟩) (some ⟨b2, o2, none⟩) l m)) (hSt := fun _ _ h hb => h.later hb) (plan := [[(0, none)], [(5, none)], [(17, some 0), (18, some 1)], [(19, some 2)], [(1, none)], [(5, none)], [(21, some 4), (22, some 5)], [(23, some 6)], [(20, some 3), (24, some 7)]]) (by kernel_rfl) (by kernel_rfl) (by kernel_rfl) ?hS ?_
          rotate_left
          iterate 9 first
            | (refine chain_skip (by rfl) (by rfl) ?_)
            | (apply chain_want (by rfl)
               · intro act wx hS hr
                 simp at hr
                 have h1 := F1.out _ hS.r1
                 have h2 := F2.out _ hS.r2
                 go_simp
                 (try go_ints)
                 first
                   | exact Done.same (v := cls _)
                   | exact Done.same
              )
          show ∀ w', _ → _
          intro wz hz
          simp [Act.put]
          case hS => exact HS.out
          have HZ := Lib.hid hz
          clear hz
          clear hneq hg2
          go_wp2
          go_ret
          exact ⟨rfl, HZ.out.below⟩
      · obtain rfl : k = l.length := by omega
        have hrt : r = true := by
          rw [← HR.out, beq_iff_eq]
          have := HT.out
          rwa [List.take_length, HNE.out, List.take_length] at this
        subst hrt
        clear hneq hg2
        go_wp2
        go_ret
        exact ⟨rfl, HS.out.below⟩
  · have hz : ((l.length : Int) != (m.length : Int)) = true := by rw [bne_iff_ne]; omega
    have hr : (l == m) = false := by rw [beq_eq_false_iff_ne]; intro e; exact hne (by rw [e])
    rw [hr]
    clear h1 h2 hne hr
    go_enter Tryd.func17, Tryd.ntmps17
    go_wp2
    go_ret
    exact ⟨rfl, Below.refl _ _⟩

/-! ### Bytes -/
structure RowsB (w0 : World) (a b : Option Addr) (l m : List Nat) (w : World) : Prop where
  below : Below w0.heap.size w0 w
  r1 : Row8 w a l
  r2 : Row8 w b m
theorem RowsB.later {w0 w w' : World} {a b : Option Addr} {l m : List Nat} (h : RowsB w0 a b l m w) (hb : Below w.heap.size w w') : RowsB w0 a b l m w' :=
  ⟨h.below.trans (hb.mono h.below.size), h.r1.later' hb, h.r2.later' hb⟩
def BytL (w0 : World) (a b : Option Addr) (l m : List Nat) (i : Value) (w : World) : Prop := ∃ k, k ≤ l.length ∧ i = .int .i64 k ∧ l.take k = m.take k ∧ RowsB w0 a b l m w

set_option maxRecDepth 1000000 in
set_option maxHeartbeats 16000000 in
theorem refbytes_any (l m : List Nat) (a b : Option Addr) (c1 c2 : Nat) (w : World) (h1 : Row8 w a l) (h2 : Row8 w b m) (hl : l.length < 1073741824) (hm : m.length < 1073741824) :
    Calls Tryd.prog 38 #[.slice a l.length c1, .slice b m.length c2] w (Ans w (.bool (l == m))) := by
  by_cases hne : l.length = m.length
  · have H := Lib.hid (RowsB.mk (Below.refl w.heap.size w) h1 h2)
    have HNE := Lib.hid hne
    have hlz : ((l.length : Int) != (m.length : Int)) = false := by rw [bne_eq_false_iff_eq]; omega
    obtain ⟨r, hr⟩ : ∃ r, (l == m) = r := ⟨_, rfl⟩
    rw [hr]
    have HR := Lib.hid hr
    clear h1 h2 hne hr
    go_enter Tryd.func38, Tryd.ntmps38
    go_wp2
    go_loopw [5] (BytL w a b l m) (fun i _ => l.length - (intOf i).toNat)
    case atStart => exact ⟨0, Nat.zero_le _, rfl, rfl, H.out⟩
    case round =>
      obtain ⟨k, hk, rfl, ht, hS⟩ := hrel
      have HS := Lib.hid hS
      have HT := Lib.hid ht
      clear hS ht H
      by_cases hlt : k < l.length
      · have hltz : (k : Int) < (l.length : Int) := by omega
        have hkm : k < m.length := by have := HNE.out; omega
        have hkmz : (k : Int) < (m.length : Int) := by omega
        obtain ⟨b1, o1, ha, hb1, _⟩ := HS.out.r1.2.2 k hlt
        obtain ⟨b2, o2, hb, hb2, _⟩ := HS.out.r2.2.2 k hkm
        subst ha hb
        have f1 : ∀ w, Row8 w (some ⟨b1, o1, none⟩) l → w.cell? ⟨b1, o1 + k, none⟩ = some (.int .u8 ((l.getD k 0 : Nat) : Int)) := fun w h => by
          obtain ⟨b, o, e, _, h⟩ := h.2.2 k hlt; cases e; exact h
        have f2 : ∀ w, Row8 w (some ⟨b2, o2, none⟩) m → w.cell? ⟨b2, o2 + k, none⟩ = some (.int .u8 ((m.getD k 0 : Nat) : Int)) := fun w h => by
          obtain ⟨b, o, e, _, h⟩ := h.2.2 k hkm; cases e; exact h
        have F1 := Lib.hid f1
        have F2 := Lib.hid f2
        clear f1 f2
        have HE : Hid (l.getD k 0 = m.getD k 0 → l.take (k + 1) = m.take (k + 1)) := fun hx => take_eq _ hlt hkm HT.out hx
        have HD : Hid (l.getD k 0 ≠ m.getD k 0 → r = false) := fun hx => by
          rw [← HR.out, beq_eq_false_iff_ne]; intro e; exact hx (by rw [e])
        generalize l.getD k 0 = x at *
        generalize m.getD k 0 = y at *
        by_cases hxy : x = y
        · have HE2 := Lib.hid (HE.out hxy)
          have hxz : ((x : Int) != (y : Int)) = false := by rw [bne_eq_false_iff_eq]; omega
          clear hxy HE HD
          go_upto_region 6 with (fail)
          refine wp_region_stable (S := (RowsB w (some ⟨b1, o1, none⟩) (some ⟨b2, o2, none⟩) l m)) (hSt := fun _ _ h hb => h.later hb) (plan := [[(0, none)], [(5, none)], [(17, some 0), (18, some 1)], [(19, some 2)], [(1, none)], [(5, none)], [(21, some 4), (22, some 5)], [(23, some 6)], [(20, some 3), (24, some 7)]]) (by kernel_rfl) (by kernel_rfl) (by kernel_rfl) ?hS ?_
          rotate_left
          iterate 9 first
            | (refine chain_skip (by rfl) (by rfl) ?_)
            | (apply chain_want (by rfl)
               · intro act wx hS hr
                 simp at hr
                 have h1 := F1.out _ hS.r1
                 have h2 := F2.out _ hS.r2
                 go_simp
                 (try go_ints)
                 first
                   | exact Done.same
              )
          show ∀ w', _ → _
          intro wz hz
          simp [Act.put]
          case hS => exact HS.out
          have HZ := Lib.hid hz
          clear hz
          go_wp2
          go_roundw
          case rel => exact ⟨k + 1, by omega, by go_num, HE2.out, HZ.out⟩
          case measure => simp [intOf]; omega
        · have hrf := HD.out hxy
          subst hrf
          have hxz : ((x : Int) != (y : Int)) = true := by rw [bne_iff_ne]; omega
          go_upto_region 6 with (fail)
          refine wp_region_stable (S := (RowsB w (some ⟨b1, o1, none⟩) (some ⟨b2, o2, none⟩) l m)) (hSt := fun _ _ h hb => h.later hb) (plan := [[(0, none)], [(5, none)], [(17, some 0), (18, some 1)], [(19, some 2)], [(1, none)], [(5, none)], [(21, some 4), (22, some 5)], [(23, some 6)], [(20, some 3), (24, some 7)]]) (by kernel_rfl) (by kernel_rfl) (by kernel_rfl) ?hS ?_
          rotate_left
          iterate 9 first
            | (refine chain_skip (by rfl) (by rfl) ?_)
            | (apply chain_want (by rfl)
               · intro act wx hS hr
                 simp at hr
                 have h1 := F1.out _ hS.r1
                 have h2 := F2.out _ hS.r2
                 go_simp
                 (try go_ints)
                 first
                   | exact Done.same
              )
          show ∀ w', _ → _
          intro wz hz
          simp [Act.put]
          case hS => exact HS.out
          have HZ := Lib.hid hz
          clear hz
          go_wp2
          go_ret
          exact ⟨rfl, HZ.out.below⟩
      · obtain rfl : k = l.length := by omega
        have hrt : r = true := by
          rw [← HR.out, beq_iff_eq]
          have := HT.out
          rwa [List.take_length, HNE.out, List.take_length] at this
        subst hrt
        go_wp2
        go_ret
        exact ⟨rfl, HS.out.below⟩
  · have hz : ((l.length : Int) != (m.length : Int)) = true := by rw [bne_iff_ne]; omega
    have hr : (l == m) = false := by rw [beq_eq_false_iff_ne]; intro e; exact hne (by rw [e])
    rw [hr]
    clear h1 h2 hne hr
    go_enter Tryd.func38, Tryd.ntmps38
    go_wp2
    go_ret
    exact ⟨rfl, Below.refl _ _⟩
end Go.Proofs.YtgehepiphdphjaaDoor
