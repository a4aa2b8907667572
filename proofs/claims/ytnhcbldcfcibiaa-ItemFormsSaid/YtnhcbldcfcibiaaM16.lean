/- Lowered: walked. -/
import Derived.Test.YtnhcbldcfcibiaaM15
import Derived.Test.YtnhcbldcfcibiaaM11
import Derived.Lib.Zigzag
namespace Go.Proofs.Ytnhcbldcfcibiaa
open Go Go.RowKit
set_option linter.unusedVariables false
set_option linter.unusedSimpArgs false
set_option maxRecDepth 100000
set_option maxHeartbeats 16000000

theorem ItRow.below {w w' : World} {B : Nat} {A : Option Addr} {l : List Itm} (h : ItRow w A l) (hlt : ∀ b o, A = some ⟨b, o, none⟩ → b < B) (hb : Below B w w') : ItRow w' A l := fun i hi => by
  obtain ⟨b, off, ha, h2, hc⟩ := h i hi
  exact ⟨b, off, ha, Nat.lt_of_lt_of_le h2 hb.size, fun j hj => (hb.cell (p := ⟨b, off + i * 4 + j, none⟩) (hlt b off ha)).trans (hc j hj)⟩
/-- Numbers that an int holds. -/
def ItOk (l : List Itm) : Prop := ∀ x ∈ l, (-9223372036854775808 ≤ x.kind ∧ x.kind ≤ 9223372036854775807) ∧ (-9223372036854775808 ≤ x.node ∧ x.node ≤ 9223372036854775807) ∧ (-9223372036854775808 ≤ x.lo ∧ x.lo ≤ 9223372036854775807) ∧ (-9223372036854775808 ≤ x.hi ∧ x.hi ≤ 9223372036854775807)
theorem ItOk.at_ {l : List Itm} (h : ItOk l) {k : Nat} (hk : k < l.length) : (-9223372036854775808 ≤ (l.getD k it0).kind ∧ (l.getD k it0).kind ≤ 9223372036854775807) ∧ (-9223372036854775808 ≤ (l.getD k it0).node ∧ (l.getD k it0).node ≤ 9223372036854775807) ∧ (-9223372036854775808 ≤ (l.getD k it0).lo ∧ (l.getD k it0).lo ≤ 9223372036854775807) ∧ (-9223372036854775808 ≤ (l.getD k it0).hi ∧ (l.getD k it0).hi ≤ 9223372036854775807) := h _ (by
  rw [List.getD_eq_getElem?_getD, List.getElem?_eq_getElem hk]; exact List.getElem_mem hk)
def LowP (w0 : World) (l : List Itm) (e : Ending) (w : World) : Prop := Below w0.heap.size w0 w ∧ ((lowS l = none ∧ e = .returned (.tuple #[.slice none 0 0, .bool false])) ∨ ∃ v m, lowS l = some m ∧ e = .returned (.tuple #[v, .bool true]) ∧ OwnIt w w0.heap.size v m)
structure LoS (w0 : World) (A : Option Addr) (l : List Itm) (k : Nat) (v : Value) (w : World) : Prop where
  bel : Below w0.heap.size w0 w
  row : ItRow w A l
  own : OwnIt w w0.heap.size v ((l.take k).map lowI)
theorem LoS.later {w0 w w' : World} {A : Option Addr} {l : List Itm} {k : Nat} {v : Value} (h : LoS w0 A l k v w) (hb : Below w.heap.size w w') : LoS w0 A l k v w' := ⟨h.bel.trans (hb.mono h.bel.size), h.row.later hb, h.own.later hb⟩
def LoL (w0 : World) (A : Option Addr) (l : List Itm) (v i : Value) (w : World) : Prop := ∃ k : Nat, k ≤ l.length ∧ i = .int .i64 (k : Int) ∧ (∀ x ∈ l.take k, maylow x = true) ∧ LoS w0 A l k v w
theorem take_it {l : List Itm} {k : Nat} (hk : k < l.length) : l.take (k + 1) = l.take k ++ [l.getD k it0] := by
  rw [List.take_succ_eq_append_getElem hk, List.getD_eq_getElem?_getD, List.getElem?_eq_getElem hk]; rfl
theorem lowS_none {l : List Itm} {k : Nat} (hk : k < l.length) (h : maylow (l.getD k it0) = false) : lowS l = none := by
  unfold lowS
  rw [if_neg]
  rw [List.all_eq_true]
  intro hh
  have := hh (l.getD k it0) (by rw [List.getD_eq_getElem?_getD, List.getElem?_eq_getElem hk]; exact List.getElem_mem hk)
  rw [h] at this; cases this
theorem ilower_any (l : List Itm) (A : Option Addr) (c : Nat) (hl : l.length ≤ 1073740000) (hI : ItOk l) (w : World) (hrow : ItRow w A l) :
    Calls Try.prog 11 #[.slice A l.length c] w (LowP w l) := by
  have HI := Lib.hid hI
  have HRW := Lib.hid hrow
  have HA : Hid (∀ b o, A = some ⟨b, o, none⟩ → l ≠ [] → b < w.heap.size) := fun b o e hne => by
    obtain ⟨b', o', e', h, -⟩ := hrow 0 (List.length_pos_iff.2 hne)
    rw [e] at e'; cases e'; exact h
  clear hI hrow
  go_enter Try.func11, Try.ntmps11
  go_upto_region 1 with (fail)
  go_upto_region 2 with (refine wpList_make_it rfl _ _ rfl _ l.length rfl rfl (by omega) (by omega) ?_; intro w1 ho1 hb1; have HO1 := Lib.hid ho1; have HB1 := Lib.hid hb1; clear ho1 hb1)
  have HS0 : Hid (LoS w A l 0 (.slice (some ⟨w.heap.size, 0, none⟩) 0 l.length) w1) := ⟨HB1.out, HRW.out.later HB1.out, HO1.out⟩
  clear HO1 HB1 HRW
  go_wp2
  go_loopw [4, 12] (LoL w A l) (fun _ i _ => l.length - (intOf i).toNat)
  case atStart => exact ⟨0, Nat.zero_le _, rfl, by simp, HS0.out⟩
  case round =>
    obtain ⟨k, hk, rfl, hm, hs⟩ := hrel
    have HM := Lib.hid hm
    have HS := Lib.hid hs
    obtain ⟨av, cv, hvv, -, -⟩ := hs.own.row
    have hlen0 : ((l.take k).map lowI).length = k := by rw [List.length_map, List.length_take]; omega
    rw [hlen0] at hvv
    clear hlen0
    subst hvv
    by_cases hlt : k < l.length
    · have hltz : (k : Int) < (l.length : Int) := by omega
      obtain ⟨ba, oa, rfl, hba, xa⟩ := hs.row.four hlt
      have HOK := Lib.hid (HI.out.at_ hlt)
      have HNO := Lib.hid (fun h => lowS_none hlt h)
      have HTK := Lib.hid (take_it hlt)
      clear hs hm
      generalize l.getD k it0 = x at *
      obtain ⟨kk, nn, lo, hi⟩ := x
      unfold At4 at xa
      obtain ⟨x0, x1, x2, x3⟩ := xa
      simp only at x0 x1 x2 x3 HOK
      go_upto_region 5 with (fail)
      have hb1 := (Below.refl wr.heap.size wr).alloc (Nat.le_refl _) (.cells #[.int .i64 kk, .int .i64 nn, .int .i64 lo, .int .i64 hi] 36)
      have HS1 := Lib.hid (HS.out.later hb1)
      have HB1 := Lib.hid hb1
      have HX1 := Lib.hid (Blk.new wr #[.int .i64 kk, .int .i64 nn, .int .i64 lo, .int .i64 hi] 36)
      have HZ1 : Hid (w.heap.size ≤ wr.heap.size) := HS.out.bel.size
      clear hb1 x0 x1 x2 x3
      generalize wr.alloc (.cells #[.int .i64 kk, .int .i64 nn, .int .i64 lo, .int .i64 hi] 36) = w1 at HS1 HX1 HB1 ⊢
      have x0 := HX1.out.cell 0
      have x1 := HX1.out.cell 1
      have x2 := HX1.out.cell 2
      have x3 := HX1.out.cell 3
      have f2 := HX1.out.frozen 2
      simp at x0 x1 x2 x3
      have HLT := Lib.hid hlt
      by_cases h5 : kk = 5
      · subst h5
        by_cases h0 : lo ≤ 0
        · have HR := Lib.hid (HNO.out (by unfold maylow; simp [h0]))
          clear hlt
          go_wp2
          go_ret2
          exact ⟨HS1.out.bel, .inl ⟨HR.out, rfl⟩⟩
        · have HOKL : lo ≤ 9223372036854775807 := HOK.out.2.2.1.2
          have hx2 := HX1.out.setCell 2 (.int .i64 (lo - 1))
          have HX2 : Blk (w1.setCell ⟨wr.heap.size, 2, none⟩ (.int .i64 (lo - 1))) wr.heap.size #[.int .i64 5, .int .i64 nn, .int .i64 (lo - 1), .int .i64 hi] 36 := by simpa using hx2
          have HX2 := Lib.hid HX2
          have HS2 := Lib.hid (HS.out.later (HB1.out.setCell (p := ⟨wr.heap.size, 2, none⟩) (Nat.le_refl _) (.int .i64 (lo - 1))))
          have HN2 : Hid ((l.take (k + 1)).map lowI = (l.take k).map lowI ++ [⟨5, nn, lo - 1, hi⟩]) := by unfold Hid; rw [HTK.out, List.map_append]; rfl
          have HM2 : Hid (∀ x ∈ l.take (k + 1), maylow x = true) := fun x hx => by
            rw [HTK.out] at hx
            rcases List.mem_append.1 hx with h | h
            · exact HM.out x h
            · rw [List.mem_singleton.1 h]; unfold maylow; simp; omega
          clear hx2 hlt
          go_upto_region 9 with (fail)
          clear x0 x1 x2 x3 f2 HS1 HX1 HB1 HS
          generalize w1.setCell ⟨wr.heap.size, 2, none⟩ (.int .i64 (lo - 1)) = w2 at HS2 HX2 ⊢
          obtain ⟨kk, hkk⟩ : ∃ kk : Int, kk = 5 := ⟨5, rfl⟩
          rw [← hkk] at HX2 HN2
          clear hkk HNO HTK HOK
          have x0 := HX2.out.cell 0
          have x1 := HX2.out.cell 1
          have x2 := HX2.out.cell 2
          have x3 := HX2.out.cell 3
          simp at x0 x1 x2 x3
          have HZ2 : Hid (w.heap.size ≤ w2.heap.size) := HS2.out.bel.size
          have HS3 := Lib.hid (HS2.out.later ((Below.refl _ _).alloc (Nat.le_refl _) (.cells #[.int .i64 kk, .int .i64 nn, .int .i64 (lo - 1), .int .i64 hi] 36)))
          have HX3 : Hid (Blk (w2.alloc (.cells #[.int .i64 kk, .int .i64 nn, .int .i64 (lo - 1), .int .i64 hi] 36)) w2.heap.size (itV ⟨kk, nn, (lo - 1), hi⟩) 36) := Blk.new w2 _ _
          have hl3 : ((l.take k).map lowI).length < 1073741000 := by rw [List.length_map, List.length_take]; omega
          have hb3 : w.heap.size ≤ (w2.alloc (.cells #[.int .i64 kk, .int .i64 nn, .int .i64 (lo - 1), .int .i64 hi] 36)).heap.size := HS3.out.bel.size
          have HL3 := Lib.hid hl3
          have HB3 := Lib.hid hb3
          clear hl3 hb3
          go_wp2_with (at_builtin; refine wpList_append_it rfl _ _ rfl w.heap.size _ ((l.take k).map lowI) rfl HS3.out.own w2.heap.size ⟨kk, nn, (lo - 1), hi⟩ rfl HX3.out HL3.out HB3.out ?_; intro v' w6 h1 h2; have HO6 := Lib.hid h1; have HB6 := Lib.hid ((Below.refl w.heap.size _).grown h2 HB3.out (fun k hk => (World.ownsRow.lt HS3.out.own k hk).1)); clear h1 h2)
          have HS6 : Hid (LoS w (some ⟨ba, oa, none⟩) l (k + 1) v' w6) := ⟨HS3.out.bel.trans HB6.out, HS3.out.row.below (fun b o e => HA.out b o e (fun h => by have := HLT.out; rw [h] at this; simp at this)) HB6.out, by have := HO6.out; rwa [← HN2.out] at this⟩
          go_roundw
          case rel => exact ⟨k + 1, HLT.out, by go_num, HM2.out, HS6.out⟩
          case measure => have := HLT.out; simp [intOf] <;> omega
      · have hne : (kk == 5) = false := by simpa using h5
        have hx5 : ¬ kk = 5 := h5
        have HN2 : Hid ((l.take (k + 1)).map lowI = (l.take k).map lowI ++ [⟨kk, nn, lo, hi⟩]) := by
          unfold Hid; rw [HTK.out, List.map_append]
          congr 1
          show [lowI ⟨kk, nn, lo, hi⟩] = _
          unfold lowI; rw [if_neg h5]
        have HM2 : Hid (∀ x ∈ l.take (k + 1), maylow x = true) := fun x hx => by
          rw [HTK.out] at hx
          rcases List.mem_append.1 hx with h | h
          · exact HM.out x h
          · rw [List.mem_singleton.1 h]; unfold maylow; simp [h5]
        have HS2 := HS1
        have HX2 := HX1
        clear hlt h5 hx5 f2
        go_upto_region 9 with (fail)
        clear x0 x1 x2 x3 HS1 HX1 HB1 HS HNO HTK HOK
        have x0 := HX2.out.cell 0
        have x1 := HX2.out.cell 1
        have x2 := HX2.out.cell 2
        have x3 := HX2.out.cell 3
        simp at x0 x1 x2 x3
        have HZ2 : Hid (w.heap.size ≤ w1.heap.size) := HS2.out.bel.size
        have HS3 := Lib.hid (HS2.out.later ((Below.refl _ _).alloc (Nat.le_refl _) (.cells #[.int .i64 kk, .int .i64 nn, .int .i64 lo, .int .i64 hi] 36)))
        have HX3 : Hid (Blk (w1.alloc (.cells #[.int .i64 kk, .int .i64 nn, .int .i64 lo, .int .i64 hi] 36)) w1.heap.size (itV ⟨kk, nn, lo, hi⟩) 36) := Blk.new w1 _ _
        have hl3 : ((l.take k).map lowI).length < 1073741000 := by rw [List.length_map, List.length_take]; omega
        have hb3 : w.heap.size ≤ (w1.alloc (.cells #[.int .i64 kk, .int .i64 nn, .int .i64 lo, .int .i64 hi] 36)).heap.size := HS3.out.bel.size
        have HL3 := Lib.hid hl3
        have HB3 := Lib.hid hb3
        clear hl3 hb3
        go_wp2_with (at_builtin; refine wpList_append_it rfl _ _ rfl w.heap.size _ ((l.take k).map lowI) rfl HS3.out.own w1.heap.size ⟨kk, nn, lo, hi⟩ rfl HX3.out HL3.out HB3.out ?_; intro v' w6 h1 h2; have HO6 := Lib.hid h1; have HB6 := Lib.hid ((Below.refl w.heap.size _).grown h2 HB3.out (fun k hk => (World.ownsRow.lt HS3.out.own k hk).1)); clear h1 h2)
        have HS6 : Hid (LoS w (some ⟨ba, oa, none⟩) l (k + 1) v' w6) := ⟨HS3.out.bel.trans HB6.out, HS3.out.row.below (fun b o e => HA.out b o e (fun h => by have := HLT.out; rw [h] at this; simp at this)) HB6.out, by have := HO6.out; rwa [← HN2.out] at this⟩
        go_roundw
        case rel => exact ⟨k + 1, HLT.out, by go_num, HM2.out, HS6.out⟩
        case measure => have := HLT.out; simp [intOf] <;> omega
    · obtain rfl : k = l.length := by omega
      have hltz : ¬ ((l.length : Nat) : Int) < (l.length : Int) := by omega
      have HR : Hid (lowS l = some (l.map lowI)) := by
        unfold Hid lowS
        rw [if_pos]
        rw [List.all_eq_true]
        have := hm
        rwa [List.take_length] at this
      have HO : Hid (OwnIt wr w.heap.size (.slice av l.length cv) (l.map lowI)) := by have := hs.own; rwa [List.take_length] at this
      clear hs hm
      go_wp2
      go_ret2
      exact ⟨HS.out.bel, .inr ⟨_, _, HR.out, rfl, HO.out⟩⟩
/-- The document's. -/
theorem rlower_any (l : List Itm) (A : Option Addr) (c : Nat) (hl : l.length ≤ 1073740000) (hI : ItOk l) (w : World) (hrow : ItRow w A l) :
    Calls Try.prog 12 #[.slice A l.length c] w (LowP w l) := by
  have HI := Lib.hid hI
  have HRW := Lib.hid hrow
  have HA : Hid (∀ b o, A = some ⟨b, o, none⟩ → l ≠ [] → b < w.heap.size) := fun b o e hne => by
    obtain ⟨b', o', e', h, -⟩ := hrow 0 (List.length_pos_iff.2 hne)
    rw [e] at e'; cases e'; exact h
  clear hI hrow
  have HS0 : Hid (LoS w A l 0 (.slice none 0 0) w) := ⟨Below.refl _ _, HRW.out, OwnIt.nil0 _ _⟩
  clear HRW
  go_enter Try.func12, Try.ntmps12
  go_wp2
  go_loopw [4, 5] (LoL w A l) (fun _ i _ => l.length - (intOf i).toNat)
  case atStart => exact ⟨0, Nat.zero_le _, rfl, by simp, HS0.out⟩
  case round =>
    obtain ⟨k, hk, rfl, hm, hs⟩ := hrel
    have HM := Lib.hid hm
    have HS := Lib.hid hs
    obtain ⟨av, cv, hvv, -, -⟩ := hs.own.row
    have hlen0 : ((l.take k).map lowI).length = k := by rw [List.length_map, List.length_take]; omega
    rw [hlen0] at hvv
    clear hlen0
    subst hvv
    by_cases hlt : k < l.length
    · have hltz : (k : Int) < (l.length : Int) := by omega
      obtain ⟨ba, oa, rfl, hba, xa⟩ := hs.row.four hlt
      have HOK := Lib.hid (HI.out.at_ hlt)
      have HNO := Lib.hid (fun h => lowS_none hlt h)
      have HTK := Lib.hid (take_it hlt)
      clear hs hm
      generalize l.getD k it0 = x at *
      obtain ⟨kk, nn, lo, hi⟩ := x
      unfold At4 at xa
      obtain ⟨x0, x1, x2, x3⟩ := xa
      simp only at x0 x1 x2 x3 HOK
      go_upto_region 6 with (fail)
      have hb1 := (Below.refl wr.heap.size wr).alloc (Nat.le_refl _) (.cells #[.int .i64 kk, .int .i64 nn, .int .i64 lo, .int .i64 hi] 36)
      have HS1 := Lib.hid (HS.out.later hb1)
      have HB1 := Lib.hid hb1
      have HX1 := Lib.hid (Blk.new wr #[.int .i64 kk, .int .i64 nn, .int .i64 lo, .int .i64 hi] 36)
      have HZ1 : Hid (w.heap.size ≤ wr.heap.size) := HS.out.bel.size
      clear hb1 x0 x1 x2 x3
      generalize wr.alloc (.cells #[.int .i64 kk, .int .i64 nn, .int .i64 lo, .int .i64 hi] 36) = w1 at HS1 HX1 HB1 ⊢
      have x0 := HX1.out.cell 0
      have x1 := HX1.out.cell 1
      have x2 := HX1.out.cell 2
      have x3 := HX1.out.cell 3
      have f2 := HX1.out.frozen 2
      simp at x0 x1 x2 x3
      have HLT := Lib.hid hlt
      by_cases h5 : kk = 5
      · subst h5
        by_cases h0 : lo ≤ 0
        · have HR := Lib.hid (HNO.out (by unfold maylow; simp [h0]))
          clear hlt
          go_wp2
          go_ret2
          exact ⟨HS1.out.bel, .inl ⟨HR.out, rfl⟩⟩
        · have HOKL : lo ≤ 9223372036854775807 := HOK.out.2.2.1.2
          have hx2 := HX1.out.setCell 2 (.int .i64 (lo - 1))
          have HX2 : Blk (w1.setCell ⟨wr.heap.size, 2, none⟩ (.int .i64 (lo - 1))) wr.heap.size #[.int .i64 5, .int .i64 nn, .int .i64 (lo - 1), .int .i64 hi] 36 := by simpa using hx2
          have HX2 := Lib.hid HX2
          have HS2 := Lib.hid (HS.out.later (HB1.out.setCell (p := ⟨wr.heap.size, 2, none⟩) (Nat.le_refl _) (.int .i64 (lo - 1))))
          have HN2 : Hid ((l.take (k + 1)).map lowI = (l.take k).map lowI ++ [⟨5, nn, lo - 1, hi⟩]) := by unfold Hid; rw [HTK.out, List.map_append]; rfl
          have HM2 : Hid (∀ x ∈ l.take (k + 1), maylow x = true) := fun x hx => by
            rw [HTK.out] at hx
            rcases List.mem_append.1 hx with h | h
            · exact HM.out x h
            · rw [List.mem_singleton.1 h]; unfold maylow; simp; omega
          clear hx2 hlt
          go_upto_region 10 with (fail)
          clear x0 x1 x2 x3 f2 HS1 HX1 HB1 HS
          generalize w1.setCell ⟨wr.heap.size, 2, none⟩ (.int .i64 (lo - 1)) = w2 at HS2 HX2 ⊢
          obtain ⟨kk, hkk⟩ : ∃ kk : Int, kk = 5 := ⟨5, rfl⟩
          rw [← hkk] at HX2 HN2
          clear hkk HNO HTK HOK
          have x0 := HX2.out.cell 0
          have x1 := HX2.out.cell 1
          have x2 := HX2.out.cell 2
          have x3 := HX2.out.cell 3
          simp at x0 x1 x2 x3
          have HZ2 : Hid (w.heap.size ≤ w2.heap.size) := HS2.out.bel.size
          have HS3 := Lib.hid (HS2.out.later ((Below.refl _ _).alloc (Nat.le_refl _) (.cells #[.int .i64 kk, .int .i64 nn, .int .i64 (lo - 1), .int .i64 hi] 36)))
          have HX3 : Hid (Blk (w2.alloc (.cells #[.int .i64 kk, .int .i64 nn, .int .i64 (lo - 1), .int .i64 hi] 36)) w2.heap.size (itV ⟨kk, nn, (lo - 1), hi⟩) 36) := Blk.new w2 _ _
          have hl3 : ((l.take k).map lowI).length < 1073741000 := by rw [List.length_map, List.length_take]; omega
          have hb3 : w.heap.size ≤ (w2.alloc (.cells #[.int .i64 kk, .int .i64 nn, .int .i64 (lo - 1), .int .i64 hi] 36)).heap.size := HS3.out.bel.size
          have HL3 := Lib.hid hl3
          have HB3 := Lib.hid hb3
          clear hl3 hb3
          go_wp2_with (at_builtin; refine wpList_append_it rfl _ _ rfl w.heap.size _ ((l.take k).map lowI) rfl HS3.out.own w2.heap.size ⟨kk, nn, (lo - 1), hi⟩ rfl HX3.out HL3.out HB3.out ?_; intro v' w6 h1 h2; have HO6 := Lib.hid h1; have HB6 := Lib.hid ((Below.refl w.heap.size _).grown h2 HB3.out (fun k hk => (World.ownsRow.lt HS3.out.own k hk).1)); clear h1 h2)
          have HS6 : Hid (LoS w (some ⟨ba, oa, none⟩) l (k + 1) v' w6) := ⟨HS3.out.bel.trans HB6.out, HS3.out.row.below (fun b o e => HA.out b o e (fun h => by have := HLT.out; rw [h] at this; simp at this)) HB6.out, by have := HO6.out; rwa [← HN2.out] at this⟩
          go_roundw
          case rel => exact ⟨k + 1, HLT.out, by go_num, HM2.out, HS6.out⟩
          case measure => have := HLT.out; simp [intOf] <;> omega
      · have hne : (kk == 5) = false := by simpa using h5
        have hx5 : ¬ kk = 5 := h5
        have HN2 : Hid ((l.take (k + 1)).map lowI = (l.take k).map lowI ++ [⟨kk, nn, lo, hi⟩]) := by
          unfold Hid; rw [HTK.out, List.map_append]
          congr 1
          show [lowI ⟨kk, nn, lo, hi⟩] = _
          unfold lowI; rw [if_neg h5]
        have HM2 : Hid (∀ x ∈ l.take (k + 1), maylow x = true) := fun x hx => by
          rw [HTK.out] at hx
          rcases List.mem_append.1 hx with h | h
          · exact HM.out x h
          · rw [List.mem_singleton.1 h]; unfold maylow; simp [h5]
        have HS2 := HS1
        have HX2 := HX1
        clear hlt h5 hx5 f2
        go_upto_region 10 with (fail)
        clear x0 x1 x2 x3 HS1 HX1 HB1 HS HNO HTK HOK
        have x0 := HX2.out.cell 0
        have x1 := HX2.out.cell 1
        have x2 := HX2.out.cell 2
        have x3 := HX2.out.cell 3
        simp at x0 x1 x2 x3
        have HZ2 : Hid (w.heap.size ≤ w1.heap.size) := HS2.out.bel.size
        have HS3 := Lib.hid (HS2.out.later ((Below.refl _ _).alloc (Nat.le_refl _) (.cells #[.int .i64 kk, .int .i64 nn, .int .i64 lo, .int .i64 hi] 36)))
        have HX3 : Hid (Blk (w1.alloc (.cells #[.int .i64 kk, .int .i64 nn, .int .i64 lo, .int .i64 hi] 36)) w1.heap.size (itV ⟨kk, nn, lo, hi⟩) 36) := Blk.new w1 _ _
        have hl3 : ((l.take k).map lowI).length < 1073741000 := by rw [List.length_map, List.length_take]; omega
        have hb3 : w.heap.size ≤ (w1.alloc (.cells #[.int .i64 kk, .int .i64 nn, .int .i64 lo, .int .i64 hi] 36)).heap.size := HS3.out.bel.size
        have HL3 := Lib.hid hl3
        have HB3 := Lib.hid hb3
        clear hl3 hb3
        go_wp2_with (at_builtin; refine wpList_append_it rfl _ _ rfl w.heap.size _ ((l.take k).map lowI) rfl HS3.out.own w1.heap.size ⟨kk, nn, lo, hi⟩ rfl HX3.out HL3.out HB3.out ?_; intro v' w6 h1 h2; have HO6 := Lib.hid h1; have HB6 := Lib.hid ((Below.refl w.heap.size _).grown h2 HB3.out (fun k hk => (World.ownsRow.lt HS3.out.own k hk).1)); clear h1 h2)
        have HS6 : Hid (LoS w (some ⟨ba, oa, none⟩) l (k + 1) v' w6) := ⟨HS3.out.bel.trans HB6.out, HS3.out.row.below (fun b o e => HA.out b o e (fun h => by have := HLT.out; rw [h] at this; simp at this)) HB6.out, by have := HO6.out; rwa [← HN2.out] at this⟩
        go_roundw
        case rel => exact ⟨k + 1, HLT.out, by go_num, HM2.out, HS6.out⟩
        case measure => have := HLT.out; simp [intOf] <;> omega
    · obtain rfl : k = l.length := by omega
      have hltz : ¬ ((l.length : Nat) : Int) < (l.length : Int) := by omega
      have HR : Hid (lowS l = some (l.map lowI)) := by
        unfold Hid lowS
        rw [if_pos]
        rw [List.all_eq_true]
        have := hm
        rwa [List.take_length] at this
      have HO : Hid (OwnIt wr w.heap.size (.slice av l.length cv) (l.map lowI)) := by have := hs.own; rwa [List.take_length] at this
      clear hs hm
      go_wp2
      go_ret2
      exact ⟨HS.out.bel, .inr ⟨_, _, HR.out, rfl, HO.out⟩⟩
end Go.Proofs.Ytnhcbldcfcibiaa
/- Items, and rows of items, opened as arguments: for seats of plain rows. -/
namespace Go.Proofs.Ytnhcbldcfcibiaa
open Go Go.RowKit Go.ChangeShapes Go.WideShapes Go.ChangeAt Go.Joins
set_option maxRecDepth 100000
set_option linter.unusedVariables false
set_option linter.unusedSimpArgs false

theorem it_wf {a : Int} (h : (Lit.int .i64 a).wf = true) : -9223372036854775808 ≤ a ∧ a ≤ 9223372036854775807 := by
  simpa [Lit.wf, IntKind.min, IntKind.max, IntKind.signed, IntKind.bits] using h
section
variable {H : Type} {enc : TypeId × Value → H} {W : World} {base : Nat} {v : Value} {d : DataW H} {p : List MemPlace}
theorem cellsIt : Try.prog.cellsOf 36 = 4 := by kernel_rfl
theorem cellsI4 : Try.prog.cellsOf 3 = 1 := by kernel_rfl
theorem item_words {n : Nat} {cs : List Value} {x : DataW H × List MemPlace} (hlen : cs.length = 4) (h : DataW.trod enc Try.prog W 0 (fun _ => true) true n 36 cs = some x) :
    ∃ it : Itm, (∀ j, j < 4 → cs[j]? = (itV it)[j]?) ∧ ItOk [it] := by
  obtain ⟨xs, m, _, rfl, _, hn, hel⟩ := DataW.trod_struct Try.underlying36 h
  match cs, hlen with
  | [c0, c1, c2, c3], _ =>
    match xs, hn with
    | [y0, y1, y2, y3], _ =>
      have e0 : DataW.trod enc Try.prog W 0 (fun _ => true) true m 3 [c0] = some y0 := by have h := hel 0 _ rfl; simp [cellsI4] at h; exact h
      have e1 : DataW.trod enc Try.prog W 0 (fun _ => true) true m 3 [c1] = some y1 := by have h := hel 1 _ rfl; simp [cellsI4] at h; exact h
      have e2 : DataW.trod enc Try.prog W 0 (fun _ => true) true m 3 [c2] = some y2 := by have h := hel 2 _ rfl; simp [cellsI4] at h; exact h
      have e3 : DataW.trod enc Try.prog W 0 (fun _ => true) true m 3 [c3] = some y3 := by have h := hel 3 _ rfl; simp [cellsI4] at h; exact h
      obtain ⟨a0, h0, _, f0⟩ := DataW.trod_int Try.underlying3 e0
      obtain ⟨a1, h1, _, f1⟩ := DataW.trod_int Try.underlying3 e1
      obtain ⟨a2, h2, _, f2⟩ := DataW.trod_int Try.underlying3 e2
      obtain ⟨a3, h3, _, f3⟩ := DataW.trod_int Try.underlying3 e3
      simp at h0 h1 h2 h3
      subst h0 h1 h2 h3
      refine ⟨⟨a0, a1, a2, a3⟩, fun j hj => ?_, fun x hx => ?_⟩
      · unfold itV
        rcases (by omega : j = 0 ∨ j = 1 ∨ j = 2 ∨ j = 3) with rfl | rfl | rfl | rfl <;> rfl
      · rw [List.mem_singleton.1 hx]
        exact ⟨it_wf f0, it_wf f1, it_wf f2, it_wf f3⟩
theorem open_item (hv : Value.okWide Try.prog W .any base 36 v) (h : DataW.Trod enc Try.prog W 0 (fun _ => true) true 36 v d p) : ∃ it : Itm, v = .agg (itV it) ∧ ItOk [it] := by
  obtain ⟨cs, rfl, hsz⟩ := okWide_struct Try.underlying36 hv
  rw [cellsIt] at hsz
  obtain ⟨fuel, hf⟩ := h
  obtain ⟨it, h1, h2⟩ := item_words (by simpa [Value.cells] using hsz) hf
  refine ⟨it, ?_, h2⟩
  congr 1
  apply Array.ext_getElem?
  intro j
  by_cases hj : j < 4
  · have := h1 j hj
    simpa [Value.cells] using this
  · rw [Array.getElem?_eq_none (by omega), Array.getElem?_eq_none (by show 4 ≤ j; omega)]
theorem open_items (hv : Value.okWide Try.prog W .any base 26 v) (h : DataW.Trod enc Try.prog W 0 (fun _ => true) true 26 v d p) :
    ∃ (l : List Itm) (A : Option Addr) (C : Nat), v = .slice A l.length C ∧ ItRow W A l ∧ l.length ≤ C ∧ l.length ≤ 9223372036854775807 ∧ ItOk l := by
  obtain ⟨a0, len, cap, rfl⟩ := okWide_slice Try.underlying26 hv
  obtain ⟨fuel, hf⟩ := h
  rcases Go.Deep.open_slice Try.underlying26 hf with ⟨hcs, _⟩ | ⟨x, ln, cp, m, n', D, Pl, hcs, hb, hl, hm, hmm, hx, hi⟩
  · simp [Value.cells] at hcs
    obtain ⟨rfl, rfl, rfl⟩ := hcs
    exact ⟨[], none, 0, rfl, ItRow.nil _ _, Nat.le_refl _, by simp, fun n hn => by cases hn⟩
  · simp [Value.cells] at hcs
    obtain ⟨rfl, rfl, rfl⟩ := hcs
    simp only [if_true] at hmm
    subst hmm
    unfold maxLen at hm
    have key : ∀ i, i < len → ∃ it : Itm, (∀ j, j < 4 → W.cell? (x.add (i * 4 + j)) = (itV it)[j]?) ∧ ItOk [it] := by
      intro i hil
      obtain ⟨cs', hc, ht⟩ := hi i (by omega)
      rw [cellsIt] at hc
      obtain ⟨_, hcl, hat⟩ := World.cells?_some hc
      obtain ⟨it, h1, h2⟩ := item_words hcl ht
      exact ⟨it, fun j hj => by rw [← Go.Deep.add_add, hat j hj, h1 j hj], h2⟩
    let f : Nat → Itm := fun i => if h : i < len then Classical.choose (key i h) else it0
    have hfs : ∀ i (hil : i < len), (∀ j, j < 4 → W.cell? (x.add (i * 4 + j)) = (itV (f i))[j]?) ∧ ItOk [f i] := fun i hil => by
      have hfi : f i = Classical.choose (key i hil) := by simp [f, hil]
      rw [hfi]; exact Classical.choose_spec (key i hil)
    have hfl : ((List.range len).map f).length = len := by simp
    refine ⟨(List.range len).map f, some x, m, by rw [hfl], fun i hil => ?_, by rw [hfl]; exact hl, by rw [hfl]; omega, fun it hit => ?_⟩
    · rw [hfl] at hil
      have hgd : ((List.range len).map f).getD i it0 = f i := by simp [hil]
      have hs := (hfs i hil).1
      obtain ⟨b, off, spot⟩ := x
      have hc00 := (hfs 0 (by omega)).1 0 (by omega)
      have hspot : spot = none := by
        have hc : (itV (f 0))[0]? = some (.int .i64 (f 0).kind) := rfl
        rw [hc] at hc00
        simpa [Addr.add] using World.cell?_spot hc00
      subst hspot
      have hadd : ∀ k, (⟨b, off, none⟩ : Addr).add k = ⟨b, off + k, none⟩ := fun k => by cases k <;> simp [Addr.add]
      refine ⟨b, off, rfl, ?_, fun j hj => ?_⟩
      · have hc : (itV (f i))[0]? = some (.int .i64 (f i).kind) := rfl
        have := hs 0 (by omega)
        rw [hc] at this
        have := World.block_lt_of_cell? W _ this
        rw [hadd] at this; exact this
      · have := hs j hj
        rw [hadd] at this
        rw [hgd, Nat.add_assoc]; exact this
    · obtain ⟨i, hi2, rfl⟩ := List.mem_map.1 hit
      exact (hfs i (List.mem_range.1 hi2)).2 _ (List.mem_singleton.2 rfl)
end
end Go.Proofs.Ytnhcbldcfcibiaa
/- How the keys' numbers are reckoned. -/
namespace Go.Proofs.Ytnhcbldcfcibiaa
open Go

theorem zig_bits {n : Int} (h1 : -9223372036854775808 ≤ n) (h2 : n ≤ 9223372036854775807) :
    bits .xor .u64 (IntKind.u64.wrap (IntKind.u64.wrap n * 2)) (IntKind.u64.wrap (n / 9223372036854775808)) = ((zig n : Nat) : Int) := by
  by_cases h : 0 ≤ n
  · have e1 : IntKind.u64.wrap (IntKind.u64.wrap n * 2) = (((2 * n).toNat : Nat) : Int) := by rw [IntKind.wrap_u64, IntKind.wrap_u64]; omega
    have e2 : IntKind.u64.wrap (n / 9223372036854775808) = ((0 : Nat) : Int) := by rw [IntKind.wrap_u64]; omega
    rw [e1, e2, bits_xor_u64_nat _ _ (by omega) (by decide), Nat.xor_zero]
    unfold zig; rw [if_pos h]
  · have e1 : IntKind.u64.wrap (IntKind.u64.wrap n * 2) = (((2 * n + 18446744073709551616).toNat : Nat) : Int) := by rw [IntKind.wrap_u64, IntKind.wrap_u64]; omega
    have e2 : IntKind.u64.wrap (n / 9223372036854775808) = ((2 ^ 64 - 1 : Nat) : Int) := by rw [IntKind.wrap_u64]; omega
    rw [e1, e2, bits_xor_u64_nat _ _ (by omega) (by decide), Nat.xor_comm, Lib.xor_ones64 _ (by omega)]
    unfold zig; rw [if_neg h]; omega
theorem zig_lt {n : Int} (h1 : -9223372036854775808 ≤ n) (h2 : n ≤ 9223372036854775807) : zig n < 18446744073709551616 := by unfold zig; split <;> omega
theorem or_byte {r : Nat} (h : r < 64) : bits .or .u8 64 ((r : Nat) : Int) = ((64 + r : Nat) : Int) := by
  have := (by decide +kernel : ∀ x : Fin 64, bits .or .u8 64 ((x.val : Nat) : Int) = ((64 + x.val : Nat) : Int)) ⟨r, h⟩
  exact this
end Go.Proofs.Ytnhcbldcfcibiaa
/- A number laid behind bytes: walked. -/
namespace Go.Proofs.Ytnhcbldcfcibiaa
open Go Go.RowKit
set_option linter.unusedVariables false
set_option linter.unusedSimpArgs false
set_option maxRecDepth 100000
set_option maxHeartbeats 16000000

structure AnbS (w0 : World) (B : Nat) (W : List UInt8) (v : Value) (w : World) : Prop where
  bel : Below B w0 w
  low : B ≤ w.heap.size
  own : Own8 w B v (nats W)
def AnP (w0 : World) (B : Nat) (W : List UInt8) (e : Ending) (w : World) : Prop := ∃ v, e = .returned v ∧ AnbS w0 B W v w
def AnL (w0 : World) (B : Nat) (R : List UInt8) (v r : Value) (w : World) : Prop := ∃ (V : List UInt8) (q : Nat), q < 18446744073709551616 ∧ r = .int .u64 (q : Int) ∧ V ++ bytN (numB q) = R ∧ AnbS w0 B V v w
theorem anum_any (W : List UInt8) (v : Value) (B : Nat) (n : Int) (h1 : -9223372036854775808 ≤ n) (h2 : n ≤ 9223372036854775807) (hl : W.length ≤ 1073600000) (w : World) (ho : Own8 w B v (nats W)) (hB : B ≤ w.heap.size) :
    Calls Try.prog 29 #[v, .int .i64 n] w (AnP w B (W ++ bytN (numB (zig n)))) := by
  obtain ⟨av, cv, rfl, -⟩ := (own_isW ho (by omega)).len
  have HS0 : Hid (AnbS w B W (.slice av W.length cv) w) := ⟨Below.refl _ _, hB, ho⟩
  clear ho hB
  have HZG := Lib.hid (zig_bits h1 h2)
  have HZL := Lib.hid (zig_lt h1 h2)
  have HLN : Hid (∀ V q, V ++ bytN (numB q) = W ++ bytN (numB (zig n)) → V.length ≤ 1073600011) := fun V q e => by
    have h := congrArg List.length e
    have h3 := numB_len (r := zig n) (by have := HZL.out; omega)
    rw [List.length_append, List.length_append] at h
    unfold bytN at h
    rw [List.length_map, List.length_map] at h
    omega
  obtain ⟨z, hz⟩ : ∃ z, zig n = z := ⟨_, rfl⟩
  rw [hz] at HZL HLN HZG ⊢
  clear hz h1 h2
  obtain ⟨R, hR⟩ : ∃ R, W ++ bytN (numB z) = R := ⟨_, rfl⟩
  rw [hR] at HLN ⊢
  have HRR := Lib.hid hR
  clear hR
  go_enter Try.func29, Try.ntmps29
  go_upto_region 2 with (fail)
  rw [HZG.out]
  clear HZG
  go_loopw [0, 5] (AnL w B R) (fun _ r _ => (intOf r).toNat)
  case atStart => exact ⟨W, z, HZL.out, rfl, HRR.out, HS0.out⟩
  case round =>
    obtain ⟨V, q, hq, rfl, he, hs⟩ := hrel
    have HV := Lib.hid (HLN.out V q he)
    obtain ⟨av, cv, hvv, -⟩ := (own_isW hs.own (by have := HV.out; omega)).len
    subst hvv
    have HE := Lib.hid he
    have HS := Lib.hid hs
    clear he hs
    by_cases h64 : q < 64
    · have hge : ¬ (q : Int) ≥ 64 := by omega
      have hw8 : IntKind.u8.wrap (q : Int) = (q : Int) := by rw [IntKind.wrap_u8]; omega
      have HE2 : Hid (R = V ++ [UInt8.ofNat q]) := by unfold Hid; rw [← HE.out, numB_short h64]; rfl
      have HQ := Lib.hid h64
      clear h64
      have HS3 := Lib.hid (HS.out.own.later ((Below.refl wr.heap.size wr).alloc (Nat.le_refl _) (.cells #[.int .u8 (q : Int)] 5)))
      have HX3 := Lib.hid (Blk.new wr #[.int .u8 (q : Int)] 5)
      have HB3 := Lib.hid (Nat.le_trans HS.out.low ((Below.refl wr.heap.size wr).alloc (Nat.le_refl _) (.cells #[.int .u8 (q : Int)] 5)).size)
      have HK3 := Lib.hid (HS.out.bel.trans (((Below.refl wr.heap.size wr).alloc (Nat.le_refl _) (.cells #[.int .u8 (q : Int)] 5)).mono HS.out.low))
      have HL3 : Hid ((nats V).length < 1073741824) := by unfold Hid; rw [nats_length]; have := HV.out; omega
      go_wp2_with (at_builtin; refine wpList_append_u8 rfl _ _ rfl B _ (nats V) rfl HS3.out wr.heap.size q rfl HX3.out HL3.out HB3.out ?_; intro v' w6 h1 h2; have HO6 := Lib.hid h1; have HB6 := Lib.hid (h2 B (Nat.le_refl _)); clear h1 h2)
      have HR6 : Hid (Own8 w6 B v' (nats R)) := by
        unfold Hid; rw [HE2.out, nats_append]
        have e : nats [UInt8.ofNat q] = [q] := by unfold nats; simp; have := HQ.out; omega
        rw [e]; exact HO6.out
      go_ret
      exact ⟨v', rfl, HK3.out.trans HB6.out, Nat.le_trans HB3.out HB6.out.size, HR6.out⟩
    · have hge : (q : Int) ≥ 64 := by omega
      obtain ⟨r, hr⟩ : ∃ r, q % 64 = r := ⟨_, rfl⟩
      obtain ⟨p, hp⟩ : ∃ p, q / 64 = p := ⟨_, rfl⟩
      obtain ⟨s, hs⟩ : ∃ s, 64 + r = s := ⟨_, rfl⟩
      have hr64 : r < 64 := by omega
      have hrem : (q : Int) % 64 = (r : Int) := by omega
      have hdiv : (q : Int) / 64 = (p : Int) := by omega
      have hw8 : IntKind.u8.wrap (r : Int) = (r : Int) := by rw [IntKind.wrap_u8]; omega
      have hor : bits .or .u8 64 (r : Int) = (s : Int) := by rw [or_byte hr64, hs]
      have hs256 : s < 256 := by omega
      have HE2 : Hid ((V ++ [UInt8.ofNat s]) ++ bytN (numB p) = R) := by
        unfold Hid; rw [← HE.out, numB_long h64, hr, hp, hs]; unfold bytN; simp
      have HPQ : Hid (p < q ∧ p < 18446744073709551616) := by unfold Hid; omega
      clear hr hp hs hr64
      have HS256 := Lib.hid hs256
      clear hs256 h64
      have HS3 := Lib.hid (HS.out.own.later ((Below.refl wr.heap.size wr).alloc (Nat.le_refl _) (.cells #[.int .u8 (s : Int)] 5)))
      have HX3 := Lib.hid (Blk.new wr #[.int .u8 (s : Int)] 5)
      have HB3 := Lib.hid (Nat.le_trans HS.out.low ((Below.refl wr.heap.size wr).alloc (Nat.le_refl _) (.cells #[.int .u8 (s : Int)] 5)).size)
      have HK3 := Lib.hid (HS.out.bel.trans (((Below.refl wr.heap.size wr).alloc (Nat.le_refl _) (.cells #[.int .u8 (s : Int)] 5)).mono HS.out.low))
      have HL3 : Hid ((nats V).length < 1073741824) := by unfold Hid; rw [nats_length]; have := HV.out; omega
      go_wp2_with (at_builtin; refine wpList_append_u8 rfl _ _ rfl B _ (nats V) rfl HS3.out wr.heap.size s rfl HX3.out HL3.out HB3.out ?_; intro v' w6 h1 h2; have HO6 := Lib.hid h1; have HB6 := Lib.hid (h2 B (Nat.le_refl _)); clear h1 h2)
      have HR6 : Hid (Own8 w6 B v' (nats (V ++ [UInt8.ofNat s]))) := by
        unfold Hid; rw [nats_append]
        have e : nats [UInt8.ofNat s] = [s] := by unfold nats; simp; have := HS256.out; omega
        rw [e]; exact HO6.out
      go_roundw
      case rel => exact ⟨V ++ [UInt8.ofNat s], p, HPQ.out.2, rfl, HE2.out, HK3.out.trans HB6.out, Nat.le_trans HB3.out HB6.out.size, HR6.out⟩
      case measure => have := HPQ.out.1; simp [intOf] <;> omega
end Go.Proofs.Ytnhcbldcfcibiaa
