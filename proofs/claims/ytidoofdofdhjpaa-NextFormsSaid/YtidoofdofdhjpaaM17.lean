/- States held against each other: walked. -/
import Derived.Test.YtidoofdofdhjpaaM16
import Derived.Test.YtidoofdofdhjpaaM12
import Derived.Deep.RegionHeld3
import Derived.Sort.Grow
import Derived.Deep.Draws
namespace Go.Proofs.Ytidoofdofdhjpaa
open Go Go.RowKit
set_option linter.unusedVariables false
set_option linter.unusedSimpArgs false
set_option maxRecDepth 100000
set_option maxHeartbeats 16000000

theorem orI_zero (d : Int) : orI d 0 = d := by unfold orI; split <;> omega
theorem cmpor4 (a b c d : Int) {w : World} {g : Nat} (h : Blk w g #[.int .i64 a, .int .i64 b, .int .i64 c, .int .i64 d] 3) : Calls Try.prog 79 #[.slice (some ⟨g, 0, none⟩) 4 4] w (Pure w (.int .i64 (orI a (orI b (orI c d))))) := by
  have := cmpor_any [a, b, c, d] g 4 (by simp) w fun k hk => by
    have hk : k < 4 := hk
    rw [h.cell]
    have : k = 0 ∨ k = 1 ∨ k = 2 ∨ k = 3 := by omega
    rcases this with rfl | rfl | rfl | rfl <;> rfl
  rw [show orL [a, b, c, d] = orI a (orI b (orI c (orI d 0))) from rfl, orI_zero] at this
  exact this
theorem cmpor2 (a b : Int) {w : World} {g : Nat} (h : Blk w g #[.int .i64 a, .int .i64 b] 3) : Calls Try.prog 79 #[.slice (some ⟨g, 0, none⟩) 2 2] w (Pure w (.int .i64 (orI a b))) := by
  have := cmpor_any [a, b] g 2 (by simp) w fun k hk => by
    have hk : k < 2 := hk
    rw [h.cell]
    have : k = 0 ∨ k = 1 := by omega
    rcases this with rfl | rfl <;> rfl
  rw [show orL [a, b] = orI a (orI b 0) from rfl, orI_zero] at this
  exact this
structure CiS (w0 : World) (x y : Itm) (bx bz : Nat) (w : World) : Prop where
  bel : Below w0.heap.size w0 w
  bx : Blk w bx (itV x) 44
  bz : Blk w bz (itV y) 44
theorem CiS.later {w0 w w' : World} {x y : Itm} {bx bz : Nat} (h : CiS w0 x y bx bz w) (hb : Below w.heap.size w w') : CiS w0 x y bx bz w' := ⟨h.bel.trans (hb.mono h.bel.size), h.bx.later hb, h.bz.later hb⟩
theorem CiS.cells {w0 w : World} {x y : Itm} {bx bz : Nat} (h : CiS w0 x y bx bz w) : At4 w bx 0 x ∧ At4 w bz 0 y := by
  unfold At4
  exact ⟨⟨h.bx.cell 0, h.bx.cell 1, h.bx.cell 2, h.bx.cell 3⟩, ⟨h.bz.cell 0, h.bz.cell 1, h.bz.cell 2, h.bz.cell 3⟩⟩
theorem take_next {a b : List Itm} {k : Nat} (hk : k < a.length) (hk2 : k < b.length) (h : a.take k = b.take k) (he : a.getD k it0 = b.getD k it0) : a.take (k + 1) = b.take (k + 1) := by
  rw [List.take_succ_eq_append_getElem hk, List.take_succ_eq_append_getElem hk2, h]
  rw [List.getD_eq_getElem?_getD, List.getElem?_eq_getElem hk, List.getD_eq_getElem?_getD, List.getElem?_eq_getElem hk2] at he
  simp only [Option.getD_some] at he
  rw [he]
def ciF : Value := .func (.func 82) #[] #[]
end Go.Proofs.Ytidoofdofdhjpaa
/- Lowered: walked. -/
namespace Go.Proofs.Ytidoofdofdhjpaa
open Go Go.RowKit
set_option linter.unusedVariables false
set_option linter.unusedSimpArgs false
set_option maxRecDepth 100000
set_option maxHeartbeats 16000000

theorem ItRow.below {w w' : World} {B : Nat} {A : Option Addr} {l : List Itm} (h : ItRow w A l) (hlt : ∀ b o, A = some ⟨b, o, none⟩ → b < B) (hb : Below B w w') : ItRow w' A l := fun i hi => by
  obtain ⟨b, off, ha, h2, hc⟩ := h i hi
  exact ⟨b, off, ha, Nat.lt_of_lt_of_le h2 hb.size, fun j hj => (hb.cell (p := ⟨b, off + i * 4 + j, none⟩) (hlt b off ha)).trans (hc j hj)⟩
/-- Numbers that an int holds. -/
def ItOk (l : List Itm) : Prop := ∀ x ∈ l, (-9223372036854775808 ≤ x.kind ∧ x.kind ≤ 9223372036854775807) ∧ (-9223372036854775808 ≤ x.node ∧ x.node ≤ 9223372036854775807) ∧ (-9223372036854775808 ≤ x.lo ∧ x.lo ≤ 9223372036854775807) ∧ (-9223372036854775808 ≤ x.hi ∧ x.hi ≤ 9223372036854775807)
theorem ItOk.at_ {l : List Itm} (h : ItOk l) {k : Nat} (hk : k < l.length) : (-9223372036854775808 ≤ (l.getD k it0).kind ∧ (l.getD k it0).kind ≤ 9223372036854775807) ∧ (-9223372036854775808 ≤ (l.getD k it0).node ∧ (l.getD k it0).node ≤ 9223372036854775807) ∧ (-9223372036854775808 ≤ (l.getD k it0).lo ∧ (l.getD k it0).lo ≤ 9223372036854775807) ∧ (-9223372036854775808 ≤ (l.getD k it0).hi ∧ (l.getD k it0).hi ≤ 9223372036854775807) := h _ (by
  rw [List.getD_eq_getElem?_getD, List.getElem?_eq_getElem hk]; exact List.getElem_mem hk)
def LowP (w0 : World) (l : List Itm) (e : Ending) (w : World) : Prop := Below w0.heap.size w0 w ∧ ((lowS l = none ∧ e = .returned (.tuple #[.slice none 0 0, .bool false])) ∨ ∃ v m, lowS l = some m ∧ e = .returned (.tuple #[v, .bool true]) ∧ OwnIt w w0.heap.size v m)
structure LoS (w0 : World) (A : Option Addr) (l : List Itm) (k : Nat) (v : Value) (w : World) : Prop where
  bel : Below w0.heap.size w0 w
  row : ItRow w A l
  own : OwnIt w w0.heap.size v ((l.take k).map lowI)
theorem LoS.later {w0 w w' : World} {A : Option Addr} {l : List Itm} {k : Nat} {v : Value} (h : LoS w0 A l k v w) (hb : Below w.heap.size w w') : LoS w0 A l k v w' := ⟨h.bel.trans (hb.mono h.bel.size), h.row.later hb, h.own.later hb⟩
def LoL (w0 : World) (A : Option Addr) (l : List Itm) (v i : Value) (w : World) : Prop := ∃ k : Nat, k ≤ l.length ∧ i = .int .i64 (k : Int) ∧ (∀ x ∈ l.take k, maylow x = true) ∧ LoS w0 A l k v w
theorem take_it {l : List Itm} {k : Nat} (hk : k < l.length) : l.take (k + 1) = l.take k ++ [l.getD k it0] := by
  rw [List.take_succ_eq_append_getElem hk, List.getD_eq_getElem?_getD, List.getElem?_eq_getElem hk]; rfl
theorem lowS_none {l : List Itm} {k : Nat} (hk : k < l.length) (h : maylow (l.getD k it0) = false) : lowS l = none := by
  unfold lowS
  rw [if_neg]
  rw [List.all_eq_true]
  intro hh
  have := hh (l.getD k it0) (by rw [List.getD_eq_getElem?_getD, List.getElem?_eq_getElem hk]; exact List.getElem_mem hk)
  rw [h] at this; cases this
theorem ilower_any (l : List Itm) (A : Option Addr) (c : Nat) (hl : l.length ≤ 1073740000) (hI : ItOk l) (w : World) (hrow : ItRow w A l) :
    Calls Try.prog 54 #[.slice A l.length c] w (LowP w l) := by
  have HI := Lib.hid hI
  have HRW := Lib.hid hrow
  have HA : Hid (∀ b o, A = some ⟨b, o, none⟩ → l ≠ [] → b < w.heap.size) := fun b o e hne => by
    obtain ⟨b', o', e', h, -⟩ := hrow 0 (List.length_pos_iff.2 hne)
    rw [e] at e'; cases e'; exact h
  clear hI hrow
  go_enter Try.func54, Try.ntmps54
  go_upto_region 1 with (fail)
  go_upto_region 2 with (refine wpList_make_it rfl _ _ rfl _ l.length rfl rfl (by omega) (by omega) ?_; intro w1 ho1 hb1; have HO1 := Lib.hid ho1; have HB1 := Lib.hid hb1; clear ho1 hb1)
  have HS0 : Hid (LoS w A l 0 (.slice (some ⟨w.heap.size, 0, none⟩) 0 l.length) w1) := ⟨HB1.out, HRW.out.later HB1.out, HO1.out⟩
  clear HO1 HB1 HRW
  go_wp2
  go_loopw [4, 12] (LoL w A l) (fun _ i _ => l.length - (intOf i).toNat)
  case atStart => exact ⟨0, Nat.zero_le _, rfl, by simp, HS0.out⟩
  case round =>
    obtain ⟨k, hk, rfl, hm, hs⟩ := hrel
    have HM := Lib.hid hm
    have HS := Lib.hid hs
    obtain ⟨av, cv, hvv, -, -⟩ := hs.own.row
    have hlen0 : ((l.take k).map lowI).length = k := by rw [List.length_map, List.length_take]; omega
    rw [hlen0] at hvv
    clear hlen0
    subst hvv
    by_cases hlt : k < l.length
    · have hltz : (k : Int) < (l.length : Int) := by omega
      obtain ⟨ba, oa, rfl, hba, xa⟩ := hs.row.four hlt
      have HOK := Lib.hid (HI.out.at_ hlt)
      have HNO := Lib.hid (fun h => lowS_none hlt h)
      have HTK := Lib.hid (take_it hlt)
      clear hs hm
      generalize l.getD k it0 = x at *
      obtain ⟨kk, nn, lo, hi⟩ := x
      unfold At4 at xa
      obtain ⟨x0, x1, x2, x3⟩ := xa
      simp only at x0 x1 x2 x3 HOK
      go_upto_region 5 with (fail)
      have hb1 := (Below.refl wr.heap.size wr).alloc (Nat.le_refl _) (.cells #[.int .i64 kk, .int .i64 nn, .int .i64 lo, .int .i64 hi] 44)
      have HS1 := Lib.hid (HS.out.later hb1)
      have HB1 := Lib.hid hb1
      have HX1 := Lib.hid (Blk.new wr #[.int .i64 kk, .int .i64 nn, .int .i64 lo, .int .i64 hi] 44)
      have HZ1 : Hid (w.heap.size ≤ wr.heap.size) := HS.out.bel.size
      clear hb1 x0 x1 x2 x3
      generalize wr.alloc (.cells #[.int .i64 kk, .int .i64 nn, .int .i64 lo, .int .i64 hi] 44) = w1 at HS1 HX1 HB1 ⊢
      have x0 := HX1.out.cell 0
      have x1 := HX1.out.cell 1
      have x2 := HX1.out.cell 2
      have x3 := HX1.out.cell 3
      have f2 := HX1.out.frozen 2
      simp at x0 x1 x2 x3
      have HLT := Lib.hid hlt
      by_cases h5 : kk = 5
      · subst h5
        by_cases h0 : lo ≤ 0
        · have HR := Lib.hid (HNO.out (by unfold maylow; simp [h0]))
          clear hlt
          go_wp2
          go_ret2
          exact ⟨HS1.out.bel, .inl ⟨HR.out, rfl⟩⟩
        · have HOKL : lo ≤ 9223372036854775807 := HOK.out.2.2.1.2
          have hx2 := HX1.out.setCell 2 (.int .i64 (lo - 1))
          have HX2 : Blk (w1.setCell ⟨wr.heap.size, 2, none⟩ (.int .i64 (lo - 1))) wr.heap.size #[.int .i64 5, .int .i64 nn, .int .i64 (lo - 1), .int .i64 hi] 44 := by simpa using hx2
          have HX2 := Lib.hid HX2
          have HS2 := Lib.hid (HS.out.later (HB1.out.setCell (p := ⟨wr.heap.size, 2, none⟩) (Nat.le_refl _) (.int .i64 (lo - 1))))
          have HN2 : Hid ((l.take (k + 1)).map lowI = (l.take k).map lowI ++ [⟨5, nn, lo - 1, hi⟩]) := by unfold Hid; rw [HTK.out, List.map_append]; rfl
          have HM2 : Hid (∀ x ∈ l.take (k + 1), maylow x = true) := fun x hx => by
            rw [HTK.out] at hx
            rcases List.mem_append.1 hx with h | h
            · exact HM.out x h
            · rw [List.mem_singleton.1 h]; unfold maylow; simp; omega
          clear hx2 hlt
          go_upto_region 9 with (fail)
          clear x0 x1 x2 x3 f2 HS1 HX1 HB1 HS
          generalize w1.setCell ⟨wr.heap.size, 2, none⟩ (.int .i64 (lo - 1)) = w2 at HS2 HX2 ⊢
          obtain ⟨kk, hkk⟩ : ∃ kk : Int, kk = 5 := ⟨5, rfl⟩
          rw [← hkk] at HX2 HN2
          clear hkk HNO HTK HOK
          have x0 := HX2.out.cell 0
          have x1 := HX2.out.cell 1
          have x2 := HX2.out.cell 2
          have x3 := HX2.out.cell 3
          simp at x0 x1 x2 x3
          have HZ2 : Hid (w.heap.size ≤ w2.heap.size) := HS2.out.bel.size
          have HS3 := Lib.hid (HS2.out.later ((Below.refl _ _).alloc (Nat.le_refl _) (.cells #[.int .i64 kk, .int .i64 nn, .int .i64 (lo - 1), .int .i64 hi] 44)))
          have HX3 : Hid (Blk (w2.alloc (.cells #[.int .i64 kk, .int .i64 nn, .int .i64 (lo - 1), .int .i64 hi] 44)) w2.heap.size (itV ⟨kk, nn, (lo - 1), hi⟩) 44) := Blk.new w2 _ _
          have hl3 : ((l.take k).map lowI).length < 1073741000 := by rw [List.length_map, List.length_take]; omega
          have hb3 : w.heap.size ≤ (w2.alloc (.cells #[.int .i64 kk, .int .i64 nn, .int .i64 (lo - 1), .int .i64 hi] 44)).heap.size := HS3.out.bel.size
          have HL3 := Lib.hid hl3
          have HB3 := Lib.hid hb3
          clear hl3 hb3
          go_wp2_with (at_builtin; refine wpList_append_it rfl _ _ rfl w.heap.size _ ((l.take k).map lowI) rfl HS3.out.own w2.heap.size ⟨kk, nn, (lo - 1), hi⟩ rfl HX3.out HL3.out HB3.out ?_; intro v' w6 h1 h2; have HO6 := Lib.hid h1; have HB6 := Lib.hid ((Below.refl w.heap.size _).grown h2 HB3.out (fun k hk => (World.ownsRow.lt HS3.out.own k hk).1)); clear h1 h2)
          have HS6 : Hid (LoS w (some ⟨ba, oa, none⟩) l (k + 1) v' w6) := ⟨HS3.out.bel.trans HB6.out, HS3.out.row.below (fun b o e => HA.out b o e (fun h => by have := HLT.out; rw [h] at this; simp at this)) HB6.out, by have := HO6.out; rwa [← HN2.out] at this⟩
          go_roundw
          case rel => exact ⟨k + 1, HLT.out, by go_num, HM2.out, HS6.out⟩
          case measure => have := HLT.out; simp [intOf] <;> omega
      · have hne : (kk == 5) = false := by simpa using h5
        have hx5 : ¬ kk = 5 := h5
        have HN2 : Hid ((l.take (k + 1)).map lowI = (l.take k).map lowI ++ [⟨kk, nn, lo, hi⟩]) := by
          unfold Hid; rw [HTK.out, List.map_append]
          congr 1
          show [lowI ⟨kk, nn, lo, hi⟩] = _
          unfold lowI; rw [if_neg h5]
        have HM2 : Hid (∀ x ∈ l.take (k + 1), maylow x = true) := fun x hx => by
          rw [HTK.out] at hx
          rcases List.mem_append.1 hx with h | h
          · exact HM.out x h
          · rw [List.mem_singleton.1 h]; unfold maylow; simp [h5]
        have HS2 := HS1
        have HX2 := HX1
        clear hlt h5 hx5 f2
        go_upto_region 9 with (fail)
        clear x0 x1 x2 x3 HS1 HX1 HB1 HS HNO HTK HOK
        have x0 := HX2.out.cell 0
        have x1 := HX2.out.cell 1
        have x2 := HX2.out.cell 2
        have x3 := HX2.out.cell 3
        simp at x0 x1 x2 x3
        have HZ2 : Hid (w.heap.size ≤ w1.heap.size) := HS2.out.bel.size
        have HS3 := Lib.hid (HS2.out.later ((Below.refl _ _).alloc (Nat.le_refl _) (.cells #[.int .i64 kk, .int .i64 nn, .int .i64 lo, .int .i64 hi] 44)))
        have HX3 : Hid (Blk (w1.alloc (.cells #[.int .i64 kk, .int .i64 nn, .int .i64 lo, .int .i64 hi] 44)) w1.heap.size (itV ⟨kk, nn, lo, hi⟩) 44) := Blk.new w1 _ _
        have hl3 : ((l.take k).map lowI).length < 1073741000 := by rw [List.length_map, List.length_take]; omega
        have hb3 : w.heap.size ≤ (w1.alloc (.cells #[.int .i64 kk, .int .i64 nn, .int .i64 lo, .int .i64 hi] 44)).heap.size := HS3.out.bel.size
        have HL3 := Lib.hid hl3
        have HB3 := Lib.hid hb3
        clear hl3 hb3
        go_wp2_with (at_builtin; refine wpList_append_it rfl _ _ rfl w.heap.size _ ((l.take k).map lowI) rfl HS3.out.own w1.heap.size ⟨kk, nn, lo, hi⟩ rfl HX3.out HL3.out HB3.out ?_; intro v' w6 h1 h2; have HO6 := Lib.hid h1; have HB6 := Lib.hid ((Below.refl w.heap.size _).grown h2 HB3.out (fun k hk => (World.ownsRow.lt HS3.out.own k hk).1)); clear h1 h2)
        have HS6 : Hid (LoS w (some ⟨ba, oa, none⟩) l (k + 1) v' w6) := ⟨HS3.out.bel.trans HB6.out, HS3.out.row.below (fun b o e => HA.out b o e (fun h => by have := HLT.out; rw [h] at this; simp at this)) HB6.out, by have := HO6.out; rwa [← HN2.out] at this⟩
        go_roundw
        case rel => exact ⟨k + 1, HLT.out, by go_num, HM2.out, HS6.out⟩
        case measure => have := HLT.out; simp [intOf] <;> omega
    · obtain rfl : k = l.length := by omega
      have hltz : ¬ ((l.length : Nat) : Int) < (l.length : Int) := by omega
      have HR : Hid (lowS l = some (l.map lowI)) := by
        unfold Hid lowS
        rw [if_pos]
        rw [List.all_eq_true]
        have := hm
        rwa [List.take_length] at this
      have HO : Hid (OwnIt wr w.heap.size (.slice av l.length cv) (l.map lowI)) := by have := hs.own; rwa [List.take_length] at this
      clear hs hm
      go_wp2
      go_ret2
      exact ⟨HS.out.bel, .inr ⟨_, _, HR.out, rfl, HO.out⟩⟩
end Go.Proofs.Ytidoofdofdhjpaa
/- Items, and rows of items, opened as arguments: for seats of plain rows. -/
namespace Go.Proofs.Ytidoofdofdhjpaa
open Go Go.RowKit Go.ChangeShapes Go.WideShapes Go.ChangeAt Go.Joins
set_option maxRecDepth 100000
set_option linter.unusedVariables false
set_option linter.unusedSimpArgs false

theorem it_wf {a : Int} (h : (Lit.int .i64 a).wf = true) : -9223372036854775808 ≤ a ∧ a ≤ 9223372036854775807 := by
  simpa [Lit.wf, IntKind.min, IntKind.max, IntKind.signed, IntKind.bits] using h
section
variable {H : Type} {enc : TypeId × Value → H} {W : World} {base : Nat} {v : Value} {d : DataW H} {p : List MemPlace}
theorem cellsIt : Try.prog.cellsOf 44 = 4 := by kernel_rfl
theorem cellsI4 : Try.prog.cellsOf 3 = 1 := by kernel_rfl
theorem item_words {n : Nat} {cs : List Value} {x : DataW H × List MemPlace} (hlen : cs.length = 4) (h : DataW.trod enc Try.prog W 0 (fun _ => true) true n 44 cs = some x) :
    ∃ it : Itm, (∀ j, j < 4 → cs[j]? = (itV it)[j]?) ∧ ItOk [it] := by
  obtain ⟨xs, m, _, rfl, _, hn, hel⟩ := DataW.trod_struct Try.underlying44 h
  match cs, hlen with
  | [c0, c1, c2, c3], _ =>
    match xs, hn with
    | [y0, y1, y2, y3], _ =>
      have e0 : DataW.trod enc Try.prog W 0 (fun _ => true) true m 3 [c0] = some y0 := by have h := hel 0 _ rfl; simp [cellsI4] at h; exact h
      have e1 : DataW.trod enc Try.prog W 0 (fun _ => true) true m 3 [c1] = some y1 := by have h := hel 1 _ rfl; simp [cellsI4] at h; exact h
      have e2 : DataW.trod enc Try.prog W 0 (fun _ => true) true m 3 [c2] = some y2 := by have h := hel 2 _ rfl; simp [cellsI4] at h; exact h
      have e3 : DataW.trod enc Try.prog W 0 (fun _ => true) true m 3 [c3] = some y3 := by have h := hel 3 _ rfl; simp [cellsI4] at h; exact h
      obtain ⟨a0, h0, _, f0⟩ := DataW.trod_int Try.underlying3 e0
      obtain ⟨a1, h1, _, f1⟩ := DataW.trod_int Try.underlying3 e1
      obtain ⟨a2, h2, _, f2⟩ := DataW.trod_int Try.underlying3 e2
      obtain ⟨a3, h3, _, f3⟩ := DataW.trod_int Try.underlying3 e3
      simp at h0 h1 h2 h3
      subst h0 h1 h2 h3
      refine ⟨⟨a0, a1, a2, a3⟩, fun j hj => ?_, fun x hx => ?_⟩
      · unfold itV
        rcases (by omega : j = 0 ∨ j = 1 ∨ j = 2 ∨ j = 3) with rfl | rfl | rfl | rfl <;> rfl
      · rw [List.mem_singleton.1 hx]
        exact ⟨it_wf f0, it_wf f1, it_wf f2, it_wf f3⟩
theorem open_items (hv : Value.okWide Try.prog W .any base 26 v) (h : DataW.Trod enc Try.prog W 0 (fun _ => true) true 26 v d p) :
    ∃ (l : List Itm) (A : Option Addr) (C : Nat), v = .slice A l.length C ∧ ItRow W A l ∧ l.length ≤ C ∧ l.length ≤ 9223372036854775807 ∧ ItOk l := by
  obtain ⟨a0, len, cap, rfl⟩ := okWide_slice Try.underlying26 hv
  obtain ⟨fuel, hf⟩ := h
  rcases Go.Deep.open_slice Try.underlying26 hf with ⟨hcs, _⟩ | ⟨x, ln, cp, m, n', D, Pl, hcs, hb, hl, hm, hmm, hx, hi⟩
  · simp [Value.cells] at hcs
    obtain ⟨rfl, rfl, rfl⟩ := hcs
    exact ⟨[], none, 0, rfl, ItRow.nil _ _, Nat.le_refl _, by simp, fun n hn => by cases hn⟩
  · simp [Value.cells] at hcs
    obtain ⟨rfl, rfl, rfl⟩ := hcs
    simp only [if_true] at hmm
    subst hmm
    unfold maxLen at hm
    have key : ∀ i, i < len → ∃ it : Itm, (∀ j, j < 4 → W.cell? (x.add (i * 4 + j)) = (itV it)[j]?) ∧ ItOk [it] := by
      intro i hil
      obtain ⟨cs', hc, ht⟩ := hi i (by omega)
      rw [cellsIt] at hc
      obtain ⟨_, hcl, hat⟩ := World.cells?_some hc
      obtain ⟨it, h1, h2⟩ := item_words hcl ht
      exact ⟨it, fun j hj => by rw [← Go.Deep.add_add, hat j hj, h1 j hj], h2⟩
    let f : Nat → Itm := fun i => if h : i < len then Classical.choose (key i h) else it0
    have hfs : ∀ i (hil : i < len), (∀ j, j < 4 → W.cell? (x.add (i * 4 + j)) = (itV (f i))[j]?) ∧ ItOk [f i] := fun i hil => by
      have hfi : f i = Classical.choose (key i hil) := by simp [f, hil]
      rw [hfi]; exact Classical.choose_spec (key i hil)
    have hfl : ((List.range len).map f).length = len := by simp
    refine ⟨(List.range len).map f, some x, m, by rw [hfl], fun i hil => ?_, by rw [hfl]; exact hl, by rw [hfl]; omega, fun it hit => ?_⟩
    · rw [hfl] at hil
      have hgd : ((List.range len).map f).getD i it0 = f i := by simp [hil]
      have hs := (hfs i hil).1
      obtain ⟨b, off, spot⟩ := x
      have hc00 := (hfs 0 (by omega)).1 0 (by omega)
      have hspot : spot = none := by
        have hc : (itV (f 0))[0]? = some (.int .i64 (f 0).kind) := rfl
        rw [hc] at hc00
        simpa [Addr.add] using World.cell?_spot hc00
      subst hspot
      have hadd : ∀ k, (⟨b, off, none⟩ : Addr).add k = ⟨b, off + k, none⟩ := fun k => by cases k <;> simp [Addr.add]
      refine ⟨b, off, rfl, ?_, fun j hj => ?_⟩
      · have hc : (itV (f i))[0]? = some (.int .i64 (f i).kind) := rfl
        have := hs 0 (by omega)
        rw [hc] at this
        have := World.block_lt_of_cell? W _ this
        rw [hadd] at this; exact this
      · have := hs j hj
        rw [hadd] at this
        rw [hgd, Nat.add_assoc]; exact this
    · obtain ⟨i, hi2, rfl⟩ := List.mem_map.1 hit
      exact (hfs i (List.mem_range.1 hi2)).2 _ (List.mem_singleton.2 rfl)
end
end Go.Proofs.Ytidoofdofdhjpaa
/- States held against each other, the world told to the draw: walked. -/
namespace Go.Proofs.Ytidoofdofdhjpaa
open Go Go.RowKit
set_option linter.unusedVariables false
set_option linter.unusedSimpArgs false
set_option maxRecDepth 100000
set_option maxHeartbeats 16000000

/-- A world with draws, and new memory, behind it. -/
def GrwD (w w' : World) : Prop := ∃ q os, w' = Go.Sort.grow (w.drewN q) os
theorem GrwD.refl (w : World) : GrwD w w := ⟨0, #[], by unfold Go.Sort.grow World.drewN; simp⟩
theorem GrwD.drew (w : World) : GrwD w w.drew := ⟨1, #[], by unfold Go.Sort.grow World.drewN World.drew; simp⟩
theorem GrwD.alloc (w : World) (o : Obj) : GrwD w (w.alloc o) := ⟨0, #[o], by rw [Go.Sort.alloc_eq_grow]; rfl⟩
theorem GrwD.trans {a b d : World} (h : GrwD a b) (k : GrwD b d) : GrwD a d := by
  obtain ⟨q, os, rfl⟩ := h
  obtain ⟨q2, os2, rfl⟩ := k
  refine ⟨q + q2, os ++ os2, ?_⟩
  unfold Go.Sort.grow World.drewN
  simp [Array.append_assoc, Nat.add_assoc]
theorem GrwD.below {w w' : World} (h : GrwD w w') : Below w.heap.size w w' := by
  obtain ⟨q, os, rfl⟩ := h
  refine ⟨rfl, rfl, rfl, ?_, fun k hk => ?_⟩
  · unfold Go.Sort.grow World.drewN; simp
  · unfold Go.Sort.grow World.drewN; simp [Array.getElem?_append, hk]
def AnsGd (w : World) (v : Value) (e : Ending) (w' : World) : Prop := e = .returned v ∧ GrwD w w'
theorem citemD (x y : Itm) (w : World) : Calls Try.prog 82 #[.agg (itV x), .agg (itV y)] w (AnsGd w (.int .i64 (itC x y))) := by
  have hg2 := (GrwD.alloc w (.cells (itV x) 44)).trans (GrwD.alloc _ (.cells (itV y) 44))
  have HGW := Lib.hid hg2
  have hb1 := (Below.refl w.heap.size w).alloc (Nat.le_refl _) (.cells (itV x) 44)
  have hb2 := hb1.alloc (hb1.size) (.cells (itV y) 44)
  have HS0 : Hid (CiS w x y w.heap.size (w.alloc (.cells (itV x) 44)).heap.size ((w.alloc (.cells (itV x) 44)).alloc (.cells (itV y) 44))) :=
    ⟨hb2, (Blk.new w _ _).later ((Below.refl _ _).alloc (Nat.le_refl _) _), Blk.new _ _ _⟩
  rw [World.size_alloc] at HS0
  have HQ := Lib.hid (fun w => eql_it x y w)
  have HG := Lib.hid (fun o1 o2 w => eqGuard_eql_it o1 o2 x y w)
  obtain ⟨v, hv⟩ : ∃ v, itC x y = v := ⟨_, rfl⟩
  have HV := Lib.hid hv
  have HO := Lib.hid (itC_or x y)
  have HZ := Lib.hid (itC_zero x y)
  rw [hv]
  clear hb1 hb2 hv hg2
  go_enter Try.func82, Try.ntmps82
  go_upto_region 1 with (fail)
  unfold itV at HS0 HQ HG HGW ⊢
  generalize (w.alloc (.cells #[.int .i64 x.kind, .int .i64 x.node, .int .i64 x.lo, .int .i64 x.hi] 44)).alloc (.cells #[.int .i64 y.kind, .int .i64 y.node, .int .i64 y.lo, .int .i64 y.hi] 44) = w1 at *
  have c := HS0.out.cells
  unfold At4 at c
  obtain ⟨⟨x0, x1, x2, x3⟩, ⟨y0, y1, y2, y3⟩⟩ := c
  have hq := HQ.out
  have hg := HG.out
  by_cases hxy : x = y
  · have hd : decide (x = y) = true := decide_eq_true hxy
    rw [hd] at hq
    have HR : Hid (v = 0) := by unfold Hid; rw [← HV.out]; exact HZ.out.2 hxy
    clear hd hxy
    go_wp2
    go_ret
    exact ⟨by rw [HR.out]; rfl, HGW.out⟩
  · have hd : decide (x = y) = false := decide_eq_false hxy
    rw [hd] at hq
    have HR : Hid (v = orI (cmpI x.kind y.kind) (orI (cmpI x.node y.node) (orI (cmpI x.lo y.lo) (cmpI x.hi y.hi)))) := by unfold Hid; rw [← HV.out, HO.out]
    clear hd hxy
    go_upto_region 3 with (fail)
    clear hq hg HQ HG HZ HV HO
    generalize w.heap.size = bx at *
    go_region_held3 (fun w' => w'.cell? ⟨bx, 0, none⟩ = some (.int .i64 x.kind) ∧ w'.cell? ⟨bx, 1, none⟩ = some (.int .i64 x.node) ∧ w'.cell? ⟨bx, 2, none⟩ = some (.int .i64 x.lo) ∧ w'.cell? ⟨bx, 3, none⟩ = some (.int .i64 x.hi) ∧ w'.cell? ⟨bx + 1, 0, none⟩ = some (.int .i64 y.kind) ∧ w'.cell? ⟨bx + 1, 1, none⟩ = some (.int .i64 y.node) ∧ w'.cell? ⟨bx + 1, 2, none⟩ = some (.int .i64 y.lo) ∧ w'.cell? ⟨bx + 1, 3, none⟩ = some (.int .i64 y.hi)) (go_keep) (first | (go_at_call 80; refine (icmp_any _ _ _).mono ?_; rintro e w' ⟨rfl, rfl⟩) | (go_at_call 79; refine (cmpor4 _ _ _ _ ((Blk.new w1 _ _).later (Below.refl _ _).drew)).mono ?_; rintro e w' ⟨rfl, rfl⟩))
    go_wp2
    go_ret
    exact ⟨by rw [HR.out]; rfl, (HGW.out.trans (GrwD.alloc _ _)).trans (GrwD.drew _)⟩
/-- Two states in memory. -/
structure CfG (w0 : World) (A B : Option Addr) (a b : List Itm) (w : World) : Prop where
  g : GrwD w0 w
  ra : ItRow w A a
  rb : ItRow w B b
theorem CfG.next {w0 w w' : World} {A B : Option Addr} {a b : List Itm} (h : CfG w0 A B a b w) (hb : GrwD w w') : CfG w0 A B a b w' := ⟨h.g.trans hb, h.ra.later hb.below, h.rb.later hb.below⟩
def CfGL (w0 : World) (A B : Option Addr) (a b : List Itm) (i : Value) (w : World) : Prop := ∃ k : Nat, k ≤ a.length ∧ k ≤ b.length ∧ i = .int .i64 (k : Int) ∧ a.take k = b.take k ∧ CfG w0 A B a b w
def CfGP (w0 : World) (a b : List Itm) (e : Ending) (w : World) : Prop := ∃ v : Int, e = .returned (.int .i64 v) ∧ (a.length = b.length → v = stC a b) ∧ GrwD w0 w
theorem cfuncD (a b : List Itm) (A B : Option Addr) (c1 c2 : Nat) (w : World) (ha : ItRow w A a) (hb : ItRow w B b) (h1 : a.length ≤ 1073741824) (h2 : b.length ≤ 1073741824) :
    Calls Try.prog 81 #[.slice A a.length c1, .slice B b.length c2, ciF] w (CfGP w a b) := by
  have HE : Hid (CfG w A B a b w) := ⟨GrwD.refl _, ha, hb⟩
  clear ha hb
  unfold ciF
  go_enter Try.func81, Try.ntmps81
  go_wp2
  go_loopw [13] (CfGL w A B a b) (fun i _ => a.length - (intOf i).toNat)
  case atStart => exact ⟨0, Nat.zero_le _, Nat.zero_le _, rfl, rfl, HE.out⟩
  case round =>
    obtain ⟨k, hk, hkb, rfl, hlk, hs⟩ := hrel
    have HLK := Lib.hid hlk
    have HS := Lib.hid hs
    by_cases hlt : k < a.length
    · have hltz : (k : Int) < (a.length : Int) := by omega
      obtain ⟨ba, oa, rfl, hba, xa⟩ := hs.ra.four hlt
      by_cases hlb : k < b.length
      · have hge : ¬ (k : Int) ≥ (b.length : Int) := by omega
        obtain ⟨bb, ob, rfl, hbb, -⟩ := hs.rb.four hlb
        have FB := Lib.hid (fun (w' : World) (h : ItRow w' (some ⟨bb, ob, none⟩) b) => h.at hlb rfl)
        have HOT := Lib.hid (fun hl : a.length = b.length => stC_other hl hlt HLK.out)
        have HNX := Lib.hid (take_next hlt hlb HLK.out)
        have HZE := Lib.hid (itC_zero (a.getD k it0) (b.getD k it0))
        have HC := Lib.hid (fun w' => citemD (a.getD k it0) (b.getD k it0) w')
        clear hs hlk
        generalize a.getD k it0 = x at *
        generalize b.getD k it0 = y at *
        unfold At4 at xa
        obtain ⟨x0, x1, x2, x3⟩ := xa
        go_upto_region 6 with (fail)
        have hb1 := GrwD.alloc wr (.cells (itV x) 44)
        have HS1 : Hid (CfG w (some ⟨ba, oa, none⟩) (some ⟨bb, ob, none⟩) a b (wr.alloc (.cells (itV x) 44))) := HS.out.next hb1
        have HX1 := Lib.hid (Blk.new wr (itV x) 44)
        clear hb1 x0 x1 x2 x3
        unfold itV at HS1 HX1 HC
        generalize wr.alloc (.cells #[.int .i64 x.kind, .int .i64 x.node, .int .i64 x.lo, .int .i64 x.hi] 44) = w1 at HS1 HX1 ⊢
        obtain ⟨y0, y1, y2, y3⟩ := FB.out _ HS1.out.rb
        go_upto_region 7 with (fail)
        have hb2 := GrwD.alloc w1 (.cells #[.int .i64 y.kind, .int .i64 y.node, .int .i64 y.lo, .int .i64 y.hi] 44)
        have HS2 := Lib.hid (HS1.out.next hb2)
        have HX2 := Lib.hid (HX1.out.later hb2.below)
        have HY2 := Lib.hid (Blk.new w1 #[.int .i64 y.kind, .int .i64 y.node, .int .i64 y.lo, .int .i64 y.hi] 44)
        clear hb2 y0 y1 y2 y3
        generalize w1.alloc (.cells #[.int .i64 y.kind, .int .i64 y.node, .int .i64 y.lo, .int .i64 y.hi] 44) = w2 at HS2 HX2 HY2 ⊢
        have x0 := HX2.out.cell 0
        have x1 := HX2.out.cell 1
        have x2 := HX2.out.cell 2
        have x3 := HX2.out.cell 3
        have y0 := HY2.out.cell 0
        have y1 := HY2.out.cell 1
        have y2 := HY2.out.cell 2
        have y3 := HY2.out.cell 3
        simp at x0 x1 x2 x3 y0 y1 y2 y3
        go_wp2_with fail
        refine (HC.out _).mono ?_; rintro e w3 ⟨rfl, hb⟩
        have HS3 := Lib.hid (HS2.out.next hb)
        clear hb x0 x1 x2 x3 y0 y1 y2 y3 HX1 HX2 HY2 HS1 HS2
        by_cases hc : itC x y = 0
        · rw [hc]
          have HN := Lib.hid (HNX.out (HZE.out.1 hc))
          clear hc
          have HLT := Lib.hid hlt
          have HLB := Lib.hid hlb
          go_wp2
          go_roundw
          case rel => exact ⟨k + 1, HLT.out, HLB.out, by go_num, HN.out, HS3.out⟩
          case measure => have := HLT.out; simp [intOf] <;> omega
        · have HN := Lib.hid (fun hl => HOT.out hl hc)
          have hcb : (itC x y != 0) = true := by simpa using hc
          clear hc HOT HNX HZE
          generalize itC x y = v at *
          go_wp2
          go_ret
          exact ⟨v, rfl, fun hl => (HN.out hl).symm, HS3.out.g⟩
      · have hge : (k : Int) ≥ (b.length : Int) := by omega
        have HNE : Hid (a.length ≠ b.length) := by unfold Hid; omega
        unfold At4 at xa
        obtain ⟨x0, x1, x2, x3⟩ := xa
        clear hs hlk
        generalize a.getD k it0 = x at *
        have hb1 := GrwD.alloc wr (.cells (itV x) 44)
        have HB := Lib.hid (HS.out.g.trans hb1)
        clear hb1
        go_wp2
        go_ret
        exact ⟨1, rfl, fun hl => absurd hl HNE.out, HB.out⟩
    · obtain rfl : k = a.length := by omega
      have hltz : ¬ ((a.length : Nat) : Int) < (a.length : Int) := by omega
      clear hs
      by_cases hab : a.length < b.length
      · have hz : (a.length : Int) < (b.length : Int) := by omega
        have HNE : Hid (a.length ≠ b.length) := by unfold Hid; omega
        clear hlk hab
        go_wp2
        go_ret
        exact ⟨-1, rfl, fun hl => absurd hl HNE.out, HS.out.g⟩
      · have hz : ¬ (a.length : Int) < (b.length : Int) := by omega
        have HEQ : Hid (a = b) := by
          unfold Hid
          have h3 : a.length = b.length := by omega
          have h4 := hlk
          rw [List.take_length, h3, List.take_length] at h4
          exact h4
        clear hlk hab
        go_wp2
        go_ret
        exact ⟨0, rfl, fun _ => by rw [HEQ.out, stC_self], HS.out.g⟩
/-- Compare. -/
theorem icompareD (a b : List Itm) (A B : Option Addr) (c1 c2 : Nat) (w : World) (ha : ItRow w A a) (hb : ItRow w B b) (h1 : a.length ≤ 1073741824) (h2 : b.length ≤ 1073741824) :
    Calls Try.prog 58 #[.slice A a.length c1, .slice B b.length c2] w (AnsGd w (.int .i64 (stC a b))) := by
  have HC := Lib.hid (cfuncD a b A B c1 c2 w ha hb h1 h2)
  have H1 := Lib.hid (icmp_any (a.length : Int) (b.length : Int) w)
  have HM : Hid (∀ v : Int, (a.length = b.length → v = stC a b) → orI (cmpI (a.length : Int) (b.length : Int)) v = stC a b) := fun v hv => by
    unfold cmpI
    rcases Nat.lt_trichotomy a.length b.length with h | h | h
    · rw [if_pos (by omega), stC_len h]; rfl
    · rw [if_neg (by omega), if_neg (by omega), ← hv h]; rfl
    · rw [if_neg (by omega), if_pos (by omega), stC_len2 h]; rfl
  clear ha hb h1 h2
  unfold ciF at HC
  go_enter Try.func58, Try.ntmps58
  go_wp2_with fail
  refine H1.out.mono ?_; rintro e w1 ⟨rfl, rfl⟩
  go_wp2_with fail
  refine HC.out.mono ?_; rintro e w2 ⟨v, rfl, hv, hb⟩
  have HV := Lib.hid (HM.out v hv)
  have HB := Lib.hid hb
  clear hv hb HM HC H1
  generalize cmpI (a.length : Int) (b.length : Int) = c at *
  generalize stC a b = r at *
  go_wp2_with fail
  refine (cmpor2 _ _ (Blk.new _ _ _)).mono ?_
  rintro e w' ⟨rfl, rfl⟩
  have HR : Hid (r = orI c v) := by unfold Hid; rw [← HV.out]
  go_wp2
  go_ret
  exact ⟨by rw [HR.out]; rfl, HB.out.trans (GrwD.alloc _ _)⟩
end Go.Proofs.Ytidoofdofdhjpaa
