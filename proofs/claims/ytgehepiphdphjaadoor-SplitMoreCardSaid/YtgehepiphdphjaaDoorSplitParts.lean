/- Parts and Heads of package split: the parts of a list of classes, by least bytes, and their least bytes. -/
import Derived.Test.YtgehepiphdphjaaDoorSplitAll
namespace Go.Proofs.YtgehepiphdphjaaDoor
open Go Go.RowKit
set_option linter.unusedVariables false

theorem IsParts.pos {P l : List (BitVec 256)} (h : IsParts P l) : 0 < P.length := by
  have := h.all 0 (by omega)
  exact List.length_pos_of_mem this
theorem IsParts.le {P l : List (BitVec 256)} (h : IsParts P l) : P.length ≤ 256 := by rw [h.length]; exact heads_le l
theorem map_getD (P : List (BitVec 256)) : (List.range P.length).map (fun i => P.getD i 0) = P := by
  apply List.ext_getElem
  · simp
  · intro i h1 h2; simp [h2]
theorem parts_length (l : List (BitVec 256)) : (partsL l).length = (headsL l).length := by unfold partsL; simp

/-- k classes are taken in. -/
structure PartsR (l : List (BitVec 256)) (w0 : World) (k : Nat) (P : List (BitVec 256)) (v : Value) (w : World) : Prop where
  own : OwnC w w0.heap.size v P
  parts : IsParts P (l.take k)
  below : Below w0.heap.size w0 w
def PartsL (l : List (BitVec 256)) (w0 : World) (v i : Value) (w : World) : Prop := ∃ k P, k ≤ l.length ∧ i = .int .i64 k ∧ PartsR l w0 k P v w

set_option maxRecDepth 1000000 in
set_option maxHeartbeats 16000000 in
theorem parts_any (l : List (BitVec 256)) (a : Option Addr) (cap : Nat) (w : World) (hr : LRow w a l) (hd : Deb w) (hl : l.length < 1073741824) :
    Calls Tryd.prog 10 #[.slice a l.length cap] w (AnsRow w (partsL l)) := by
  have HR := Lib.hid hr
  have HD := Lib.hid hd
  clear hr hd
  go_enter Tryd.func10, Tryd.ntmps10
  go_wp2_with fail
  refine (of_any 0 255 (by omega) (by omega) _).mono ?_; rintro e w1 ⟨rfl, hb1⟩
  have HS : Hid (PartsR l w 0 [rowB 0 255] (.slice (some ⟨w1.heap.size, 0, none⟩) 1 1) (w1.alloc (.cells (cells4 (rowB 0 255)) 29))) := by
    refine ⟨⟨rfl, .inr ⟨w1.heap.size, 1, cells4 (rowB 0 255), rfl, hb1.size, Blk.new w1 (cells4 (rowB 0 255)) 29, by simp, by unfold maxLen; omega, rfl, rfl⟩⟩, by rw [List.take_zero]; exact parts_none, hb1.alloc hb1.size _⟩
  clear hb1
  generalize rowB 0 255 = full at *
  unfold cls
  go_wp2
  go_loopw [3, 10] (PartsL l w) (fun _ i _ => l.length - (intOf i).toNat)
  case atStart => exact ⟨0, _, Nat.zero_le _, rfl, HS.out⟩
  case round =>
    obtain ⟨k, P, hk, rfl, hP⟩ := hrel
    have hown := hP.own
    obtain ⟨g, cap2, hv, hbg, _⟩ : ∃ g cap2, u3 = .slice (some ⟨g, 0, none⟩) P.length cap2 ∧ w.heap.size ≤ g ∧ CRow wr g P.length (fun i => P.getD i 0) := by
      rcases hown.cases with ⟨_, h⟩ | h
      · have := hP.parts.pos; rw [h] at this; simp at this
      · exact h
    have hle := hP.parts.le
    subst hv
    by_cases hlt : k < l.length
    · have hltz : (k : Int) < (l.length : Int) := by omega
      obtain ⟨b, off, rfl, hb, d0, d1, d2, d3⟩ := (HR.out.later hP.below).cells k hlt
      have hIS : IsParts (splitL P (l.getD k 0)) (l.take (k + 1)) := by
        have hg : l.getD k 0 = l[k] := by simp [hlt]
        rw [List.take_succ_eq_append_getElem hlt, ← hg]
        exact hP.parts.split _
      have HIS := Lib.hid hIS
      clear hIS
      generalize l.getD k 0 = p at *
      by_cases hfull : P.length = 256
      · have HQ : Hid (OwnC (wr.alloc (.cells (cells4 p) 29)) w.heap.size (.slice (some ⟨g, 0, none⟩) P.length cap2) P ∧ IsParts P l ∧ Below w.heap.size w (wr.alloc (.cells (cells4 p) 29))) := by
          refine ⟨hown.later ((Below.refl _ _).alloc (Nat.le_refl _) _), ?_, hP.below.alloc hP.below.size _⟩
          have := parts_full hP.parts hfull (l.drop k)
          rwa [List.take_append_drop] at this
        have hfz : ((P.length : Int) == 256) = true := by rw [beq_iff_eq]; omega
        clear hown hP hfull
        have hrc : CRow (wr.alloc (.cells (cells4 p) 29)) g P.length (fun i => P.getD i 0) := by
          rcases HQ.out.1.cases with ⟨h, _⟩ | ⟨g', c', h, _, h3⟩
          · cases h
          · cases h; exact h3
        have hd2 := HD.out.below HQ.out.2.2
        have hgd := HD.out.1
        have HRC := Lib.hid hrc
        clear hrc
        go_wp2_with fail
        refine (sortby_any (fun i => P.getD i 0) g P.length cap2 _ HRC.out hd2 (by omega) (by have := HQ.out.2.1.le; omega)).mono ?_
        rintro e w5 ⟨rfl, f', hf, hs⟩
        have HF : Hid (IsRow (partsL l) (.slice (some ⟨g, 0, none⟩) P.length cap2) w5 ∧ Below w.heap.size w w5) := by
          rw [map_getD, HQ.out.2.1.bucket] at hf
          refine ⟨⟨_, cap2, by rw [HQ.out.2.1.length, parts_length], hs.row.lrow hf⟩, HQ.out.2.2.trans (hs.but.below hbg (Nat.le_of_lt HRC.out.lt))⟩
        clear hs hf
        go_wp2
        go_returns
        exact ⟨_, rfl, HF.out⟩
      · have hfz : ((P.length : Int) == 256) = false := by rw [beq_eq_false_iff_ne]; omega
        have HP := Lib.hid hP
        clear hown hP hfull
        go_wp2_with fail
        refine (splitall_any w.heap.size g cap2 P p _ (HP.out.own.later ((Below.refl _ _).alloc (Nat.le_refl _) _)) hle (by have := HP.out.below.size; simp; omega)).mono ?_
        rintro e w3 ⟨v', rfl, ho, hb3⟩
        have HO : Hid (PartsR l w (k + 1) (splitL P p) v' w3) := ⟨ho, HIS.out, (HP.out.below.alloc HP.out.below.size _).trans hb3⟩
        clear ho hb3
        go_wp2
        go_roundw
        case rel => exact ⟨k + 1, _, by omega, by go_num, HO.out⟩
        case measure => simp [intOf]; omega
    · obtain rfl : k = l.length := by omega
      have HQ : Hid (OwnC wr w.heap.size (.slice (some ⟨g, 0, none⟩) P.length cap2) P ∧ IsParts P l ∧ Below w.heap.size w wr) := ⟨hown, by have := hP.parts; rwa [List.take_length] at this, hP.below⟩
      clear hown hP
      have hrc : CRow wr g P.length (fun i => P.getD i 0) := by
        rcases HQ.out.1.cases with ⟨h, _⟩ | ⟨g', c', h, _, h3⟩
        · cases h
        · cases h; exact h3
      have hd2 := HD.out.below HQ.out.2.2
      have hgd := HD.out.1
      have HRC := Lib.hid hrc
      clear hrc
      go_wp2_with fail
      refine (sortby_any (fun i => P.getD i 0) g P.length cap2 _ HRC.out hd2 (by omega) (by have := HQ.out.2.1.le; omega)).mono ?_
      rintro e w5 ⟨rfl, f', hf, hs⟩
      have HF : Hid (IsRow (partsL l) (.slice (some ⟨g, 0, none⟩) P.length cap2) w5 ∧ Below w.heap.size w w5) := by
        rw [map_getD, HQ.out.2.1.bucket] at hf
        refine ⟨⟨_, cap2, by rw [HQ.out.2.1.length, parts_length], hs.row.lrow hf⟩, HQ.out.2.2.trans (hs.but.below hbg (Nat.le_of_lt HRC.out.lt))⟩
      clear hs hf
      go_wp2
      go_returns
      exact ⟨_, rfl, HF.out⟩
end Go.Proofs.YtgehepiphdphjaaDoor
