/- The statement LexReads of layer 3, walked. -/
import Derived.Test.YtgehepiphdphjaaDoorLexRRead
import Derived.Test.YtgehepiphdphjaaDoorLexSpacesW
import Derived.Test.YtgehepiphdphjaaDoorLexRSame
namespace Go.Proofs.YtgehepiphdphjaaDoor
open Go Go.RowKit
set_option linter.unusedVariables false
set_option linter.unusedSimpArgs false

theorem rread_ok {l : List UInt8} {r : List Tok} {n : Nat} (h : readL l 0 0 = .ok r) (hn : r.length = n) (w : World) (hl : l.length ≤ 1073741800) :
    Calls Tryd.prog 21 #[.string (bs l)] w (fun e w' => ∃ A c, e = .returned (.tuple #[.slice A n c, .int .i64 0, .int .i64 0]) ∧ TRow w' A r ∧ Below w.heap.size w w') := by
  subst hn
  refine (rread_any l hl w).mono fun e w' hp => ?_
  unfold RdPost at hp
  rw [h] at hp
  obtain ⟨A, c, h1, h2, h3, _⟩ := hp
  exact ⟨A, c, h1, h2, h3⟩
theorem rread_bad {l : List UInt8} {f q : Nat} (h : readL l 0 0 = .error (f, q)) (w : World) (hl : l.length ≤ 1073741800) :
    Calls Tryd.prog 21 #[.string (bs l)] w (Ans w (.tuple #[.slice none 0 0, .int .i64 (f : Int), .int .i64 (q : Int)])) := by
  refine (rread_any l hl w).mono fun e w' hp => ?_
  unfold RdPost at hp
  rw [h] at hp
  exact hp
structure RwS (w0 : World) (A : Option Addr) (r : List Tok) (B : Option Addr) (w : World) : Prop where
  bel : Below w0.heap.size w0 w
  u8 : U8T w
  x : TRow w A r
  y : TRow w B r
theorem RwS.later {w0 w w' : World} {A B : Option Addr} {r : List Tok} (h : RwS w0 A r B w) (hb : Below w.heap.size w w') : RwS w0 A r B w' := ⟨h.bel.trans (hb.mono h.bel.size), h.u8.later hb, h.x.later hb, h.y.later hb⟩
set_option maxHeartbeats 16000000 in
set_option maxRecDepth 1000000 in
theorem lexreads_walk (l : List UInt8) (w : World) (hT : U8T w) (hl : l.length ≤ 9223372036854775807) : Calls Tryd.prog 5 #[.string (bs l)] w (Ans w (.bool true)) := by
  have HT := Lib.hid hT
  clear hT
  go_enter Tryd.func5, Tryd.ntmps5
  by_cases h3 : 3000 < l.length
  · have hz : ((bs l).size : Int) > 3000 := by rw [bs_size]; omega
    go_wp2_with fail
    refine (awake3_any _ HT.out).mono ?_; rintro e w1 ⟨rfl, hb⟩
    go_wp2_with fail
    refine (awake3_any _ (HT.out.later hb)).mono ?_; rintro e w2 ⟨rfl, hb2⟩
    have HF := Lib.hid (hb.trans (hb2.mono hb.size))
    clear hb hb2
    go_wp2
    go_ret
    exact ⟨rfl, HF.out⟩
  · have hz : ¬ ((bs l).size : Int) > 3000 := by rw [bs_size]; omega
    have hl3 : l.length ≤ 3000 := by omega
    clear h3 hl
    go_wp2_with fail
    refine (awake3_any _ HT.out).mono ?_; rintro e w1 ⟨rfl, hb⟩
    have HB1 := Lib.hid hb
    have HU1 := Lib.hid (HT.out.later hb)
    clear hb HT
    cases hr : readL l 0 0 with
    | error p =>
      obtain ⟨f, q⟩ := p
      have HR := Lib.hid hr
      clear hr
      go_wp2_with fail
      refine (read_bad HR.out _ HU1.out (by omega)).mono ?_; rintro e w2 ⟨rfl, hb2⟩
      go_wp2_with fail
      refine (rread_bad HR.out _ (by omega)).mono ?_; rintro e w3 ⟨rfl, hb3⟩
      have HS : Hid (RwS w none [] none w3) := ⟨(HB1.out.trans (hb2.mono HB1.out.size)).trans (hb3.mono (Nat.le_trans HB1.out.size hb2.size)), (HU1.out.later hb2).later hb3, TRow.nil _ _, TRow.nil _ _⟩
      clear hb2 hb3
      obtain ⟨r, hr⟩ : ∃ r : List Tok, r = [] := ⟨_, rfl⟩
      have HN : Hid (r.length = 0) := by unfold Hid; rw [hr]; rfl
      have HNL : Hid (0 ≤ 3001) := Nat.zero_le _
      rw [← hr] at HS
      clear hr
      have hff : ((f : Int) == (f : Int)) = true := beq_self_eq_true _
      have hqq : ((q : Int) == (q : Int)) = true := beq_self_eq_true _
      have HLR : Hid (r.length ≤ 1073741824) := by unfold Hid; rw [HN.out]; have := HNL.out; omega
      have FS : Hid (∀ w', RwS w none r none w' → Calls Tryd.prog 22 #[.slice none 0 0, .slice none 0 0] w' (Ans w' (.bool true))) := fun w' h => by
        have := refsame3_any r r none none 0 0 w' h.x h.y HLR.out HLR.out
        rwa [HN.out, decide_eq_true rfl] at this
      have FT : Hid (∀ w', RwS w none r none w' → Calls Tryd.prog 25 #[.slice none 0 0, .slice none 0 0] w' (Ans w' (.bool true))) := fun w' h => by
        have := same_any r r none none 0 0 w' h.x h.y HLR.out HLR.out
        rwa [HN.out, decide_eq_true rfl] at this
      have FU : Hid (∀ w', RwS w none r none w' → Calls Tryd.prog 23 #[.string (bs l)] w' (Ans w' (.bool (utf8L l)))) := fun w' h => utf8_any (bs l) w' (by rw [bs_size]; omega) h.u8
      have FV : Hid (∀ w', Calls Tryd.prog 24 #[.string (bs l)] w' (Pure w' (.bool (utf8L l)))) := fun w' => refutf8_any l (by omega) w'
      generalize utf8L l = u at *
      have huu : (u == u) = true := beq_self_eq_true u
      go_wp2_with fail
      refine (FS.out _ HS.out).mono ?_; rintro e w4 ⟨rfl, hb⟩
      have HS4 := Lib.hid (HS.out.later hb)
      clear hb HS
      go_wp2_with fail
      refine (FU.out _ HS4.out).mono ?_; rintro e w5 ⟨rfl, hb⟩
      have HS5 := Lib.hid (HS4.out.later hb)
      clear hb HS4
      go_wp2_with fail
      refine (FV.out _).mono ?_; rintro e w6 ⟨rfl, rfl⟩
      go_wp2_with fail
      refine (FT.out _ HS5.out).mono ?_; rintro e w7 ⟨rfl, hb⟩
      have HF := Lib.hid (HS5.out.later hb).bel
      clear hb HS5
      go_wp2
      go_ret
      exact ⟨by first | rfl | simp, HF.out⟩
    | ok r =>
      have hw := readL_whole l 0 0 r (Nat.zero_le _) hr
      have hpos : 0 < r.length := List.length_pos_iff.2 hw.ne
      obtain ⟨n', hn'⟩ : ∃ n', r.length = n' + 1 := ⟨r.length - 1, by omega⟩
      have hnl := whole_len hw hn'
      obtain ⟨n, hn⟩ : ∃ n, r.length = n := ⟨_, rfl⟩
      have HN := Lib.hid hn
      have HNL : Hid (n ≤ 3001) := by unfold Hid; omega
      have HR := Lib.hid hr
      clear hr hw hpos hn' hnl hn
      go_wp2_with fail
      refine (read_okc HR.out HN.out _ HU1.out (by omega)).mono ?_; rintro e w2 ⟨A1, c1, rfl, hx1, hb2, -⟩
      have HX1 := Lib.hid hx1
      have HB2 := Lib.hid hb2
      clear hx1 hb2
      go_wp2_with fail
      refine (rread_ok HR.out HN.out _ (by omega)).mono ?_; rintro e w3 ⟨A2, c2, rfl, hx2, hb3⟩
      have HS : Hid (RwS w A1 r A2 w3) := ⟨(HB1.out.trans (HB2.out.mono HB1.out.size)).trans (hb3.mono (Nat.le_trans HB1.out.size HB2.out.size)), (HU1.out.later HB2.out).later hb3, HX1.out.later hb3, hx2⟩
      clear hb3 hx2 HX1 HB1 HB2 HU1
      have HLR : Hid (r.length ≤ 1073741824) := by unfold Hid; rw [HN.out]; have := HNL.out; omega
      have FS : Hid (∀ w', RwS w A1 r A2 w' → Calls Tryd.prog 22 #[.slice A1 n c1, .slice A2 n c2] w' (Ans w' (.bool true))) := fun w' h => by
        have := refsame3_any r r A1 A2 c1 c2 w' h.x h.y HLR.out HLR.out
        rwa [HN.out, decide_eq_true rfl] at this
      have FT : Hid (∀ w', RwS w A1 r A2 w' → Calls Tryd.prog 25 #[.slice A1 n c1, .slice A2 n c2] w' (Ans w' (.bool true))) := fun w' h => by
        have := same_any r r A1 A2 c1 c2 w' h.x h.y HLR.out HLR.out
        rwa [HN.out, decide_eq_true rfl] at this
      have FU : Hid (∀ w', RwS w A1 r A2 w' → Calls Tryd.prog 23 #[.string (bs l)] w' (Ans w' (.bool (utf8L l)))) := fun w' h => utf8_any (bs l) w' (by rw [bs_size]; omega) h.u8
      have FV : Hid (∀ w', Calls Tryd.prog 24 #[.string (bs l)] w' (Pure w' (.bool (utf8L l)))) := fun w' => refutf8_any l (by omega) w'
      generalize utf8L l = u at *
      have huu : (u == u) = true := beq_self_eq_true u
      go_wp2_with fail
      refine (FS.out _ HS.out).mono ?_; rintro e w4 ⟨rfl, hb⟩
      have HS4 := Lib.hid (HS.out.later hb)
      clear hb HS
      go_wp2_with fail
      refine (FU.out _ HS4.out).mono ?_; rintro e w5 ⟨rfl, hb⟩
      have HS5 := Lib.hid (HS4.out.later hb)
      clear hb HS4
      go_wp2_with fail
      refine (FV.out _).mono ?_; rintro e w6 ⟨rfl, rfl⟩
      go_wp2_with fail
      refine (FT.out _ HS5.out).mono ?_; rintro e w7 ⟨rfl, hb⟩
      have HF := Lib.hid (HS5.out.later hb).bel
      clear hb HS5
      go_wp2
      go_ret
      exact ⟨by first | rfl | simp, HF.out⟩
end Go.Proofs.YtgehepiphdphjaaDoor
