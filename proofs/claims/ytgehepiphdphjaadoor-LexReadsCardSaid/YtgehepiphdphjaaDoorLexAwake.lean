/- The anchor: answers that the document fixes. -/
import Derived.Test.YtgehepiphdphjaaDoorLexRead
import Derived.Test.YtgehepiphdphjaaDoorLexSame
namespace Go.Proofs.YtgehepiphdphjaaDoor
open Go Go.RowKit
set_option linter.unusedVariables false

theorem read_ok {l : List UInt8} {r : List Tok} (h : readL l 0 0 = .ok r) (w : World) (hT : U8T w) (hl : l.length ≤ 1073741823) :
    Calls Tryd.prog 20 #[.string (bs l)] w (fun e w' => ∃ A c, e = .returned (.tuple #[.slice A r.length c, .int .i64 0, .int .i64 0]) ∧ TRow w' A r ∧ Below w.heap.size w w') := by
  refine (lexread_any l w hT hl).mono fun e w' hp => ?_
  unfold RdPost at hp
  rw [h] at hp
  obtain ⟨A, c, h1, h2, h3, _⟩ := hp
  exact ⟨A, c, h1, h2, h3⟩
theorem read_okc {l : List UInt8} {r : List Tok} {n : Nat} (h : readL l 0 0 = .ok r) (hn : r.length = n) (w : World) (hT : U8T w) (hl : l.length ≤ 1073741823) :
    Calls Tryd.prog 20 #[.string (bs l)] w (fun e w' => ∃ A c, e = .returned (.tuple #[.slice A n c, .int .i64 0, .int .i64 0]) ∧ TRow w' A r ∧ Below w.heap.size w w' ∧ n ≤ c) := by
  subst hn
  refine (lexread_any l w hT hl).mono fun e w' hp => ?_
  unfold RdPost at hp
  rw [h] at hp; exact hp
theorem read_bad {l : List UInt8} {f q : Nat} (h : readL l 0 0 = .error (f, q)) (w : World) (hT : U8T w) (hl : l.length ≤ 1073741823) :
    Calls Tryd.prog 20 #[.string (bs l)] w (Ans w (.tuple #[.slice none 0 0, .int .i64 (f : Int), .int .i64 (q : Int)])) := by
  refine (lexread_any l w hT hl).mono fun e w' hp => ?_
  unfold RdPost at hp
  rw [h] at hp; exact hp
def awC : BitVec 256 := 0#256 ||| rowB 97 97 ||| rowB 112 114
def awT0 : Tok := { kind := 1, at_ := 1, cls := awC }
def awT1 : Tok := { kind := 6, at_ := 11 }
def awT2 : Tok := { kind := 7, at_ := 12, lo := 2, hi := 13 }
def awT3 : Tok := { kind := 10, at_ := 18 }
theorem aw1 : readL [32, 60, 54, 49, 44, 55, 48, 45, 55, 50, 62, 42, 123, 50, 44, 49, 51, 125] 0 0 = .ok [awT0, awT1, awT2, awT3] := by rfl
theorem aw2 : readL [46, 97] 0 0 = .error (1, 1) := by rfl
theorem aw3 : readL [40, 60, 54, 62] 0 0 = .error (2, 1) := by rfl
theorem aw4 : readL [34, 255, 34] 0 0 = .error (3, 0) := by rfl
theorem aw5 : readL [123, 49, 44, 125] 0 0 = .error (4, 0) := by rfl
theorem aw6 : readL [123, 51, 44, 50, 125] 0 0 = .error (5, 0) := by rfl
theorem awC1 : awC.getLsbD 113 = true := by unfold awC; rw [BitVec.getLsbD_or, BitVec.getLsbD_or, rowB_bit _ _ _ (by decide), rowB_bit _ _ _ (by decide)]; decide
theorem awC2 : awC.getLsbD 98 = false := by unfold awC; rw [BitVec.getLsbD_or, BitVec.getLsbD_or, rowB_bit _ _ _ (by decide), rowB_bit _ _ _ (by decide)]; decide
theorem awU1 : utf8L [195, 169] = true := by rfl
theorem awU2 : utf8L [192, 128] = false := by rfl
structure AwkS (w0 : World) (b o : Nat) (w : World) : Prop where
  bel : Below w0.heap.size w0 w
  u8 : U8T w
  row : TRow w (some ⟨b, o, none⟩) [awT0, awT1, awT2, awT3]
theorem AwkS.later {w0 w w' : World} {b o : Nat} (h : AwkS w0 b o w) (hb : Below w.heap.size w w') : AwkS w0 b o w' := ⟨h.bel.trans (hb.mono h.bel.size), h.u8.later hb, h.row.later hb⟩
theorem AwkS.cells {w0 w : World} {b o : Nat} (h : AwkS w0 b o w) :
    (w.cell? ⟨b, o, none⟩ = some (.int .i64 1) ∧ w.cell? ⟨b, o + 1, none⟩ = some (.int .i64 1) ∧ w.cell? ⟨b, o + 2, none⟩ = some (.int .u64 (wd awC 0)) ∧ w.cell? ⟨b, o + 3, none⟩ = some (.int .u64 (wd awC 1)) ∧ w.cell? ⟨b, o + 4, none⟩ = some (.int .u64 (wd awC 2)) ∧ w.cell? ⟨b, o + 5, none⟩ = some (.int .u64 (wd awC 3))) ∧
    w.cell? ⟨b, o + 9, none⟩ = some (.int .i64 6) ∧ w.cell? ⟨b, o + 25, none⟩ = some (.int .i64 2) ∧ w.cell? ⟨b, o + 26, none⟩ = some (.int .i64 13) ∧ w.cell? ⟨b, o + 27, none⟩ = some (.int .i64 10) ∧ w.cell? ⟨b, o + 28, none⟩ = some (.int .i64 18) := by
  obtain ⟨a0, a1, a2, a3, a4, a5, _⟩ := h.row.at (i := 0) (by simp) rfl
  obtain ⟨b0, _⟩ := h.row.at (i := 1) (by simp) rfl
  obtain ⟨_, _, _, _, _, _, _, c7, c8⟩ := h.row.at (i := 2) (by simp) rfl
  obtain ⟨d0, d1, _⟩ := h.row.at (i := 3) (by simp) rfl
  exact ⟨⟨a0, a1, a2, a3, a4, a5⟩, b0, c7, c8, d0, d1⟩
set_option maxHeartbeats 16000000 in
set_option maxRecDepth 1000000 in
theorem awake3_any (w : World) (hT : U8T w) : Calls Tryd.prog 19 #[] w (Ans w (.bool true)) := by
  have HT := Lib.hid hT
  clear hT
  go_enter Tryd.func19, Tryd.ntmps19
  go_wp2_with fail
  refine (read_ok aw1 _ HT.out (by decide)).mono ?_; rintro e w1 ⟨A, c, rfl, hr, hb⟩
  obtain ⟨b, o, rfl, _, _⟩ := hr 0 (by simp)
  have H1 : Hid (AwkS w b o w1) := ⟨hb, HT.out.later hb, hr⟩
  clear hr hb
  go_wp2_with fail
  refine (read_bad aw2 _ H1.out.u8 (by decide)).mono ?_; rintro e w2 ⟨rfl, hb⟩
  have H2 := Lib.hid (H1.out.later hb)
  clear hb H1
  go_wp2_with fail
  refine (read_bad aw3 _ H2.out.u8 (by decide)).mono ?_; rintro e w3 ⟨rfl, hb⟩
  have H3 := Lib.hid (H2.out.later hb)
  clear hb H2
  go_wp2_with fail
  refine (read_bad aw4 _ H3.out.u8 (by decide)).mono ?_; rintro e w4 ⟨rfl, hb⟩
  have H4 := Lib.hid (H3.out.later hb)
  clear hb H3
  go_wp2_with fail
  refine (read_bad aw5 _ H4.out.u8 (by decide)).mono ?_; rintro e w5 ⟨rfl, hb⟩
  have H5 := Lib.hid (H4.out.later hb)
  clear hb H4
  go_wp2_with fail
  refine (read_bad aw6 _ H5.out.u8 (by decide)).mono ?_; rintro e w6 ⟨rfl, hb⟩
  have H6 := Lib.hid (H5.out.later hb)
  clear hb H5
  go_upto_region 9 with (fail)
  have HA : Hid (∀ w', AwkS w b o w' → Calls Tryd.prog 25 #[.slice (some ⟨b, o, none⟩) 4 c, .slice (some ⟨b, o, none⟩) 4 c] w' (Ans w' (.bool true))) := fun w' h => by
    have := same_any [awT0, awT1, awT2, awT3] [awT0, awT1, awT2, awT3] _ _ c c w' h.row h.row (by decide) (by decide)
    rwa [decide_eq_true rfl] at this
  have HB : Hid (∀ w', AwkS w b o w' → Calls Tryd.prog 25 #[.slice (some ⟨b, o, none⟩) 4 c, .slice none 0 0] w' (Ans w' (.bool false))) := fun w' h => by
    have := same_any [awT0, awT1, awT2, awT3] [] _ none c 0 w' h.row (TRow.nil _ _) (by decide) (by decide)
    rwa [decide_eq_false (by simp)] at this
  have HC : Hid (∀ w', Calls Tryd.prog 15 #[cls awC, .int .u8 113] w' (Ans w' (.bool true))) := fun w' => by
    have := refhas_any awC 113 (by decide) w'
    rwa [awC1] at this
  have HD : Hid (∀ w', Calls Tryd.prog 15 #[cls awC, .int .u8 98] w' (Ans w' (.bool false))) := fun w' => by
    have := refhas_any awC 98 (by decide) w'
    rwa [awC2] at this
  have HE : Hid (∀ w', U8T w' → Calls Tryd.prog 23 #[.string ⟨#[195, 169]⟩] w' (Ans w' (.bool true))) := fun w' h => utf8_any (bs [195, 169]) w' (by decide) h
  have HF : Hid (∀ w', U8T w' → Calls Tryd.prog 23 #[.string ⟨#[192, 128]⟩] w' (Ans w' (.bool false))) := fun w' h => utf8_any (bs [192, 128]) w' (by decide) h
  refine wp_region_stable (S := (AwkS w b o)) (hSt := fun _ _ h hb => h.later hb) (plan := [[(2, none)], [(52, some 0)], [(53, some 1)], [(1, none)], [(55, some 3)], [(56, some 4)], [(57, some 5)], [(58, some 6)], [(54, some 2), (59, some 7)], [(60, some 8)], [(1, none)], [(62, some 10)], [(63, some 11)], [(64, some 12)], [(65, some 13)], [(61, some 9), (66, some 14)], [(67, some 15)], [(1, none)], [(69, some 17)], [(70, some 18)], [(71, some 19)], [(72, some 20)], [(68, some 16), (73, some 21)], [(74, some 22)], [(1, none)], [(76, some 24)], [(77, some 25)], [(78, some 26)], [(79, some 27)], [(80, some 28)], [(75, some 23), (81, some 29)], [(82, some 30)], [(1, none)], [(84, some 32)], [(85, some 33)], [(86, some 34)], [(87, some 35)], [(83, some 31), (88, some 36)], [(89, some 37)], [(1, none)], [(91, some 39)], [(92, some 40)], [(93, some 41)], [(94, some 42)], [(90, some 38), (95, some 43)], [(96, some 44)], [(1, none)], [(98, some 46)], [(99, some 47)], [(100, some 48)], [(101, some 49)], [(97, some 45), (102, some 50)], [(103, some 51)], [(1, none)], [(105, some 53)], [(106, some 54)], [(107, some 55)], [(108, some 56)], [(104, some 52), (109, some 57)], [(110, some 58)], [(1, none)], [(112, some 60)], [(113, some 61)], [(114, some 62)], [(115, some 63)], [(111, some 59), (116, some 64)], [(117, some 65)], [(5, none)], [(119, some 67)], [(118, some 66), (120, some 68)], [(121, some 69)], [(6, none)], [(123, some 71)], [(122, some 70), (124, some 72)], [(125, some 73)], [(8, none)], [(127, some 75)], [(126, some 74), (128, some 76)], [(129, some 77)], [(9, none)], [(131, some 79)], [(130, some 78), (132, some 80)], [(133, some 81)], [(11, none)], [(135, some 83)], [(134, some 82), (136, some 84)], [(137, some 85)], [(14, none)], [(139, some 87)], [(138, some 86), (140, some 88)], [(141, some 89)], [(17, none)], [(143, some 91)], [(142, some 90), (144, some 92)], [(145, some 93)], [], [(146, some 94), (147, some 95)], [(148, some 96)], [], [(150, some 98)], [(149, some 97), (151, some 99)], [(152, some 100)], [(1, none)], [(1, none)], [(154, some 102), (155, some 103)], [(153, some 101), (156, some 104)], [(157, some 105)], [(1, none)], [(159, some 107)], [(160, some 108)], [(158, some 106), (161, some 109)], [(162, some 110)]]) (by kernel_rfl) (by kernel_rfl) (by kernel_rfl) ?hS ?_
  rotate_left
  iterate 112 first
    | (refine chain_skip (by rfl) (by rfl) ?_)
    | (apply chain_want (by rfl)
       · intro act wx hS hr
         simp at hr
         have ⟨⟨a0, a1, a2, a3, a4, a5⟩, b0, c7, c8, d0, d1⟩ := hS.cells
         go_simp
         (try go_ints)
         first
           | exact Done.same (v := cls awC)
           | ((with_reducible refine (HC.out _).mono ?_); rintro e w' ⟨rfl, hb⟩; exact Done.mk hb)
           | ((with_reducible refine (HD.out _).mono ?_); rintro e w' ⟨rfl, hb⟩; exact Done.mk hb)
           | ((with_reducible refine (HE.out _ hS.u8).mono ?_); rintro e w' ⟨rfl, hb⟩; exact Done.mk hb)
           | ((with_reducible refine (HF.out _ hS.u8).mono ?_); rintro e w' ⟨rfl, hb⟩; exact Done.mk hb)
           | ((with_reducible refine (HA.out _ hS).mono ?_); rintro e w' ⟨rfl, hb⟩; exact Done.mk hb)
           | ((with_reducible refine (HB.out _ hS).mono ?_); rintro e w' ⟨rfl, hb⟩; exact Done.mk hb)
           | exact Done.same
      )
  show ∀ w', _ → _
  intro wz hz
  simp [Act.put]
  case hS => exact H6.out
  have HZ := Lib.hid hz
  clear hz
  go_wp2
  go_ret
  exact ⟨rfl, HZ.out.bel⟩
end Go.Proofs.YtgehepiphdphjaaDoor
