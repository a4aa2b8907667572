/- The document's parts of layer 2: of each head the bytes that are like it. -/
import Derived.Test.YtjopngcjahdodaaDoorSplitRHeads
namespace Go.Proofs.YtjopngcjahdodaaDoor
open Go Go.RowKit
set_option linter.unusedVariables false

theorem grown_setCell (w : World) (g i : Nat) (v : Value) : w.grownBy (w.setCell ⟨g, i, none⟩ v) (some g) :=
  ⟨rfl, rfl, rfl, by simp [World.setCell], fun k _ hk => Below.heap_setCell _ _ _ _ (fun e => hk (by rw [e]))⟩
theorem OwnC.set_ne {w : World} {base g i : Nat} {v u : Value} {l : List (BitVec 256)} (h : OwnC w base v l) (hne : v.ownBlock ≠ some g) : OwnC (w.setCell ⟨g, i, none⟩ u) base v l :=
  World.ownsRow.kept h (grown_setCell w g i u) (.inr hne)
theorem parts_take {l : List (BitVec 256)} {k : Nat} (hk : k < (headsL l).length) : (partsL l).take (k + 1) = (partsL l).take k ++ [cellB l ((headsL l).getD k 0)] := by
  have h2 : k < (partsL l).length := by rw [parts_length]; exact hk
  rw [List.take_succ_eq_append_getElem h2]
  have e1 : (headsL l).getD k 0 = (headsL l)[k] := by simp [hk]
  have e2 : (partsL l)[k] = cellB l (headsL l)[k] := List.getElem_map (cellB l) (l := headsL l) (i := k)
  rw [e1, e2]

def RPL (l : List (BitVec 256)) (wB : World) (v i : Value) (w : World) : Prop := ∃ k : Nat, k ≤ (headsL l).length ∧ i = .int .i64 k ∧ OwnC w wB.heap.size v ((partsL l).take k) ∧ Below wB.heap.size wB w
def RPI (l cur : List (BitVec 256)) (wB : World) (gb h : Nat) (v c : Value) (w : World) : Prop := ∃ k : Nat, k ≤ 256 ∧ c = .int .i64 k ∧ OwnC w wB.heap.size v cur ∧ Below wB.heap.size wB w ∧ BRow w gb (fun i => if i < k then likeB l h i else false)

set_option maxRecDepth 1000000 in
set_option maxHeartbeats 16000000 in
theorem refparts_any (l : List (BitVec 256)) (A : Option Addr) (cap : Nat) (w : World) (hr : LRow w A l) (hl : l.length < 1073741824) :
    Calls Tryd.prog 12 #[.slice A l.length cap] w (AnsRow w (partsL l)) := by
  have HR := Lib.hid hr
  have HP := Lib.hid (refheads_any l A cap w hr hl)
  have hle := heads_le l
  have hmk := make256
  clear hr
  go_enter Tryd.func12, Tryd.ntmps12
  go_wp2_with fail
  refine HP.out.mono ?_
  rintro e wB ⟨v, rfl, ⟨a3, c3, rfl, hr3⟩, hbB⟩
  have HBB := Lib.hid hbB
  have HR3 := Lib.hid hr3
  clear hbB hr3 HP
  go_wp2
  go_loopw [3, 5] (RPL l wB) (fun _ i _ => (headsL l).length - (intOf i).toNat)
  case atStart => exact ⟨0, Nat.zero_le _, rfl, OwnC.nil _ _, Below.refl _ _⟩
  case round =>
    obtain ⟨k, hk, rfl, ho, hb⟩ := hrel
    have HO := Lib.hid ho
    have HB := Lib.hid hb
    have hsB := hb.size
    by_cases hlt : k < (headsL l).length
    · have hltz : (k : Int) < ((headsL l).length : Int) := by omega
      have HT := Lib.hid (parts_take hlt)
      obtain ⟨b3, o3, hA3, hb3, hc3⟩ := HR3.out.2.2 k hlt
      have hh : (headsL l).getD k 0 < 256 := heads_lt l _ (by simp [hlt])
      have hgl : ∀ g, u3.ownBlock = some g → g < wr.heap.size := fun g h => (World.ownsRow.lt ho g h).2
      have HGL := Lib.hid hgl
      have hcl : ((partsL l).take k).length ≤ k := List.length_take_le _ _
      obtain ⟨x, hxe⟩ : ∃ x, x = (headsL l).getD k 0 := ⟨_, rfl⟩
      rw [← hxe] at hc3 hh
      have HXE := Lib.hid hxe
      subst hA3
      have f3 : ∀ w', Below wB.heap.size wB w' → w'.cell? ⟨b3, o3 + k, none⟩ = some (.int .u8 ((x : Nat) : Int)) := fun w' h => (h.cell (p := ⟨b3, o3 + k, none⟩) hb3).trans hc3
      have F3 := Lib.hid f3
      have HB0 : Hid (RPI l ((partsL l).take k) wB wr.heap.size x u3 (.int .i64 0) (wr.alloc (.cells (Array.replicate 256 (.bool false)) 4))) := by
        have hbl : Below wr.heap.size wr (wr.alloc (.cells (Array.replicate 256 (.bool false)) 4)) := (Below.refl _ _).alloc (Nat.le_refl _) _
        refine ⟨0, by omega, rfl, ho.later hbl, hb.trans (hbl.mono hsB), _, Blk.new wr (Array.replicate 256 (.bool false)) 4, by simp, fun i hi => ?_⟩
        simp [hi]
      clear ho hb hc3 f3 hxe hgl
      go_wp2
      generalize wr.heap.size = gb at *
      go_loopw [7] (RPI l ((partsL l).take k) wB gb x u3) (fun c _ => 256 - (intOf c).toNat)
      case atStart => exact HB0.out
      case round =>
        obtain ⟨c, hc, rfl, ho2, hb2, hrow⟩ := hrel
        have HO2 := Lib.hid ho2
        have HB2 := Lib.hid hb2
        have HRW := Lib.hid hrow
        have hsB2 := hb2.size
        have hl3 := F3.out _ hb2
        by_cases hc2 : c < 256
        · have hcz : (c : Int) < 256 := by omega
          have hc0 : (0 : Int) ≤ (c : Int) := by omega
          have hc1 : (c : Int) ≤ 255 := by omega
          have hrA := HR.out.later (HBB.out.trans (hb2.mono HBB.out.size))
          have HRA := Lib.hid hrA
          clear ho2 hb2 hrow hrA
          go_wp2_with fail
          refine (like_any l A cap x c _ HRA.out hh hc2 hl).mono ?_
          rintro e w4 ⟨rfl, hb4⟩
          have HO4 := Lib.hid (HO2.out.later hb4)
          have HB4 := Lib.hid (HB2.out.trans (hb4.mono hsB2))
          have hrw4 := HRW.out.later hb4
          have HRW4 := Lib.hid hrw4
          have g4 := hrw4.cell c hc2
          have fz4 := hrw4.frozen c
          clear hb4 hrw4 hl3
          generalize hlk : likeB l x c = y at *
          have HLK := Lib.hid hlk
          clear hlk
          have HQ : Hid (RPI l ((partsL l).take k) wB gb x u3 (.int .i64 ((c + 1 : Nat) : Int)) (w4.setCell ⟨gb, c, none⟩ (.bool y))) := by
            refine ⟨c + 1, by omega, rfl, HO4.out.set_ne (fun h => by have := HGL.out _ h; omega), HB4.out.setCell (p := ⟨gb, c, none⟩) hsB _, ?_⟩
            refine (HRW4.out.set c y).congr fun i hi => ?_
            by_cases e : i = c
            · subst e; rw [if_pos rfl, if_pos (by omega), HLK.out]
            · rw [if_neg e]
              by_cases e2 : i < c
              · rw [if_pos e2, if_pos (by omega)]
              · rw [if_neg e2, if_neg (by omega)]
          go_wp2
          go_roundw
          case rel => first | exact HQ.out | ((repeat apply Exists.intro); exact ⟨HQ.out, rfl⟩)
          case measure => simp [intOf]; omega
        · obtain rfl : c = 256 := by omega
          have hbr : BoolRow wr (.slice (some ⟨gb, 0, none⟩) 256 256) (cellB l x) := hrow.row (fun i hi => by rw [if_pos hi, cell_bit _ _ _ hi]) 256
          have HBR := Lib.hid hbr
          clear ho2 hb2 hrow hbr hl3
          go_wp2_with fail
          refine (refof_any (cellB l x) _ _ HBR.out).mono ?_
          rintro e w5 ⟨rfl, hb5⟩
          have HO5 := Lib.hid ((HO2.out.later hb5).later ((Below.refl _ _).alloc (Nat.le_refl _) (.cells (cells4 (cellB l x)) 25)))
          have HB5 := Lib.hid ((HB2.out.trans (hb5.mono hsB2)).alloc (Nat.le_trans hsB2 hb5.size) (.cells (cells4 (cellB l x)) 25))
          have HBK := Lib.hid (Blk.new w5 (cells4 (cellB l x)) 25)
          have hBs : wB.heap.size ≤ (w5.alloc (.cells (cells4 (cellB l x)) 25)).heap.size := by have := hb5.size; simp; omega
          have hlen2 : ((partsL l).take k).length < 1073741824 := by omega
          have HT2 : Hid ((partsL l).take (k + 1) = (partsL l).take k ++ [cellB l x]) := by unfold Hid; rw [HT.out, ← HXE.out]
          clear hb5
          generalize cellB l x = rk at *
          unfold cells4 at HO5 HB5 HBK hBs
          unfold cls
          go_wp2_with (at_builtin; refine wpList_append_cls rfl _ _ rfl wB.heap.size _ ((partsL l).take k) rfl HO5.out w5.heap.size rk rfl HBK.out hlen2 hBs ?_; intro v' w7 ho7 hb7)
          have HQ : Hid (RPL l wB v' (.int .i64 ((k + 1 : Nat) : Int)) w7) := ⟨k + 1, by omega, rfl, by rw [HT2.out]; exact ho7, HB5.out.trans (hb7 _ (Nat.le_refl _))⟩
          clear ho7 hb7
          go_wp2
          go_roundw
          case rel => first | exact HQ.out | ((repeat apply Exists.intro); exact ⟨HQ.out, rfl⟩)
          case measure => simp [intOf]; omega
    · obtain rfl : k = (headsL l).length := by omega
      have hwh : (partsL l).take (headsL l).length = partsL l := by rw [← parts_length]; exact List.take_length
      rw [hwh] at ho
      have HQ : Hid (IsRow (partsL l) u3 wr ∧ Below w.heap.size w wr) := ⟨ho.isRow, HBB.out.trans (hb.mono HBB.out.size)⟩
      clear ho hb HO HB hwh
      go_wp2
      go_returns
      exact ⟨_, rfl, HQ.out⟩
end Go.Proofs.YtjopngcjahdodaaDoor
