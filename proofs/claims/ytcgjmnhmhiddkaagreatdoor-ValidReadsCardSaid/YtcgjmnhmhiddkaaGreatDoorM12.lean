/- The document's nodes moved, parts, wholes: walked. -/
import Derived.Test.YtcgjmnhmhiddkaaGreatDoorM11
import Derived.Test.YtcgjmnhmhiddkaaGreatDoorM08
import Derived.Test.YtcgjmnhmhiddkaaGreatDoorM06
import Derived.Test.YtcgjmnhmhiddkaaGreatDoorM07
import Derived.Test.YtcgjmnhmhiddkaaGreatDoorM03
namespace Go.Proofs.YtcgjmnhmhiddkaaGreatDoor
open Go Go.RowKit
set_option linter.unusedVariables false
set_option linter.unusedSimpArgs false
theorem OwnN.setCell_ne2 {w : World} {base : Nat} {s : Value} {l : List Nd} (h : OwnN w base s l) {a : Addr} (ha : ∀ k, s.ownBlock = some k → k ≠ a.block) (v : Value) : OwnN (w.setCell a v) base s l := by
  obtain ⟨h0, ⟨hv, hn⟩ | ⟨g, cap, cur, hv, hb, hg, hr⟩⟩ := h
  · exact ⟨h0, .inl ⟨hv, hn⟩⟩
  · refine ⟨h0, .inr ⟨g, cap, cur, hv, hb, ?_, hr⟩⟩
    have : Blk w g cur 44 := hg
    exact this.setCell_ne (a := a) (Ne.symm (ha g (by rw [hv]; rfl))) v
set_option maxHeartbeats 8000000 in
set_option maxRecDepth 100000 in
theorem rmoved_any (m : List Nd) (d : Int) (A : Option Addr) (c : Nat) (w : World) (hrow : NRow w A m) (hlen : m.length < 1073741824) (hok : ∀ n ∈ m, MvOk d n ∧ n.kind ≤ 9) :
    Calls Tryz.prog 33 #[.slice A m.length c, .int .i64 d] w (LaidPost w w.heap.size (m.map (mvN d))) := by
  have HS0 : Hid (LaidS w w.heap.size A m (.slice none 0 0) [] w) := ⟨Below.refl _ _, OwnN.nil _ _, hrow, Nat.le_refl _⟩
  have HA : Hid (∀ b o, m ≠ [] → A = some ⟨b, o, none⟩ → b < w.heap.size) := fun b o hne e => by
    obtain ⟨b', o', h1, h2, _⟩ := hrow 0 (List.length_pos_iff.2 hne)
    rw [e] at h1; cases h1; exact h2
  have HOK := Lib.hid hok
  clear hrow hok
  go_enter Tryz.func33, Tryz.ntmps33
  go_wp2
  go_loopw [5, 6] (LaidL w w.heap.size A [] m d) (fun _ i _ => m.length - (intOf i).toNat)
  case atStart => exact ⟨0, Nat.zero_le _, rfl, by simpa using HS0.out⟩
  case round =>
    obtain ⟨k, hk, rfl, hs⟩ := hrel
    rw [List.nil_append] at hs
    have HS := Lib.hid hs
    by_cases hlt : k < m.length
    · have hltz : (k : Int) < (m.length : Int) := by omega
      obtain ⟨ba, oa, rfl, -, -⟩ := hs.row k hlt
      have HA := Lib.hid (fun b o => HA.out b o (List.ne_nil_of_length_pos (by omega)))
      have g : At10 wr ba (oa + k * 10) (m.getD k nd0) := hs.row.at hlt rfl
      have HN : Hid ((m.take (k + 1)).map (mvN d) = (m.take k).map (mvN d) ++ [mvN d (m.getD k nd0)]) := by
        unfold Hid
        rw [List.take_succ_eq_append_getElem hlt, List.map_append, List.getD_eq_getElem?_getD, List.getElem?_eq_getElem hlt]; rfl
      have HM := Lib.hid (HOK.out (m.getD k nd0) (by rw [List.getD_eq_getElem?_getD, List.getElem?_eq_getElem hlt]; exact List.getElem_mem _))
      have hcnt : ((m.take k).map (mvN d)).length < 1073741824 := by rw [List.length_map, List.length_take]; omega
      have HCN := Lib.hid hcnt
      generalize (m.take k).map (mvN d) = L at *
      generalize m.getD k nd0 = n at *
      clear hs hcnt
      obtain ⟨kk, na, nb, nlo, nhi, ncls, ntext⟩ := n
      unfold At10 at g
      simp only at g
      obtain ⟨g0, g1, g2, g3, g4, g5, g6, g7, g8, g9⟩ := g
      obtain ⟨⟨_, hfa, hfb⟩, hk9⟩ := HM.out
      simp only at hfa hfb hk9
      unfold partK at hfa
      have HS2 := Lib.hid (HS.out.later ((Below.refl _ _).alloc (Nat.le_refl _) (.cells #[.int .i64 kk, .int .i64 na, .int .i64 nb, .int .i64 nlo, .int .i64 nhi, .int .u64 (wd ncls 0), .int .u64 (wd ncls 1), .int .u64 (wd ncls 2), .int .u64 (wd ncls 3), .string (bs ntext)] 44)))
      have HB2 := Lib.hid (Blk.new wr #[.int .i64 kk, .int .i64 na, .int .i64 nb, .int .i64 nlo, .int .i64 nhi, .int .u64 (wd ncls 0), .int .u64 (wd ncls 1), .int .u64 (wd ncls 2), .int .u64 (wd ncls 3), .string (bs ntext)] 44)
      have hlow : w.heap.size ≤ wr.heap.size := HS.out.low
      have HOB : Hid (∀ k, Value.ownBlock u5 = some k → k < wr.heap.size) := fun k hk => (World.ownsRow.lt HS.out.own k hk).2
      have hlow2 : w.heap.size ≤ wr.heap.size := hlow
      go_upto_region 6 with (fail)
      clear g0 g1 g2 g3 g4 g5 g6 g7 g8 g9
      generalize wr.alloc (.cells #[.int .i64 kk, .int .i64 na, .int .i64 nb, .int .i64 nlo, .int .i64 nhi, .int .u64 (wd ncls 0), .int .u64 (wd ncls 1), .int .u64 (wd ncls 2), .int .u64 (wd ncls 3), .string (bs ntext)] 44) = w2 at *
      generalize wr.heap.size = bx at *
      have gg := HB2.out
      have gf := gg.frozen
      obtain ⟨g0, g1, g2, g3, g4, g5, g6, g7, g8, g9⟩ := ten_cells gg
      clear gg
      by_cases c4 : kk = 4 ∨ kk = 5
      · have h4 : kk ≥ 4 := by omega
        have ha1 := hfa (by omega)
        have hb1 := hfb c4
        have HXV : Hid (mvN d ⟨kk, na, nb, nlo, nhi, ncls, ntext⟩ = ⟨kk, na + d, nb + d, nlo, nhi, ncls, ntext⟩) := by unfold Hid mvN; rw [if_neg (by simp only; omega), if_pos c4]
        clear hfa hfb hk9
        rcases c4 with rfl | rfl
        ·
          go_upto_region 8 with (fail)
          have HB3 : Hid (Blk (w2.setCell ⟨bx, 1, none⟩ (.int .i64 (na + d))) bx #[.int .i64 4, .int .i64 (na + d), .int .i64 nb, .int .i64 nlo, .int .i64 nhi, .int .u64 (wd ncls 0), .int .u64 (wd ncls 1), .int .u64 (wd ncls 2), .int .u64 (wd ncls 3), .string (bs ntext)] 44) := HB2.out.setCell 1 (.int .i64 (na + d))
          have hbs : Below w.heap.size w2 (w2.setCell ⟨bx, 1, none⟩ (.int .i64 (na + d))) := (Below.refl _ _).setCell (p := ⟨bx, 1, none⟩) hlow _
          have HS3 : Hid (LaidS w w.heap.size (some ⟨ba, oa, none⟩) m _ L (w2.setCell ⟨bx, 1, none⟩ (.int .i64 (na + d)))) := ⟨HS2.out.bel.trans hbs, HS2.out.own.setCell_ne2 (fun k hk => by have := HOB.out k hk; show k ≠ bx; omega) _, HS2.out.row.below HA.out hbs hbs.size, Nat.le_trans HS2.out.low hbs.size⟩
          generalize w2.setCell ⟨bx, 1, none⟩ (.int .i64 (na + d)) = w3 at *
          clear hbs gf g0 g1 g2 g3 g4 g5 g6 g7 g8 g9
          have gg := HB3.out
          have gf := gg.frozen
          obtain ⟨g0, g1, g2, g3, g4, g5, g6, g7, g8, g9⟩ := ten_cells gg
          clear gg
          go_upto_region 10 with (fail)
          have HB4 : Hid (Blk (w3.setCell ⟨bx, 2, none⟩ (.int .i64 (nb + d))) bx #[.int .i64 4, .int .i64 (na + d), .int .i64 (nb + d), .int .i64 nlo, .int .i64 nhi, .int .u64 (wd ncls 0), .int .u64 (wd ncls 1), .int .u64 (wd ncls 2), .int .u64 (wd ncls 3), .string (bs ntext)] 44) := HB3.out.setCell 2 (.int .i64 (nb + d))
          have hbs : Below w.heap.size w3 (w3.setCell ⟨bx, 2, none⟩ (.int .i64 (nb + d))) := (Below.refl _ _).setCell (p := ⟨bx, 2, none⟩) hlow _
          have HS4 : Hid (LaidS w w.heap.size (some ⟨ba, oa, none⟩) m _ L (w3.setCell ⟨bx, 2, none⟩ (.int .i64 (nb + d)))) := ⟨HS3.out.bel.trans hbs, HS3.out.own.setCell_ne2 (fun k hk => by have := HOB.out k hk; show k ≠ bx; omega) _, HS3.out.row.below HA.out hbs hbs.size, Nat.le_trans HS3.out.low hbs.size⟩
          generalize w3.setCell ⟨bx, 2, none⟩ (.int .i64 (nb + d)) = w4 at *
          clear hbs
          have HBX : Hid (Blk w4 bx #[.int .i64 4, .int .i64 (na + d), .int .i64 (nb + d), .int .i64 nlo, .int .i64 nhi, .int .u64 (wd ncls 0), .int .u64 (wd ncls 1), .int .u64 (wd ncls 2), .int .u64 (wd ncls 3), .string (bs ntext)] 44) := HB4.out
          have HSX := HS4
          clear g0 g1 g2 g3 g4 g5 g6 g7 g8 g9 gf
          obtain ⟨x, hx⟩ : ∃ x, x = mvN d ⟨4, na, nb, nlo, nhi, ncls, ntext⟩ := ⟨_, rfl⟩
          have HXC : Hid (ndC x = #[.int .i64 4, .int .i64 (na + d), .int .i64 (nb + d), .int .i64 nlo, .int .i64 nhi, .int .u64 (wd ncls 0), .int .u64 (wd ncls 1), .int .u64 (wd ncls 2), .int .u64 (wd ncls 3), .string (bs ntext)]) := by unfold Hid; rw [hx, HXV.out]; rfl
          rw [← hx] at HN
          clear hx HXV
          have HK1 := Lib.hid HBX.out
          clear HBX
          have gg := HK1.out
          obtain ⟨g0, g1, g2, g3, g4, g5, g6, g7, g8, g9⟩ := ten_cells gg
          clear gg
          have HS4 := Lib.hid (HSX.out.later ((Below.refl _ _).alloc (Nat.le_refl _) (.cells (ndC x) 44)))
          have HK := Lib.hid (Blk.new w4 (ndC x) 44)
          have hbase4 := HS4.out.low
          rw [HXC.out] at HS4 hbase4
          have HKC : Hid (Blk _ _ (ndC x) 44) := HK.out
          rw [HXC.out] at HK
          go_wp2_with (at_builtin; refine wpList_append_nd rfl _ _ rfl w.heap.size _ _ rfl HS4.out.own w4.heap.size x rfl (HXC.out.symm ▸ HK.out) HCN.out hbase4 ?_; intro v' w7 ho7 hb7; have HO7 := Lib.hid ho7; have HB7 := Lib.hid (hb7 _ (Nat.le_refl _)); clear ho7 hb7)
          have HS7 : Hid (LaidS w w.heap.size (some ⟨ba, oa, none⟩) m v' (L ++ [x]) w7) := ⟨HS4.out.bel.trans HB7.out, HO7.out, HS4.out.row.below HA.out HB7.out HB7.out.size, Nat.le_trans HS4.out.low HB7.out.size⟩
          go_roundw
          case rel => exact ⟨k + 1, by omega, by go_num, by rw [List.nil_append, HN.out]; exact HS7.out⟩
          case measure => simp [intOf]; omega
        ·
          go_upto_region 8 with (fail)
          have HB3 : Hid (Blk (w2.setCell ⟨bx, 1, none⟩ (.int .i64 (na + d))) bx #[.int .i64 5, .int .i64 (na + d), .int .i64 nb, .int .i64 nlo, .int .i64 nhi, .int .u64 (wd ncls 0), .int .u64 (wd ncls 1), .int .u64 (wd ncls 2), .int .u64 (wd ncls 3), .string (bs ntext)] 44) := HB2.out.setCell 1 (.int .i64 (na + d))
          have hbs : Below w.heap.size w2 (w2.setCell ⟨bx, 1, none⟩ (.int .i64 (na + d))) := (Below.refl _ _).setCell (p := ⟨bx, 1, none⟩) hlow _
          have HS3 : Hid (LaidS w w.heap.size (some ⟨ba, oa, none⟩) m _ L (w2.setCell ⟨bx, 1, none⟩ (.int .i64 (na + d)))) := ⟨HS2.out.bel.trans hbs, HS2.out.own.setCell_ne2 (fun k hk => by have := HOB.out k hk; show k ≠ bx; omega) _, HS2.out.row.below HA.out hbs hbs.size, Nat.le_trans HS2.out.low hbs.size⟩
          generalize w2.setCell ⟨bx, 1, none⟩ (.int .i64 (na + d)) = w3 at *
          clear hbs gf g0 g1 g2 g3 g4 g5 g6 g7 g8 g9
          have gg := HB3.out
          have gf := gg.frozen
          obtain ⟨g0, g1, g2, g3, g4, g5, g6, g7, g8, g9⟩ := ten_cells gg
          clear gg
          go_upto_region 10 with (fail)
          have HB4 : Hid (Blk (w3.setCell ⟨bx, 2, none⟩ (.int .i64 (nb + d))) bx #[.int .i64 5, .int .i64 (na + d), .int .i64 (nb + d), .int .i64 nlo, .int .i64 nhi, .int .u64 (wd ncls 0), .int .u64 (wd ncls 1), .int .u64 (wd ncls 2), .int .u64 (wd ncls 3), .string (bs ntext)] 44) := HB3.out.setCell 2 (.int .i64 (nb + d))
          have hbs : Below w.heap.size w3 (w3.setCell ⟨bx, 2, none⟩ (.int .i64 (nb + d))) := (Below.refl _ _).setCell (p := ⟨bx, 2, none⟩) hlow _
          have HS4 : Hid (LaidS w w.heap.size (some ⟨ba, oa, none⟩) m _ L (w3.setCell ⟨bx, 2, none⟩ (.int .i64 (nb + d)))) := ⟨HS3.out.bel.trans hbs, HS3.out.own.setCell_ne2 (fun k hk => by have := HOB.out k hk; show k ≠ bx; omega) _, HS3.out.row.below HA.out hbs hbs.size, Nat.le_trans HS3.out.low hbs.size⟩
          generalize w3.setCell ⟨bx, 2, none⟩ (.int .i64 (nb + d)) = w4 at *
          clear hbs
          have HBX : Hid (Blk w4 bx #[.int .i64 5, .int .i64 (na + d), .int .i64 (nb + d), .int .i64 nlo, .int .i64 nhi, .int .u64 (wd ncls 0), .int .u64 (wd ncls 1), .int .u64 (wd ncls 2), .int .u64 (wd ncls 3), .string (bs ntext)] 44) := HB4.out
          have HSX := HS4
          clear g0 g1 g2 g3 g4 g5 g6 g7 g8 g9 gf
          obtain ⟨x, hx⟩ : ∃ x, x = mvN d ⟨5, na, nb, nlo, nhi, ncls, ntext⟩ := ⟨_, rfl⟩
          have HXC : Hid (ndC x = #[.int .i64 5, .int .i64 (na + d), .int .i64 (nb + d), .int .i64 nlo, .int .i64 nhi, .int .u64 (wd ncls 0), .int .u64 (wd ncls 1), .int .u64 (wd ncls 2), .int .u64 (wd ncls 3), .string (bs ntext)]) := by unfold Hid; rw [hx, HXV.out]; rfl
          rw [← hx] at HN
          clear hx HXV
          have HK1 := Lib.hid HBX.out
          clear HBX
          have gg := HK1.out
          obtain ⟨g0, g1, g2, g3, g4, g5, g6, g7, g8, g9⟩ := ten_cells gg
          clear gg
          have HS4 := Lib.hid (HSX.out.later ((Below.refl _ _).alloc (Nat.le_refl _) (.cells (ndC x) 44)))
          have HK := Lib.hid (Blk.new w4 (ndC x) 44)
          have hbase4 := HS4.out.low
          rw [HXC.out] at HS4 hbase4
          have HKC : Hid (Blk _ _ (ndC x) 44) := HK.out
          rw [HXC.out] at HK
          go_wp2_with (at_builtin; refine wpList_append_nd rfl _ _ rfl w.heap.size _ _ rfl HS4.out.own w4.heap.size x rfl (HXC.out.symm ▸ HK.out) HCN.out hbase4 ?_; intro v' w7 ho7 hb7; have HO7 := Lib.hid ho7; have HB7 := Lib.hid (hb7 _ (Nat.le_refl _)); clear ho7 hb7)
          have HS7 : Hid (LaidS w w.heap.size (some ⟨ba, oa, none⟩) m v' (L ++ [x]) w7) := ⟨HS4.out.bel.trans HB7.out, HO7.out, HS4.out.row.below HA.out HB7.out HB7.out.size, Nat.le_trans HS4.out.low HB7.out.size⟩
          go_roundw
          case rel => exact ⟨k + 1, by omega, by go_num, by rw [List.nil_append, HN.out]; exact HS7.out⟩
          case measure => simp [intOf]; omega
      · by_cases h4 : kk ≥ 4
        · have ha1 := hfa (by omega)
          have z4 : (kk == 4) = false := by rw [beq_eq_false_iff_ne]; omega
          have z5 : (kk == 5) = false := by rw [beq_eq_false_iff_ne]; omega
          have HXV : Hid (mvN d ⟨kk, na, nb, nlo, nhi, ncls, ntext⟩ = ⟨kk, na + d, nb, nlo, nhi, ncls, ntext⟩) := by unfold Hid mvN; rw [if_pos (by simp only; omega)]
          clear hfa hfb hk9 c4
          go_upto_region 8 with (fail)
          have HB3 : Hid (Blk (w2.setCell ⟨bx, 1, none⟩ (.int .i64 (na + d))) bx #[.int .i64 kk, .int .i64 (na + d), .int .i64 nb, .int .i64 nlo, .int .i64 nhi, .int .u64 (wd ncls 0), .int .u64 (wd ncls 1), .int .u64 (wd ncls 2), .int .u64 (wd ncls 3), .string (bs ntext)] 44) := HB2.out.setCell 1 (.int .i64 (na + d))
          have hbs : Below w.heap.size w2 (w2.setCell ⟨bx, 1, none⟩ (.int .i64 (na + d))) := (Below.refl _ _).setCell (p := ⟨bx, 1, none⟩) hlow _
          have HS3 : Hid (LaidS w w.heap.size (some ⟨ba, oa, none⟩) m _ L (w2.setCell ⟨bx, 1, none⟩ (.int .i64 (na + d)))) := ⟨HS2.out.bel.trans hbs, HS2.out.own.setCell_ne2 (fun k hk => by have := HOB.out k hk; show k ≠ bx; omega) _, HS2.out.row.below HA.out hbs hbs.size, Nat.le_trans HS2.out.low hbs.size⟩
          generalize w2.setCell ⟨bx, 1, none⟩ (.int .i64 (na + d)) = w3 at *
          clear hbs gf g0 g1 g2 g3 g4 g5 g6 g7 g8 g9
          have gg := HB3.out
          have gf := gg.frozen
          obtain ⟨g0, g1, g2, g3, g4, g5, g6, g7, g8, g9⟩ := ten_cells gg
          clear gg
          go_upto_region 10 with (fail)
          have HBX : Hid (Blk w3 bx #[.int .i64 kk, .int .i64 (na + d), .int .i64 nb, .int .i64 nlo, .int .i64 nhi, .int .u64 (wd ncls 0), .int .u64 (wd ncls 1), .int .u64 (wd ncls 2), .int .u64 (wd ncls 3), .string (bs ntext)] 44) := HB3.out
          have HSX := HS3
          clear g0 g1 g2 g3 g4 g5 g6 g7 g8 g9 gf
          obtain ⟨x, hx⟩ : ∃ x, x = mvN d ⟨kk, na, nb, nlo, nhi, ncls, ntext⟩ := ⟨_, rfl⟩
          have HXC : Hid (ndC x = #[.int .i64 kk, .int .i64 (na + d), .int .i64 nb, .int .i64 nlo, .int .i64 nhi, .int .u64 (wd ncls 0), .int .u64 (wd ncls 1), .int .u64 (wd ncls 2), .int .u64 (wd ncls 3), .string (bs ntext)]) := by unfold Hid; rw [hx, HXV.out]; rfl
          rw [← hx] at HN
          clear hx HXV
          have HK1 := Lib.hid HBX.out
          clear HBX
          have gg := HK1.out
          obtain ⟨g0, g1, g2, g3, g4, g5, g6, g7, g8, g9⟩ := ten_cells gg
          clear gg
          have HS4 := Lib.hid (HSX.out.later ((Below.refl _ _).alloc (Nat.le_refl _) (.cells (ndC x) 44)))
          have HK := Lib.hid (Blk.new w3 (ndC x) 44)
          have hbase4 := HS4.out.low
          rw [HXC.out] at HS4 hbase4
          have HKC : Hid (Blk _ _ (ndC x) 44) := HK.out
          rw [HXC.out] at HK
          go_wp2_with (at_builtin; refine wpList_append_nd rfl _ _ rfl w.heap.size _ _ rfl HS4.out.own w3.heap.size x rfl (HXC.out.symm ▸ HK.out) HCN.out hbase4 ?_; intro v' w7 ho7 hb7; have HO7 := Lib.hid ho7; have HB7 := Lib.hid (hb7 _ (Nat.le_refl _)); clear ho7 hb7)
          have HS7 : Hid (LaidS w w.heap.size (some ⟨ba, oa, none⟩) m v' (L ++ [x]) w7) := ⟨HS4.out.bel.trans HB7.out, HO7.out, HS4.out.row.below HA.out HB7.out HB7.out.size, Nat.le_trans HS4.out.low HB7.out.size⟩
          go_roundw
          case rel => exact ⟨k + 1, by omega, by go_num, by rw [List.nil_append, HN.out]; exact HS7.out⟩
          case measure => simp [intOf]; omega
        · have z4 : (kk == 4) = false := by rw [beq_eq_false_iff_ne]; omega
          have z5 : (kk == 5) = false := by rw [beq_eq_false_iff_ne]; omega
          have HXV : Hid (mvN d ⟨kk, na, nb, nlo, nhi, ncls, ntext⟩ = ⟨kk, na, nb, nlo, nhi, ncls, ntext⟩) := by unfold Hid mvN; rw [if_neg (by simp only; omega), if_neg (by simp only; omega)]
          clear hfa hfb hk9 c4
          go_upto_region 10 with (fail)
          have HBX : Hid (Blk w2 bx #[.int .i64 kk, .int .i64 na, .int .i64 nb, .int .i64 nlo, .int .i64 nhi, .int .u64 (wd ncls 0), .int .u64 (wd ncls 1), .int .u64 (wd ncls 2), .int .u64 (wd ncls 3), .string (bs ntext)] 44) := HB2.out
          have HSX := HS2
          clear g0 g1 g2 g3 g4 g5 g6 g7 g8 g9 gf
          obtain ⟨x, hx⟩ : ∃ x, x = mvN d ⟨kk, na, nb, nlo, nhi, ncls, ntext⟩ := ⟨_, rfl⟩
          have HXC : Hid (ndC x = #[.int .i64 kk, .int .i64 na, .int .i64 nb, .int .i64 nlo, .int .i64 nhi, .int .u64 (wd ncls 0), .int .u64 (wd ncls 1), .int .u64 (wd ncls 2), .int .u64 (wd ncls 3), .string (bs ntext)]) := by unfold Hid; rw [hx, HXV.out]; rfl
          rw [← hx] at HN
          clear hx HXV
          have HK1 := Lib.hid HBX.out
          clear HBX
          have gg := HK1.out
          obtain ⟨g0, g1, g2, g3, g4, g5, g6, g7, g8, g9⟩ := ten_cells gg
          clear gg
          have HS4 := Lib.hid (HSX.out.later ((Below.refl _ _).alloc (Nat.le_refl _) (.cells (ndC x) 44)))
          have HK := Lib.hid (Blk.new w2 (ndC x) 44)
          have hbase4 := HS4.out.low
          rw [HXC.out] at HS4 hbase4
          have HKC : Hid (Blk _ _ (ndC x) 44) := HK.out
          rw [HXC.out] at HK
          go_wp2_with (at_builtin; refine wpList_append_nd rfl _ _ rfl w.heap.size _ _ rfl HS4.out.own w2.heap.size x rfl (HXC.out.symm ▸ HK.out) HCN.out hbase4 ?_; intro v' w7 ho7 hb7; have HO7 := Lib.hid ho7; have HB7 := Lib.hid (hb7 _ (Nat.le_refl _)); clear ho7 hb7)
          have HS7 : Hid (LaidS w w.heap.size (some ⟨ba, oa, none⟩) m v' (L ++ [x]) w7) := ⟨HS4.out.bel.trans HB7.out, HO7.out, HS4.out.row.below HA.out HB7.out HB7.out.size, Nat.le_trans HS4.out.low HB7.out.size⟩
          go_roundw
          case rel => exact ⟨k + 1, by omega, by go_num, by rw [List.nil_append, HN.out]; exact HS7.out⟩
          case measure => simp [intOf]; omega
    · obtain rfl : k = m.length := by omega
      have HO : Hid (LaidPost w w.heap.size (m.map (mvN d)) (.returned u5) wr) := by
        have h := hs.own
        rw [List.take_length] at h
        exact ⟨_, rfl, h, hs.bel⟩
      clear hs
      go_wp2
      go_ret
      exact HO.out
theorem flat10_ones : ∀ (l : List Nd) (u : Value), u ∈ flat10 l → u.oneCell' = true
  | [], u, h => by simp [flat10] at h
  | t :: l, u, h => by
    simp only [flat10, List.mem_append] at h
    rcases h with h | h
    · simp only [ndC, List.mem_cons, List.not_mem_nil, or_false] at h
      rcases h with rfl | rfl | rfl | rfl | rfl | rfl | rfl | rfl | rfl | rfl <;> rfl
    · exact flat10_ones l u h
theorem NRow.news {w : World} {b oo : Nat} {r : List Nd} (hr : NRow w (some ⟨b, oo, none⟩) r) : ∀ (j : Nat) (u : Value), (flat10 r)[j]? = some u → w.cell? ((⟨b, oo, none⟩ : Addr).add j) = some u := by
  intro j u hu
  have hadd : (⟨b, oo, none⟩ : Addr).add j = ⟨b, oo + j, none⟩ := by unfold Addr.add; split <;> simp_all
  have hj : j < r.length * 10 := by
    rw [← flat10_length]; exact (List.getElem?_eq_some_iff.1 hu).1
  obtain ⟨b', o', h1, _, h3⟩ := hr (j / 10) (by omega)
  cases h1
  have := h3 (j % 10) (by omega)
  rw [← flat10_get r (j / 10) (j % 10) (by omega) (by omega), show j / 10 * 10 + j % 10 = j by omega, hu] at this
  rw [hadd, ← this]; congr 2; omega
set_option maxRecDepth 100000 in
theorem wp_append_nrow {w : World} {o : Oper} {a : Act} {K : Act → World → Prop} {Q : Exit → Act → World → Prop} (s x : Operand)
    (ho : o.op = .call { callee := .builtin .append, args := #[s, x], argTypes := #[23, 23] })
    (base : Nat) (v : Value) (l : List Nd) (hs : a.eval s = v) (hown : OwnN w base v l)
    (b oo c : Nat) (r : List Nd) (hx : a.eval x = .slice (some ⟨b, oo, none⟩) r.length c) (hr : NRow w (some ⟨b, oo, none⟩) r) (hlen : l.length + r.length < 1073741824) (hbase : base ≤ w.heap.size)
    (h : ∀ v' w', OwnN w' base v' (l ++ r) → (∀ B, B ≤ base → Below B w w') → K (a.put o.dst v') w') : o.wp Tryz.prog a w K Q := by
  obtain ⟨ib, hib, hz0, hz1, hz2⟩ := info_parts infoNd
  obtain ⟨v', w', hr2, h2, h3, _⟩ := run_append_own (P := Tryz.prog) w base 23 o.type 44 ib _ 10 88 Tryz.underlying23 hib hz0 hz1 hz2 rfl (by decide) v l.length (flat10 l) hown ⟨b, oo, none⟩ r.length c (flat10 r) (flat10_length r) hr.news (flat10_ones r) (by unfold maxLen; omega) (by omega) hbase
  have h2' : OwnN w' base v' (l ++ r) := by unfold OwnN; rw [List.length_append, flat10_append]; exact h2
  unfold Oper.wp execOp
  simp only [ho, resolve, invoke, builtin, Sem.run_bind, Sem.run_pure, Result.andThen_ok, List.map_toArray, List.map_cons, List.map_nil, hs, hx, hr2]
  exact h v' w' h2' fun B hB => (Below.refl B w).grown h3 (Nat.le_trans hB hbase) fun k hk => Nat.le_trans hB ((World.ownsRow.lt hown k hk).1)
theorem wpList_append_nrow {w : World} {ops : Array Oper} {rest : List Oper} {o : Oper} {a : Act} {Q : Exit → Act → World → Prop} (hgd : o.guard = none) (s x : Operand)
    (ho : o.op = .call { callee := .builtin .append, args := #[s, x], argTypes := #[23, 23] })
    (base : Nat) (v : Value) (l : List Nd) (hs : a.eval s = v) (hown : OwnN w base v l)
    (b oo c : Nat) (r : List Nd) (hx : a.eval x = .slice (some ⟨b, oo, none⟩) r.length c) (hr : NRow w (some ⟨b, oo, none⟩) r) (hlen : l.length + r.length < 1073741824) (hbase : base ≤ w.heap.size)
    (h : ∀ v' w', OwnN w' base v' (l ++ r) → (∀ B, B ≤ base → Below B w w') → wpList Tryz.prog ops Q rest (a.put o.dst v') w') : wpList Tryz.prog ops Q (o :: rest) a w :=
  wpList_plain hgd fun K hK => wp_append_nrow s x ho base v l hs hown b oo c r hx hr hlen hbase fun v' w' h1 h2 => hK _ _ (h v' w' h1 h2)
theorem OwnN.blk {w : World} {base : Nat} {v : Value} {l : List Nd} (h : OwnN w base v l) (hne : 0 < l.length) :
    ∃ g cap cur, v = .slice (some ⟨g, 0, none⟩) l.length cap ∧ l.length ≤ cap ∧ base ≤ g ∧ Blk w g cur 44 ∧ l.length * 10 ≤ cur.size ∧ ∀ j, j < l.length * 10 → cur[j]? = (flat10 l)[j]? := by
  obtain ⟨q1, ⟨_, hn⟩ | ⟨g, cap, cur, hv, hb, hg, hc, hm, hs, ht⟩⟩ := h
  · omega
  · have hsz : l.length * 10 ≤ cur.size := by rw [hs]; exact Nat.mul_le_mul_right 10 hc
    refine ⟨g, cap, cur, hv, hc, hb, hg, hsz, fun j hj => ?_⟩
    rw [← ht, List.getElem?_take, if_pos hj]; simp
def intsV (l : List Int) : List Value := l.map fun c : Int => Value.int .i64 c
theorem intsV_snoc (l : List Int) (c : Int) : intsV (l ++ [c]) = intsV l ++ [.int .i64 c] := by simp [intsV]
theorem intsV_length (l : List Int) : (intsV l).length = l.length := by simp [intsV]
def IRow (w : World) (a : Option Addr) (l : List Int) : Prop :=
  ∀ i, i < l.length → ∃ b off, a = some ⟨b, off, none⟩ ∧ b < w.heap.size ∧ w.cell? ⟨b, off + i, none⟩ = some (.int .i64 (l.getD i 0))
theorem IRow.later {w w' : World} {a : Option Addr} {l : List Int} (h : IRow w a l) (hb : Below w.heap.size w w') : IRow w' a l := fun i hi => by
  obtain ⟨b, off, ha, hlt, hc⟩ := h i hi
  exact ⟨b, off, ha, Nat.lt_of_lt_of_le hlt hb.size, (hb.cell (p := ⟨b, off + i, none⟩) hlt).trans hc⟩
def OwnI (w : World) (base : Nat) (v : Value) (l : List Int) : Prop := w.ownsRow base 3 1 v l.length (intsV l)
theorem OwnI.nil (w : World) (base : Nat) : OwnI w base (.slice none 0 0) [] := ⟨rfl, .inl ⟨rfl, rfl⟩⟩
theorem OwnI.later {w w' : World} {base : Nat} {v : Value} {l : List Int} (h : OwnI w base v l) (hb : Below w.heap.size w w') : OwnI w' base v l := ownsRow_later h hb
theorem OwnI.row {w : World} {base : Nat} {v : Value} {l : List Int} (h : OwnI w base v l) : ∃ a cap, v = .slice a l.length cap ∧ IRow w a l := by
  obtain ⟨_, ⟨hv, hn⟩ | ⟨g, cap, cur, hv, hb, hg, hc, hm, hs, ht⟩⟩ := h
  · have : l = [] := List.length_eq_zero_iff.1 hn
    subst this
    exact ⟨none, 0, hv, fun i hi => by simp at hi⟩
  · refine ⟨_, cap, hv, fun i hi => ⟨g, 0, rfl, Blk.lt (w := w) (b := g) (vs := cur) (t := 3) hg, ?_⟩⟩
    rw [Blk.cell (w := w) (b := g) (vs := cur) (t := 3) hg]
    have : (intsV l)[i]? = some (.int .i64 (l.getD i 0)) := by unfold intsV; simp [hi]
    rw [← this, ← ht, List.getElem?_take, if_pos (by omega)]
    simp
theorem OwnI.drop {w : World} {base : Nat} {v : Value} {l : List Int} (h : OwnI w base v l) (hl : 0 < l.length) : ∃ g cap, v = .slice (some ⟨g, 0, none⟩) l.length cap ∧ l.length ≤ cap ∧ g < w.heap.size ∧ OwnI w base (.slice (some ⟨g, 0, none⟩) (l.length - 1) cap) l.dropLast := by
  obtain ⟨_, ⟨hv, hn⟩ | ⟨g, cap, cur, hv, hb, hg, hc, hm, hs, ht⟩⟩ := h
  · omega
  · refine ⟨g, cap, hv, hc, Blk.lt (w := w) (b := g) (vs := cur) (t := 3) hg, by simp [intsV], .inr ⟨g, cap, cur, by simp, hb, hg, by simp; omega, hm, hs, ?_⟩⟩
    rw [List.length_dropLast, Nat.mul_one]
    have e : cur.toList.take (l.length - 1) = (cur.toList.take (l.length * 1)).take (l.length - 1) := by rw [List.take_take]; congr 1; omega
    rw [e, ht]; unfold intsV
    rw [← List.map_take, ← List.dropLast_eq_take]
theorem infoI : (Tryz.prog.info? 3).map (fun i => (i.zero, i.size, i.bytes)) = some (some (.int .i64 0), 1, 8) := by kernel_rfl
set_option maxRecDepth 100000 in
theorem wp_append_int {w : World} {o : Oper} {a : Act} {K : Act → World → Prop} {Q : Exit → Act → World → Prop} (s x : Operand)
    (ho : o.op = .call { callee := .builtin .append, args := #[s, x], argTypes := #[46, 46] })
    (base : Nat) (v : Value) (l : List Int) (hs : a.eval s = v) (hown : OwnI w base v l)
    (b : Nat) (c : Int) (hx : a.eval x = .slice (some ⟨b, 0, none⟩) 1 1) (hnew : Blk w b #[.int .i64 c] 3) (hlen : l.length < 1073741824) (hbase : base ≤ w.heap.size)
    (h : ∀ v' w', OwnI w' base v' (l ++ [c]) → w.grownBy w' v.ownBlock → (v'.ownBlock = v.ownBlock ∨ ∃ g', v'.ownBlock = some g' ∧ w.heap.size ≤ g') → K (a.put o.dst v') w') : o.wp Tryz.prog a w K Q := by
  obtain ⟨ib, hib, hz0, hz1, hz2⟩ := info_parts infoI
  have hnews : ∀ (j : Nat) (u : Value), [Value.int .i64 c][j]? = some u → w.cell? ((⟨b, 0, none⟩ : Addr).add j) = some u := by
    intro j u hu
    cases j with
    | zero => simp at hu; subst hu; exact hnew.cell 0
    | succ j => simp at hu
  have hone : ∀ u ∈ [Value.int .i64 c], u.oneCell' = true := by simp [Value.oneCell']
  obtain ⟨v', w', hr, h2, h3, _⟩ := run_append_own (P := Tryz.prog) w base 46 o.type 3 ib _ 1 8 Tryz.underlying46 hib hz0 hz1 hz2 rfl (by decide) v l.length (intsV l) hown ⟨b, 0, none⟩ 1 1 [.int .i64 c] rfl hnews hone (by unfold maxLen; omega) (by omega) hbase
  have h2' : OwnI w' base v' (l ++ [c]) := by unfold OwnI; rw [List.length_append, intsV_snoc]; exact h2
  have place : v'.ownBlock = v.ownBlock ∨ ∃ g', v'.ownBlock = some g' ∧ w.heap.size ≤ g' := by
    rcases hown.2 with ⟨rfl, hn⟩ | ⟨g', cap, cur, rfl, hbg, hgg, hnc, hcm, hcs, htake⟩
    · have hl0 : l = [] := List.length_eq_zero_iff.1 hn
      subst hl0
      obtain ⟨v2, w2, hr2, h4, _, _⟩ := run_append_own (P := Tryz.prog) w w.heap.size 46 o.type 3 ib _ 1 8 Tryz.underlying46 hib hz0 hz1 hz2 rfl (by decide) (.slice none 0 0) 0 [] ⟨rfl, .inl ⟨rfl, rfl⟩⟩ ⟨b, 0, none⟩ 1 1 [.int .i64 c] rfl hnews hone (by unfold maxLen; omega) (by omega) (Nat.le_refl _)
      rw [hr] at hr2
      simp only [Result.ok.injEq] at hr2
      obtain ⟨rfl, rfl⟩ := hr2
      rcases h4.2 with ⟨_, h5⟩ | ⟨g2, cap2, cur2, hv, hb2, _⟩
      · omega
      · exact .inr ⟨g2, by rw [hv]; rfl, hb2⟩
    · by_cases hroom : l.length + 1 ≤ cap
      · have hr2 := run_append_room (P := Tryz.prog) w 46 o.type 3 ib Tryz.underlying46 hib g' l.length cap cur hgg ⟨b, 0, none⟩ 1 1 [.int .i64 c] (by rw [hz1]; rfl) hnews hone hroom (by rw [hz1, hcs]; simp; omega)
        rw [hr] at hr2
        simp only [Result.ok.injEq] at hr2
        exact .inl (by rw [hr2.1]; rfl)
      · have holds := World.ownsRow.cells (w := w) (base := base) (e := 3) (size := 1) (v := .slice (some ⟨g', 0, none⟩) l.length cap) (n := l.length) (xs := intsV l) hown (g := g') rfl
        have hr2 := run_append_grow (P := Tryz.prog) w 46 o.type 3 ib _ Tryz.underlying46 hib hz0 ⟨g', 0, none⟩ l.length cap (intsV l) (by rw [hz1, intsV_length, Nat.mul_one]) holds ⟨b, 0, none⟩ 1 1 [.int .i64 c] (by rw [hz1]; rfl) hnews (by omega) (by omega) (by rw [hz2]; exact growslice_fits (by omega) (by omega))
        rw [hr] at hr2
        simp only [Result.ok.injEq] at hr2
        exact .inr ⟨w.heap.size, by rw [hr2.1]; rfl, Nat.le_refl _⟩
  unfold Oper.wp execOp
  simp only [ho, resolve, invoke, builtin, Sem.run_bind, Sem.run_pure, Result.andThen_ok, List.map_toArray, List.map_cons, List.map_nil, hs, hx, hr]
  exact h v' w' h2' h3 place
theorem wpList_append_int {w : World} {ops : Array Oper} {rest : List Oper} {o : Oper} {a : Act} {Q : Exit → Act → World → Prop} (hgd : o.guard = none) (s x : Operand)
    (ho : o.op = .call { callee := .builtin .append, args := #[s, x], argTypes := #[46, 46] })
    (base : Nat) (v : Value) (l : List Int) (hs : a.eval s = v) (hown : OwnI w base v l)
    (b : Nat) (c : Int) (hx : a.eval x = .slice (some ⟨b, 0, none⟩) 1 1) (hnew : Blk w b #[.int .i64 c] 3) (hlen : l.length < 1073741824) (hbase : base ≤ w.heap.size)
    (h : ∀ v' w', OwnI w' base v' (l ++ [c]) → w.grownBy w' v.ownBlock → (v'.ownBlock = v.ownBlock ∨ ∃ g', v'.ownBlock = some g' ∧ w.heap.size ≤ g') → wpList Tryz.prog ops Q rest (a.put o.dst v') w') : wpList Tryz.prog ops Q (o :: rest) a w :=
  wpList_plain hgd fun K hK => wp_append_int s x ho base v l hs hown b c hx hnew hlen hbase fun v' w' h1 h2 h3 => hK _ _ (h v' w' h1 h2 h3)
end Go.Proofs.YtcgjmnhmhiddkaaGreatDoor
namespace Go.Proofs.YtcgjmnhmhiddkaaGreatDoor
open Go
set_option linter.unusedVariables false
set_option linter.unusedSimpArgs false
structure Tk where
  kind : Int
  at_ : Int := 0
  lo : Int := 0
  hi : Int := 0
  cls : BitVec 256 := 0#256
  text : List UInt8 := []
deriving DecidableEq
def tkEnd : Tk := { kind := 10 }
def tkAt (l : List Tk) (p : Nat) : Tk := l.getD p tkEnd
structure PS where
  read : Nat := 0
  opn : List Int := []
  nodes : List Nd := []
  ats : List Int := []
  count : Nat := 0
inductive PR where
  | ok (k : Int) (s : PS)
  | bad (e : Int) (p : Int)
  | out
def PR.bind (r : PR) (f : Int → PS → PR) : PR := match r with
  | .ok k s => f k s
  | .bad e p => .bad e p
  | .out => .out
def PS.lay (s : PS) (n : Nd) (p : Int) : PS := if s.count < 4096 then { s with nodes := s.nodes ++ [n], ats := s.ats ++ [p], count := s.count + 1 } else { s with count := s.count + 1 }
def PS.next (s : PS) : PS := { s with read := s.read + 1 }
def begK (k : Int) : Bool := decide (k = 1) || decide (k = 2) || decide (k = 3) || decide (k = 8) || decide (k = 9)
def faultP (l : List Tk) (s : PS) : PR := match (tkAt l s.read).kind, s.opn.getLast? with
  | 10, some p => .bad 6 p
  | _, _ => .bad 7 (tkAt l s.read).at_
inductive Md where
  | or | orL (a : Int) | row | rowL (a : Int) | post | postL (a : Int) | atom | group | inside
def layK (s : PS) (n : Nd) (p : Int) : PR := .ok (s.count : Int) (s.lay n p)
def run (l : List Tk) : Nat → Md → PS → PR
  | 0, _, _ => .out
  | n + 1, .or, s => (run l n .row s).bind fun a s => run l n (.orL a) s
  | n + 1, .orL a, s => if (tkAt l s.read).kind = 5 then (run l n .row s.next).bind fun b s => run l n (.orL (s.count : Int)) (s.lay { kind := 5, a := a, b := b } (-1)) else .ok a s
  | n + 1, .row, s => (run l n .post s).bind fun a s => run l n (.rowL a) s
  | n + 1, .rowL a, s => if begK (tkAt l s.read).kind = true then (run l n .post s).bind fun b s => run l n (.rowL (s.count : Int)) (s.lay { kind := 4, a := a, b := b } (-1)) else .ok a s
  | n + 1, .post, s => (run l n .atom s).bind fun a s => run l n (.postL a) s
  | n + 1, .postL a, s =>
    if (tkAt l s.read).kind = 6 then run l n (.postL (s.count : Int)) (s.lay { kind := 6, a := a } (tkAt l s.read).at_).next
    else if (tkAt l s.read).kind = 7 then run l n (.postL (s.count : Int)) (s.lay { kind := 7, a := a, lo := (tkAt l s.read).lo, hi := (tkAt l s.read).hi } (tkAt l s.read).at_).next
    else .ok a s
  | n + 1, .atom, s =>
    if (tkAt l s.read).kind = 1 then layK s.next { kind := 2, cls := (tkAt l s.read).cls } (-1)
    else if (tkAt l s.read).kind = 2 then layK s.next { kind := 3, text := (tkAt l s.read).text } (-1)
    else if (tkAt l s.read).kind = 3 then run l n .group s
    else if (tkAt l s.read).kind = 8 then (run l n .group s.next).bind fun g s => layK s { kind := 8, a := g } (-1)
    else if (tkAt l s.read).kind = 9 then (run l n .group s.next).bind fun g s => layK s { kind := 9, a := g } (-1)
    else faultP l s
  | n + 1, .group, s =>
    if (tkAt l s.read).kind = 3 then
      if 64 < s.opn.length + 1 then .bad 8 (tkAt l s.read).at_
      else (run l n .inside { s.next with opn := s.opn ++ [(tkAt l s.read).at_] }).bind fun g s => if (tkAt l s.read).kind = 4 then .ok g { s.next with opn := s.opn.dropLast } else faultP l s
    else faultP l s
  | n + 1, .inside, s => if (tkAt l s.read).kind = 4 then layK s { kind := 1 } (-1) else run l n .or s
def parseP (l : List Tk) : PR := (run l (10 * l.length + 10) .or {}).bind fun k s =>
  if (tkAt l s.read).kind = 10 then (if 4096 < s.count then .bad 9 (tkAt l s.read).at_ else .ok k s.next) else faultP l s
def rankM : Md → Nat
  | .or => 7 | .orL _ => 1 | .row => 6 | .rowL _ => 5 | .post => 4 | .postL _ => 1 | .atom => 3 | .group => 2 | .inside => 8
def fuelP (l : List Tk) (m : Md) (s : PS) : Nat := 10 * (l.length - s.read) + rankM m
theorem tk_in {l : List Tk} {p : Nat} (h : (tkAt l p).kind ≠ 10) : p < l.length := by
  rcases Nat.lt_or_ge p l.length with h2 | h2
  · exact h2
  · exfalso; apply h; unfold tkAt; rw [List.getD_eq_getElem?_getD, List.getElem?_eq_none h2]; rfl
theorem bind_ok {r : PR} {f : Int → PS → PR} {k : Int} {s : PS} (h : r.bind f = .ok k s) : ∃ k0 s0, r = .ok k0 s0 ∧ f k0 s0 = .ok k s := by
  cases r with
  | ok k0 s0 => exact ⟨k0, s0, rfl, h⟩
  | bad e p => cases h
  | out => cases h
theorem bind_out {r : PR} {f : Int → PS → PR} (h : r.bind f = .out) : r = .out ∨ ∃ k0 s0, r = .ok k0 s0 ∧ f k0 s0 = .out := by
  cases r with
  | ok k0 s0 => exact .inr ⟨k0, s0, rfl, h⟩
  | bad e p => cases h
  | out => exact .inl rfl
theorem bind_bad {r : PR} {f : Int → PS → PR} {e p : Int} (h : r.bind f = .bad e p) : r = .bad e p ∨ ∃ k0 s0, r = .ok k0 s0 ∧ f k0 s0 = .bad e p := by
  cases r with
  | ok k0 s0 => exact .inr ⟨k0, s0, rfl, h⟩
  | bad e p => exact .inl h
  | out => cases h
theorem lay_read (s : PS) (n : Nd) (p : Int) : (s.lay n p).read = s.read ∧ (s.lay n p).opn = s.opn ∧ (s.lay n p).count = s.count + 1 := by unfold PS.lay; split <;> exact ⟨rfl, rfl, rfl⟩
theorem fault_not_ok {l : List Tk} {s : PS} {k : Int} {t : PS} : faultP l s ≠ .ok k t := by unfold faultP; split <;> (intro h; cases h)
theorem fault_not_out {l : List Tk} {s : PS} : faultP l s ≠ .out := by unfold faultP; split <;> (intro h; cases h)
def eats : Md → Nat
  | .or => 1 | .row => 1 | .post => 1 | .atom => 1 | .group => 1 | _ => 0
theorem run_read {l : List Tk} : ∀ (n : Nat) (m : Md) (s : PS) (k : Int) (t : PS), run l n m s = .ok k t → s.read + eats m ≤ t.read ∧ t.opn = s.opn ∧ s.count ≤ t.count
  | 0, _, _, _, _, h => by cases h
  | n + 1, .or, s, k, t, h => by
    obtain ⟨a, u, h1, h2⟩ := bind_ok h
    have q1 := run_read n _ _ _ _ h1
    have q2 := run_read n _ _ _ _ h2
    simp only [eats] at q1 q2 ⊢
    exact ⟨by omega, q2.2.1.trans q1.2.1, by omega⟩
  | n + 1, .orL a, s, k, t, h => by
    simp only [run] at h
    split at h
    · obtain ⟨b, u, h1, h2⟩ := bind_ok h
      have q1 := run_read n _ _ _ _ h1
      have q2 := run_read n _ _ _ _ h2
      have q3 := lay_read u { kind := 5, a := a, b := b } (-1)
      simp only [eats, PS.next] at q1 q2 ⊢
      exact ⟨by omega, by rw [q2.2.1, q3.2.1, q1.2.1], by omega⟩
    · cases h; exact ⟨Nat.le_refl _, rfl, Nat.le_refl _⟩
  | n + 1, .row, s, k, t, h => by
    obtain ⟨a, u, h1, h2⟩ := bind_ok h
    have q1 := run_read n _ _ _ _ h1
    have q2 := run_read n _ _ _ _ h2
    simp only [eats] at q1 q2 ⊢
    exact ⟨by omega, q2.2.1.trans q1.2.1, by omega⟩
  | n + 1, .rowL a, s, k, t, h => by
    simp only [run] at h
    split at h
    · obtain ⟨b, u, h1, h2⟩ := bind_ok h
      have q1 := run_read n _ _ _ _ h1
      have q2 := run_read n _ _ _ _ h2
      have q3 := lay_read u { kind := 4, a := a, b := b } (-1)
      simp only [eats] at q1 q2 ⊢
      exact ⟨by omega, by rw [q2.2.1, q3.2.1, q1.2.1], by omega⟩
    · cases h; exact ⟨Nat.le_refl _, rfl, Nat.le_refl _⟩
  | n + 1, .post, s, k, t, h => by
    obtain ⟨a, u, h1, h2⟩ := bind_ok h
    have q1 := run_read n _ _ _ _ h1
    have q2 := run_read n _ _ _ _ h2
    simp only [eats] at q1 q2 ⊢
    exact ⟨by omega, q2.2.1.trans q1.2.1, by omega⟩
  | n + 1, .postL a, s, k, t, h => by
    simp only [run] at h
    split at h
    · have q2 := run_read n _ _ _ _ h
      have q3 := lay_read s { kind := 6, a := a } (tkAt l s.read).at_
      simp only [eats, PS.next] at q2 ⊢
      exact ⟨by omega, by rw [q2.2.1, q3.2.1], by omega⟩
    · split at h
      · have q2 := run_read n _ _ _ _ h
        have q3 := lay_read s { kind := 7, a := a, lo := (tkAt l s.read).lo, hi := (tkAt l s.read).hi } (tkAt l s.read).at_
        simp only [eats, PS.next] at q2 ⊢
        exact ⟨by omega, by rw [q2.2.1, q3.2.1], by omega⟩
      · cases h; exact ⟨Nat.le_refl _, rfl, Nat.le_refl _⟩
  | n + 1, .atom, s, k, t, h => by
    simp only [run] at h
    split at h
    · cases h
      have q3 := lay_read s.next { kind := 2, cls := (tkAt l s.read).cls } (-1)
      simp only [eats, PS.next] at q3 ⊢
      exact ⟨by omega, q3.2.1, by omega⟩
    · split at h
      · cases h
        have q3 := lay_read s.next { kind := 3, text := (tkAt l s.read).text } (-1)
        simp only [eats, PS.next] at q3 ⊢
        exact ⟨by omega, q3.2.1, by omega⟩
      · split at h
        · have q2 := run_read n _ _ _ _ h
          simp only [eats] at q2 ⊢
          exact q2
        · split at h
          · obtain ⟨b, u, h1, h2⟩ := bind_ok h
            cases h2
            have q1 := run_read n _ _ _ _ h1
            have q3 := lay_read u { kind := 8, a := b } (-1)
            simp only [eats, PS.next] at q1 ⊢
            exact ⟨by omega, by rw [q3.2.1, q1.2.1], by omega⟩
          · split at h
            · obtain ⟨b, u, h1, h2⟩ := bind_ok h
              cases h2
              have q1 := run_read n _ _ _ _ h1
              have q3 := lay_read u { kind := 9, a := b } (-1)
              simp only [eats, PS.next] at q1 ⊢
              exact ⟨by omega, by rw [q3.2.1, q1.2.1], by omega⟩
            · exact absurd h fault_not_ok
  | n + 1, .group, s, k, t, h => by
    simp only [run] at h
    split at h
    · split at h
      · cases h
      · obtain ⟨b, u, h1, h2⟩ := bind_ok h
        have q1 := run_read n _ _ _ _ h1
        split at h2
        · cases h2
          simp only [eats, PS.next] at q1 ⊢
          refine ⟨by omega, ?_, by omega⟩
          rw [q1.2.1]; simp
        · exact absurd h2 fault_not_ok
    · exact absurd h fault_not_ok
  | n + 1, .inside, s, k, t, h => by
    simp only [run] at h
    split at h
    · cases h
      have q3 := lay_read s { kind := 1 } (-1)
      simp only [eats]
      exact ⟨by omega, q3.2.1, by omega⟩
    · have q2 := run_read n _ _ _ _ h
      simp only [eats] at q2 ⊢
      exact ⟨by omega, q2.2⟩
theorem run_fuel {l : List Tk} : ∀ (n : Nat) (m : Md) (s : PS), fuelP l m s ≤ n → run l n m s ≠ .out
  | 0, m, s, h, _ => by unfold fuelP rankM at h; cases m <;> simp at h
  | n + 1, .or, s, h, ho => by
    simp only [fuelP, rankM] at h
    rcases bind_out ho with h1 | ⟨a, u, h1, h2⟩
    · exact run_fuel n .row s (by simp only [fuelP, rankM]; omega) h1
    · have q := run_read n _ _ _ _ h1
      simp only [eats] at q
      exact run_fuel n (.orL a) u (by simp only [fuelP, rankM]; omega) h2
  | n + 1, .orL a, s, h, ho => by
    simp only [fuelP, rankM] at h
    simp only [run] at ho
    split at ho
    · rename_i hk
      have hin := tk_in (l := l) (p := s.read) (by rw [hk]; decide)
      rcases bind_out ho with h1 | ⟨b, u, h1, h2⟩
      · exact run_fuel n .row s.next (by simp only [fuelP, rankM, PS.next]; omega) h1
      · have q := run_read n _ _ _ _ h1
        have q3 := lay_read u { kind := 5, a := a, b := b } (-1)
        simp only [eats, PS.next] at q
        exact run_fuel n (.orL _) _ (by simp only [fuelP, rankM]; omega) h2
    · cases ho
  | n + 1, .row, s, h, ho => by
    simp only [fuelP, rankM] at h
    rcases bind_out ho with h1 | ⟨a, u, h1, h2⟩
    · exact run_fuel n .post s (by simp only [fuelP, rankM]; omega) h1
    · have q := run_read n _ _ _ _ h1
      simp only [eats] at q
      exact run_fuel n (.rowL a) u (by simp only [fuelP, rankM]; omega) h2
  | n + 1, .rowL a, s, h, ho => by
    simp only [fuelP, rankM] at h
    simp only [run] at ho
    split at ho
    · rename_i hk
      have hin := tk_in (l := l) (p := s.read) (by intro e; rw [e] at hk; revert hk; decide)
      rcases bind_out ho with h1 | ⟨b, u, h1, h2⟩
      · exact run_fuel n .post s (by simp only [fuelP, rankM]; omega) h1
      · have q := run_read n _ _ _ _ h1
        have q3 := lay_read u { kind := 4, a := a, b := b } (-1)
        simp only [eats] at q
        exact run_fuel n (.rowL _) _ (by simp only [fuelP, rankM]; omega) h2
    · cases ho
  | n + 1, .post, s, h, ho => by
    simp only [fuelP, rankM] at h
    rcases bind_out ho with h1 | ⟨a, u, h1, h2⟩
    · exact run_fuel n .atom s (by simp only [fuelP, rankM]; omega) h1
    · have q := run_read n _ _ _ _ h1
      simp only [eats] at q
      exact run_fuel n (.postL a) u (by simp only [fuelP, rankM]; omega) h2
  | n + 1, .postL a, s, h, ho => by
    simp only [fuelP, rankM] at h
    simp only [run] at ho
    split at ho
    · rename_i hk
      have hin := tk_in (l := l) (p := s.read) (by rw [hk]; decide)
      have q3 := lay_read s { kind := 6, a := a } (tkAt l s.read).at_
      exact run_fuel n (.postL _) _ (by simp only [fuelP, rankM, PS.next]; omega) ho
    · split at ho
      · rename_i hk
        have hin := tk_in (l := l) (p := s.read) (by rw [hk]; decide)
        have q3 := lay_read s { kind := 7, a := a, lo := (tkAt l s.read).lo, hi := (tkAt l s.read).hi } (tkAt l s.read).at_
        exact run_fuel n (.postL _) _ (by simp only [fuelP, rankM, PS.next]; omega) ho
      · cases ho
  | n + 1, .atom, s, h, ho => by
    simp only [fuelP, rankM] at h
    simp only [run] at ho
    split at ho
    · cases ho
    · split at ho
      · cases ho
      · split at ho
        · exact run_fuel n .group s (by simp only [fuelP, rankM]; omega) ho
        · split at ho
          · rename_i hk
            have hin := tk_in (l := l) (p := s.read) (by rw [hk]; decide)
            rcases bind_out ho with h1 | ⟨b, u, h1, h2⟩
            · exact run_fuel n .group s.next (by simp only [fuelP, rankM, PS.next]; omega) h1
            · cases h2
          · split at ho
            · rename_i hk
              have hin := tk_in (l := l) (p := s.read) (by rw [hk]; decide)
              rcases bind_out ho with h1 | ⟨b, u, h1, h2⟩
              · exact run_fuel n .group s.next (by simp only [fuelP, rankM, PS.next]; omega) h1
              · cases h2
            · exact fault_not_out ho
  | n + 1, .group, s, h, ho => by
    simp only [fuelP, rankM] at h
    simp only [run] at ho
    split at ho
    · rename_i hk
      have hin := tk_in (l := l) (p := s.read) (by rw [hk]; decide)
      split at ho
      · cases ho
      · rcases bind_out ho with h1 | ⟨b, u, h1, h2⟩
        · exact run_fuel n .inside _ (by simp only [fuelP, rankM, PS.next]; omega) h1
        · split at h2
          · cases h2
          · exact fault_not_out h2
    · exact fault_not_out ho
  | n + 1, .inside, s, h, ho => by
    simp only [fuelP, rankM] at h
    simp only [run] at ho
    split at ho
    · cases ho
    · exact run_fuel n .or s (by simp only [fuelP, rankM]; omega) ho
end Go.Proofs.YtcgjmnhmhiddkaaGreatDoor
namespace Go.Proofs.YtcgjmnhmhiddkaaGreatDoor
open Go Go.RowKit
set_option linter.unusedVariables false
def tkC (t : Tk) : Array Value := #[.int .i64 t.kind, .int .i64 t.at_, .int .u64 (wd t.cls 0), .int .u64 (wd t.cls 1), .int .u64 (wd t.cls 2), .int .u64 (wd t.cls 3), .string (bs t.text), .int .i64 t.lo, .int .i64 t.hi]
def Tok.tk (t : Tok) : Tk := { kind := (t.kind : Int), at_ := (t.at_ : Int), lo := (t.lo : Int), hi := (t.hi : Int), cls := t.cls, text := t.text }
theorem tk_tok (t : Tok) : tkC t.tk = tokC t := rfl
def TkRow (w : World) (a : Option Addr) (l : List Tk) : Prop :=
  ∀ i, i < l.length → ∃ b off, a = some ⟨b, off, none⟩ ∧ b < w.heap.size ∧ ∀ j, j < 9 → w.cell? ⟨b, off + i * 9 + j, none⟩ = (tkC (l.getD i tkEnd))[j]?
theorem TkRow.later {w w' : World} {a : Option Addr} {l : List Tk} (h : TkRow w a l) (hb : Below w.heap.size w w') : TkRow w' a l := fun i hi => by
  obtain ⟨b, off, ha, hlt, hc⟩ := h i hi
  exact ⟨b, off, ha, Nat.lt_of_lt_of_le hlt hb.size, fun j hj => (hb.cell (p := ⟨b, off + i * 9 + j, none⟩) hlt).trans (hc j hj)⟩
theorem TRow.tk {w : World} {a : Option Addr} {l : List Tok} (h : TRow w a l) : TkRow w a (l.map Tok.tk) := fun i hi => by
  rw [List.length_map] at hi
  obtain ⟨b, off, ha, hlt, hc⟩ := h i hi
  refine ⟨b, off, ha, hlt, fun j hj => (hc j hj).trans ?_⟩
  have : (l.map Tok.tk).getD i tkEnd = (l.getD i tok0).tk := by simp [hi]
  rw [this, tk_tok]
theorem tk_zero : tkC tkEnd = #[.int .i64 10, .int .i64 0, .int .u64 0, .int .u64 0, .int .u64 0, .int .u64 0, .string ⟨#[]⟩, .int .i64 0, .int .i64 0] := by kernel_rfl
set_option linter.unusedSimpArgs false
def At9K (w : World) (b o : Nat) (x : Tk) : Prop := w.cell? ⟨b, o, none⟩ = some (.int .i64 x.kind) ∧ w.cell? ⟨b, o + 1, none⟩ = some (.int .i64 x.at_) ∧ w.cell? ⟨b, o + 2, none⟩ = some (.int .u64 (wd x.cls 0)) ∧ w.cell? ⟨b, o + 3, none⟩ = some (.int .u64 (wd x.cls 1)) ∧
  w.cell? ⟨b, o + 4, none⟩ = some (.int .u64 (wd x.cls 2)) ∧ w.cell? ⟨b, o + 5, none⟩ = some (.int .u64 (wd x.cls 3)) ∧ w.cell? ⟨b, o + 6, none⟩ = some (.string (bs x.text)) ∧ w.cell? ⟨b, o + 7, none⟩ = some (.int .i64 x.lo) ∧ w.cell? ⟨b, o + 8, none⟩ = some (.int .i64 x.hi)
theorem TkRow.at {w : World} {A : Option Addr} {a : List Tk} (h : TkRow w A a) {i : Nat} (hi : i < a.length) {b o : Nat} (hA : A = some ⟨b, o, none⟩) : At9K w b (o + i * 9) (tkAt a i) := by
  obtain ⟨b', o', h1, _, h2⟩ := h i hi
  rw [hA] at h1; cases h1
  exact ⟨h2 0 (by omega), h2 1 (by omega), h2 2 (by omega), h2 3 (by omega), h2 4 (by omega), h2 5 (by omega), h2 6 (by omega), h2 7 (by omega), h2 8 (by omega)⟩
structure TkS (w0 : World) (pb : Nat) (cs : Array Value) (A : Option Addr) (l : List Tk) (w : World) : Prop where
  bel : Below w0.heap.size w0 w
  blk : Blk w pb cs 151
  row : TkRow w A l
  box : Blk w w0.heap.size z9 76
theorem TkS.later {w0 : World} {pb : Nat} {cs : Array Value} {A : Option Addr} {l : List Tk} {w w' : World} (h : TkS w0 pb cs A l w) (hb : Below w.heap.size w w') : TkS w0 pb cs A l w' :=
  ⟨h.bel.trans (hb.mono h.bel.size), h.blk.later hb, h.row.later hb, h.box.later hb⟩
set_option maxHeartbeats 2000000 in
set_option maxRecDepth 100000 in
theorem begins_any (t : Tk) (w : World) : Calls Tryz.prog 155 #[.agg (tkC t)] w (Ans w (.bool (begK t.kind))) := by
  have HB := Lib.hid (Blk.new w (tkC t) 76)
  have hbel := Lib.hid ((Below.refl w.heap.size w).alloc (Nat.le_refl _) (.cells (tkC t) 76))
  have HK : Hid (∀ b, begK t.kind = b → b = begK t.kind) := fun b h => h.symm
  unfold tkC at HB hbel ⊢
  go_enter Tryz.func155, Tryz.ntmps155
  go_upto_region 1 with (fail)
  generalize w.alloc (.cells #[.int .i64 t.kind, .int .i64 t.at_, .int .u64 (wd t.cls 0), .int .u64 (wd t.cls 1), .int .u64 (wd t.cls 2), .int .u64 (wd t.cls 3), .string (bs t.text), .int .i64 t.lo, .int .i64 t.hi] 76) = w1 at *
  obtain ⟨e0, -, -, -, -, -, -, -, -⟩ := nine_cells HB.out
  generalize t.kind = k at *
  by_cases hk : begK k = true
  · unfold begK at hk ⊢
    simp only [Bool.or_eq_true, decide_eq_true_eq] at hk
    rcases hk with (((rfl | rfl) | rfl) | rfl) | rfl
    all_goals (go_wp2; exact bodyPost_ret (v := .bool true) (by simp [results, Tryz.results155, go_sem]) rfl ⟨rfl, hbel.out⟩)
  · have HF : Hid (begK k = false) := by unfold Hid; simpa using hk
    unfold begK at hk
    simp only [Bool.or_eq_true, decide_eq_true_eq, not_or] at hk
    obtain ⟨⟨⟨⟨k1, k2⟩, k3⟩, k8⟩, k9⟩ := hk
    have b1 := beq_false_of_ne k1
    have b2 := beq_false_of_ne k2
    have b3 := beq_false_of_ne k3
    have b8 := beq_false_of_ne k8
    have b9 := beq_false_of_ne k9
    go_wp2
    exact bodyPost_ret (v := .bool false) (by simp [results, Tryz.results155, go_sem]) rfl ⟨by rw [HF.out], hbel.out⟩
set_option maxHeartbeats 2000000 in
set_option maxRecDepth 100000 in
theorem token_any (l : List Tk) (A : Option Addr) (cp r : Nat) (v2 v3 v4 v5 : Value) (pb : Nat) (w : World) (hb : Blk w pb #[.slice A l.length cp, .int .i64 (r : Int), v2, v3, v4, v5] 151) (hr : TkRow w A l) (hl : l.length ≤ 1073741824) (hrd : r ≤ 1073741824) :
    Calls Tryz.prog 139 #[.pointer (some ⟨pb, 0, none⟩)] w (Ans w (.agg (tkC (tkAt l r)))) := by
  have HX : Hid (TkS w pb #[.slice A l.length cp, .int .i64 (r : Int), v2, v3, v4, v5] A l (w.alloc (.cells z9 76))) :=
    ⟨(Below.refl _ _).alloc (Nat.le_refl _) _, hb.alloc _, hr.later ((Below.refl _ _).alloc (Nat.le_refl _) _), Blk.new w _ _⟩
  have HR := Lib.hid hr
  have hlt0 := hb.lt
  clear hb hr
  unfold z9 at HX
  go_enter Tryz.func139, Tryz.ntmps139
  go_upto_region 1 with (fail)
  generalize w.alloc (.cells #[.int .i64 0, .int .i64 0, .int .u64 0, .int .u64 0, .int .u64 0, .int .u64 0, .string ⟨#[]⟩, .int .i64 0, .int .i64 0] 76) = w1 at *
  by_cases hlt : r < l.length
  · have hd : decide ((r : Int) < (l.length : Int)) = true := decide_eq_true (by omega)
    have hltz : (r : Int) < (l.length : Int) := by omega
    obtain ⟨ba, oa, rfl, _, _⟩ := HR.out r hlt
    have FA := Lib.hid (fun (w' : World) (h : TkRow w' (some ⟨ba, oa, none⟩) l) => h.at hlt rfl)
    generalize tkAt l r = x at *
    refine wp_region_stable (S := (TkS w pb #[.slice (some ⟨ba, oa, none⟩) l.length cp, .int .i64 (r : Int), v2, v3, v4, v5] (some ⟨ba, oa, none⟩) l)) (hSt := fun _ _ h hb => h.later hb) (plan := [[(0, none)], [(3, some 0)], [(4, some 1)], [(5, some 2)], [(0, none)], [(7, some 4)], [(8, some 5)], [(9, some 6)], [(10, some 7)], [(6, some 3), (11, some 8)]]) (by kernel_rfl) (by kernel_rfl) (by kernel_rfl) ?hS ?_
    rotate_left
    iterate 10 first
      | (refine chain_skip (by rfl) (by rfl) ?_)
      | (apply chain_want (by rfl)
         · intro act wx hS hr
           simp at hr
           have c0 := hS.blk.cell 0
           have c1 := hS.blk.cell 1
           simp at c0 c1
           have cl := hS.blk.lt
           go_simp
           (try go_ints)
           first
             | exact Done.same
        )
    show ∀ w', _ → _
    intro wz hz
    simp [Act.put]
    case hS => exact HX.out
    have HZ := Lib.hid hz
    clear hz
    go_upto_region 2 with (fail)
    refine wp_region_stable_last (S := (TkS w pb #[.slice (some ⟨ba, oa, none⟩) l.length cp, .int .i64 (r : Int), v2, v3, v4, v5] (some ⟨ba, oa, none⟩) l)) (hSt := fun _ _ h hb => h.later hb) (plan := [[(0, none)], [(13, some 0)], [(14, some 1)], [(15, some 2)], [(0, none)], [(17, some 4)], [(18, some 5)], [(19, some 6)], [(16, some 3), (20, some 7)], [(21, some 8)]]) rfl (by kernel_rfl) (by kernel_rfl) (by kernel_rfl) (by kernel_rfl) ?hS ?_
    rotate_left
    simp only [List.dropLast]
    iterate 10 first
      | (refine chain_skip (by rfl) (by rfl) ?_)
      | (apply chain_want (by rfl)
         · intro act wx hS hr
           simp at hr
           have c0 := hS.blk.cell 0
           have c1 := hS.blk.cell 1
           simp at c0 c1
           have cl := hS.blk.lt
           have g := FA.out _ hS.row
           unfold At9K at g
           obtain ⟨g0, g1, g2, g3, g4, g5, g6, g7, g8⟩ := g
           go_simp
           (try go_ints)
           first
             | exact Done.same (v := .agg (tkC x))
             | exact Done.same
        )
    show ∀ w', _ → _
    intro wy hy
    simp [Act.put]
    case hS => exact HZ.out
    obtain ⟨n0, n1, n2, n3, n4, n5, n6, n7, n8⟩ := nine hy.box
    obtain ⟨m0, m1, m2, m3, m4, m5, m6, m7, m8⟩ := nine_cells hy.box
    have nf := hy.box.frozen
    have hbl := Lib.hid (below9 hy.bel (Nat.le_refl _) (.int .i64 x.kind) (.int .i64 x.at_) (.int .u64 (wd x.cls 0)) (.int .u64 (wd x.cls 1)) (.int .u64 (wd x.cls 2)) (.int .u64 (wd x.cls 3)) (.string (bs x.text)) (.int .i64 x.lo) (.int .i64 x.hi))
    have hbk := Lib.hid (nine_cells (nine_blk hy.box (.int .i64 x.kind) (.int .i64 x.at_) (.int .u64 (wd x.cls 0)) (.int .u64 (wd x.cls 1)) (.int .u64 (wd x.cls 2)) (.int .u64 (wd x.cls 3)) (.string (bs x.text)) (.int .i64 x.lo) (.int .i64 x.hi)))
    clear hy
    unfold tkC
    go_wp2
    obtain ⟨r0, r1, r2, r3, r4, r5, r6, r7, r8⟩ := hbk.out
    exact bodyPost_ret (v := .agg #[.int .i64 x.kind, .int .i64 x.at_, .int .u64 (wd x.cls 0), .int .u64 (wd x.cls 1), .int .u64 (wd x.cls 2), .int .u64 (wd x.cls 3), .string (bs x.text), .int .i64 x.lo, .int .i64 x.hi]) (by simp [results, Tryz.results139, go_sem, r0, r1, r2, r3, r4, r5, r6, r7, r8]) rfl ⟨rfl, hbl.out⟩
  · have hd : decide ((r : Int) < (l.length : Int)) = false := decide_eq_false (by omega)
    have HE : Hid (tkC (tkAt l r) = #[.int .i64 10, .int .i64 0, .int .u64 0, .int .u64 0, .int .u64 0, .int .u64 0, .string ⟨#[]⟩, .int .i64 0, .int .i64 0]) := by
      unfold Hid; rw [← tk_zero]; congr 1
      unfold tkAt; rw [List.getD_eq_getElem?_getD, List.getElem?_eq_none (by omega)]; rfl
    refine wp_region_stable (S := (TkS w pb #[.slice A l.length cp, .int .i64 (r : Int), v2, v3, v4, v5] A l)) (hSt := fun _ _ h hb => h.later hb) (plan := [[(0, none)], [(3, some 0)], [(4, some 1)], [(5, some 2)], [(0, none)], [(7, some 4)], [(8, some 5)], [(9, some 6)], [(10, some 7)], [(6, some 3), (11, some 8)]]) (by kernel_rfl) (by kernel_rfl) (by kernel_rfl) ?hS ?_
    rotate_left
    iterate 10 first
      | (refine chain_skip (by rfl) (by rfl) ?_)
      | (apply chain_want (by rfl)
         · intro act wx hS hr
           simp at hr
           have c0 := hS.blk.cell 0
           have c1 := hS.blk.cell 1
           simp at c0 c1
           have cl := hS.blk.lt
           go_simp
           (try go_ints)
           first
             | exact Done.same
        )
    show ∀ w', _ → _
    intro wz hz
    simp [Act.put]
    case hS => exact HX.out
    obtain ⟨n0, n1, n2, n3, n4, n5, n6, n7, n8⟩ := nine hz.box
    obtain ⟨m0, m1, m2, m3, m4, m5, m6, m7, m8⟩ := nine_cells hz.box
    have nf := hz.box.frozen
    have hbl := Lib.hid (below9 hz.bel (Nat.le_refl _) (.int .i64 10) (.int .i64 0) (.int .u64 0) (.int .u64 0) (.int .u64 0) (.int .u64 0) (.string ⟨#[]⟩) (.int .i64 0) (.int .i64 0))
    have hbk := Lib.hid (nine_cells (nine_blk hz.box (.int .i64 10) (.int .i64 0) (.int .u64 0) (.int .u64 0) (.int .u64 0) (.int .u64 0) (.string ⟨#[]⟩) (.int .i64 0) (.int .i64 0)))
    clear hz
    go_wp2
    obtain ⟨r0, r1, r2, r3, r4, r5, r6, r7, r8⟩ := hbk.out
    exact bodyPost_ret (v := .agg #[.int .i64 10, .int .i64 0, .int .u64 0, .int .u64 0, .int .u64 0, .int .u64 0, .string ⟨#[]⟩, .int .i64 0, .int .i64 0]) (by simp [results, Tryz.results139, go_sem, r0, r1, r2, r3, r4, r5, r6, r7, r8]) rfl ⟨by rw [HE.out], hbl.out⟩
end Go.Proofs.YtcgjmnhmhiddkaaGreatDoor
