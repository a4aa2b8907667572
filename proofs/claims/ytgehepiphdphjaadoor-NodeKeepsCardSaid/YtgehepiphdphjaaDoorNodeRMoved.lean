/- The document's nodes moved, parts, wholes: walked. -/
import Derived.Test.YtgehepiphdphjaaDoorNodeRForm
import Derived.Test.YtgehepiphdphjaaDoorNodeLaid2
namespace Go.Proofs.YtgehepiphdphjaaDoor
open Go Go.RowKit
set_option linter.unusedVariables false
set_option linter.unusedSimpArgs false

theorem OwnN.setCell_ne2 {w : World} {base : Nat} {s : Value} {l : List Nd} (h : OwnN w base s l) {a : Addr} (ha : ∀ k, s.ownBlock = some k → k ≠ a.block) (v : Value) : OwnN (w.setCell a v) base s l := by
  obtain ⟨h0, ⟨hv, hn⟩ | ⟨g, cap, cur, hv, hb, hg, hr⟩⟩ := h
  · exact ⟨h0, .inl ⟨hv, hn⟩⟩
  · refine ⟨h0, .inr ⟨g, cap, cur, hv, hb, ?_, hr⟩⟩
    have : Blk w g cur 59 := hg
    exact this.setCell_ne (a := a) (Ne.symm (ha g (by rw [hv]; rfl))) v
set_option maxHeartbeats 8000000 in
set_option maxRecDepth 100000 in
theorem rmoved_any (m : List Nd) (d : Int) (A : Option Addr) (c : Nat) (w : World) (hrow : NRow w A m) (hlen : m.length < 1073741824) (hok : ∀ n ∈ m, MvOk d n ∧ n.kind ≤ 9) :
    Calls Tryd.prog 60 #[.slice A m.length c, .int .i64 d] w (LaidPost w w.heap.size (m.map (mvN d))) := by
  have HS0 : Hid (LaidS w w.heap.size A m (.slice none 0 0) [] w) := ⟨Below.refl _ _, OwnN.nil _ _, hrow, Nat.le_refl _⟩
  have HA : Hid (∀ b o, m ≠ [] → A = some ⟨b, o, none⟩ → b < w.heap.size) := fun b o hne e => by
    obtain ⟨b', o', h1, h2, _⟩ := hrow 0 (List.length_pos_iff.2 hne)
    rw [e] at h1; cases h1; exact h2
  have HOK := Lib.hid hok
  clear hrow hok
  go_enter Tryd.func60, Tryd.ntmps60
  go_wp2
  go_loopw [5, 6] (LaidL w w.heap.size A [] m d) (fun _ i _ => m.length - (intOf i).toNat)
  case atStart => exact ⟨0, Nat.zero_le _, rfl, by simpa using HS0.out⟩
  case round =>
    obtain ⟨k, hk, rfl, hs⟩ := hrel
    rw [List.nil_append] at hs
    have HS := Lib.hid hs
    by_cases hlt : k < m.length
    · have hltz : (k : Int) < (m.length : Int) := by omega
      obtain ⟨ba, oa, rfl, -, -⟩ := hs.row k hlt
      have HA := Lib.hid (fun b o => HA.out b o (List.ne_nil_of_length_pos (by omega)))
      have g : At10 wr ba (oa + k * 10) (m.getD k nd0) := hs.row.at hlt rfl
      have HN : Hid ((m.take (k + 1)).map (mvN d) = (m.take k).map (mvN d) ++ [mvN d (m.getD k nd0)]) := by
        unfold Hid
        rw [List.take_succ_eq_append_getElem hlt, List.map_append, List.getD_eq_getElem?_getD, List.getElem?_eq_getElem hlt]; rfl
      have HM := Lib.hid (HOK.out (m.getD k nd0) (by rw [List.getD_eq_getElem?_getD, List.getElem?_eq_getElem hlt]; exact List.getElem_mem _))
      have hcnt : ((m.take k).map (mvN d)).length < 1073741824 := by rw [List.length_map, List.length_take]; omega
      have HCN := Lib.hid hcnt
      generalize (m.take k).map (mvN d) = L at *
      generalize m.getD k nd0 = n at *
      clear hs hcnt
      obtain ⟨kk, na, nb, nlo, nhi, ncls, ntext⟩ := n
      unfold At10 at g
      simp only at g
      obtain ⟨g0, g1, g2, g3, g4, g5, g6, g7, g8, g9⟩ := g
      obtain ⟨⟨_, hfa, hfb⟩, hk9⟩ := HM.out
      simp only at hfa hfb hk9
      unfold partK at hfa
      have HS2 := Lib.hid (HS.out.later ((Below.refl _ _).alloc (Nat.le_refl _) (.cells #[.int .i64 kk, .int .i64 na, .int .i64 nb, .int .i64 nlo, .int .i64 nhi, .int .u64 (wd ncls 0), .int .u64 (wd ncls 1), .int .u64 (wd ncls 2), .int .u64 (wd ncls 3), .string (bs ntext)] 59)))
      have HB2 := Lib.hid (Blk.new wr #[.int .i64 kk, .int .i64 na, .int .i64 nb, .int .i64 nlo, .int .i64 nhi, .int .u64 (wd ncls 0), .int .u64 (wd ncls 1), .int .u64 (wd ncls 2), .int .u64 (wd ncls 3), .string (bs ntext)] 59)
      have hlow : w.heap.size ≤ wr.heap.size := HS.out.low
      have HOB : Hid (∀ k, Value.ownBlock u5 = some k → k < wr.heap.size) := fun k hk => (World.ownsRow.lt HS.out.own k hk).2
      have hlow2 : w.heap.size ≤ wr.heap.size := hlow
      go_upto_region 6 with (fail)
      clear g0 g1 g2 g3 g4 g5 g6 g7 g8 g9
      generalize wr.alloc (.cells #[.int .i64 kk, .int .i64 na, .int .i64 nb, .int .i64 nlo, .int .i64 nhi, .int .u64 (wd ncls 0), .int .u64 (wd ncls 1), .int .u64 (wd ncls 2), .int .u64 (wd ncls 3), .string (bs ntext)] 59) = w2 at *
      generalize wr.heap.size = bx at *
      have gg := HB2.out
      have gf := gg.frozen
      obtain ⟨g0, g1, g2, g3, g4, g5, g6, g7, g8, g9⟩ := ten_cells gg
      clear gg
      by_cases c4 : kk = 4 ∨ kk = 5
      · have h4 : kk ≥ 4 := by omega
        have ha1 := hfa (by omega)
        have hb1 := hfb c4
        have HXV : Hid (mvN d ⟨kk, na, nb, nlo, nhi, ncls, ntext⟩ = ⟨kk, na + d, nb + d, nlo, nhi, ncls, ntext⟩) := by unfold Hid mvN; rw [if_neg (by simp only; omega), if_pos c4]
        clear hfa hfb hk9
        rcases c4 with rfl | rfl
        ·
          go_upto_region 8 with (fail)
          have HB3 : Hid (Blk (w2.setCell ⟨bx, 1, none⟩ (.int .i64 (na + d))) bx #[.int .i64 4, .int .i64 (na + d), .int .i64 nb, .int .i64 nlo, .int .i64 nhi, .int .u64 (wd ncls 0), .int .u64 (wd ncls 1), .int .u64 (wd ncls 2), .int .u64 (wd ncls 3), .string (bs ntext)] 59) := HB2.out.setCell 1 (.int .i64 (na + d))
          have hbs : Below w.heap.size w2 (w2.setCell ⟨bx, 1, none⟩ (.int .i64 (na + d))) := (Below.refl _ _).setCell (p := ⟨bx, 1, none⟩) hlow _
          have HS3 : Hid (LaidS w w.heap.size (some ⟨ba, oa, none⟩) m _ L (w2.setCell ⟨bx, 1, none⟩ (.int .i64 (na + d)))) := ⟨HS2.out.bel.trans hbs, HS2.out.own.setCell_ne2 (fun k hk => by have := HOB.out k hk; show k ≠ bx; omega) _, HS2.out.row.below HA.out hbs hbs.size, Nat.le_trans HS2.out.low hbs.size⟩
          generalize w2.setCell ⟨bx, 1, none⟩ (.int .i64 (na + d)) = w3 at *
          clear hbs gf g0 g1 g2 g3 g4 g5 g6 g7 g8 g9
          have gg := HB3.out
          have gf := gg.frozen
          obtain ⟨g0, g1, g2, g3, g4, g5, g6, g7, g8, g9⟩ := ten_cells gg
          clear gg
          go_upto_region 10 with (fail)
          have HB4 : Hid (Blk (w3.setCell ⟨bx, 2, none⟩ (.int .i64 (nb + d))) bx #[.int .i64 4, .int .i64 (na + d), .int .i64 (nb + d), .int .i64 nlo, .int .i64 nhi, .int .u64 (wd ncls 0), .int .u64 (wd ncls 1), .int .u64 (wd ncls 2), .int .u64 (wd ncls 3), .string (bs ntext)] 59) := HB3.out.setCell 2 (.int .i64 (nb + d))
          have hbs : Below w.heap.size w3 (w3.setCell ⟨bx, 2, none⟩ (.int .i64 (nb + d))) := (Below.refl _ _).setCell (p := ⟨bx, 2, none⟩) hlow _
          have HS4 : Hid (LaidS w w.heap.size (some ⟨ba, oa, none⟩) m _ L (w3.setCell ⟨bx, 2, none⟩ (.int .i64 (nb + d)))) := ⟨HS3.out.bel.trans hbs, HS3.out.own.setCell_ne2 (fun k hk => by have := HOB.out k hk; show k ≠ bx; omega) _, HS3.out.row.below HA.out hbs hbs.size, Nat.le_trans HS3.out.low hbs.size⟩
          generalize w3.setCell ⟨bx, 2, none⟩ (.int .i64 (nb + d)) = w4 at *
          clear hbs
          have HBX : Hid (Blk w4 bx #[.int .i64 4, .int .i64 (na + d), .int .i64 (nb + d), .int .i64 nlo, .int .i64 nhi, .int .u64 (wd ncls 0), .int .u64 (wd ncls 1), .int .u64 (wd ncls 2), .int .u64 (wd ncls 3), .string (bs ntext)] 59) := HB4.out
          have HSX := HS4
          clear g0 g1 g2 g3 g4 g5 g6 g7 g8 g9 gf
          obtain ⟨x, hx⟩ : ∃ x, x = mvN d ⟨4, na, nb, nlo, nhi, ncls, ntext⟩ := ⟨_, rfl⟩
          have HXC : Hid (ndC x = #[.int .i64 4, .int .i64 (na + d), .int .i64 (nb + d), .int .i64 nlo, .int .i64 nhi, .int .u64 (wd ncls 0), .int .u64 (wd ncls 1), .int .u64 (wd ncls 2), .int .u64 (wd ncls 3), .string (bs ntext)]) := by unfold Hid; rw [hx, HXV.out]; rfl
          rw [← hx] at HN
          clear hx HXV
          have HK1 := Lib.hid HBX.out
          clear HBX
          have gg := HK1.out
          obtain ⟨g0, g1, g2, g3, g4, g5, g6, g7, g8, g9⟩ := ten_cells gg
          clear gg
          have HS4 := Lib.hid (HSX.out.later ((Below.refl _ _).alloc (Nat.le_refl _) (.cells (ndC x) 59)))
          have HK := Lib.hid (Blk.new w4 (ndC x) 59)
          have hbase4 := HS4.out.low
          rw [HXC.out] at HS4 hbase4
          have HKC : Hid (Blk _ _ (ndC x) 59) := HK.out
          rw [HXC.out] at HK
          go_wp2_with (at_builtin; refine wpList_append_nd rfl _ _ rfl w.heap.size _ _ rfl HS4.out.own w4.heap.size x rfl (HXC.out.symm ▸ HK.out) HCN.out hbase4 ?_; intro v' w7 ho7 hb7; have HO7 := Lib.hid ho7; have HB7 := Lib.hid (hb7 _ (Nat.le_refl _)); clear ho7 hb7)
          have HS7 : Hid (LaidS w w.heap.size (some ⟨ba, oa, none⟩) m v' (L ++ [x]) w7) := ⟨HS4.out.bel.trans HB7.out, HO7.out, HS4.out.row.below HA.out HB7.out HB7.out.size, Nat.le_trans HS4.out.low HB7.out.size⟩
          go_roundw
          case rel => exact ⟨k + 1, by omega, by go_num, by rw [List.nil_append, HN.out]; exact HS7.out⟩
          case measure => simp [intOf]; omega
        ·
          go_upto_region 8 with (fail)
          have HB3 : Hid (Blk (w2.setCell ⟨bx, 1, none⟩ (.int .i64 (na + d))) bx #[.int .i64 5, .int .i64 (na + d), .int .i64 nb, .int .i64 nlo, .int .i64 nhi, .int .u64 (wd ncls 0), .int .u64 (wd ncls 1), .int .u64 (wd ncls 2), .int .u64 (wd ncls 3), .string (bs ntext)] 59) := HB2.out.setCell 1 (.int .i64 (na + d))
          have hbs : Below w.heap.size w2 (w2.setCell ⟨bx, 1, none⟩ (.int .i64 (na + d))) := (Below.refl _ _).setCell (p := ⟨bx, 1, none⟩) hlow _
          have HS3 : Hid (LaidS w w.heap.size (some ⟨ba, oa, none⟩) m _ L (w2.setCell ⟨bx, 1, none⟩ (.int .i64 (na + d)))) := ⟨HS2.out.bel.trans hbs, HS2.out.own.setCell_ne2 (fun k hk => by have := HOB.out k hk; show k ≠ bx; omega) _, HS2.out.row.below HA.out hbs hbs.size, Nat.le_trans HS2.out.low hbs.size⟩
          generalize w2.setCell ⟨bx, 1, none⟩ (.int .i64 (na + d)) = w3 at *
          clear hbs gf g0 g1 g2 g3 g4 g5 g6 g7 g8 g9
          have gg := HB3.out
          have gf := gg.frozen
          obtain ⟨g0, g1, g2, g3, g4, g5, g6, g7, g8, g9⟩ := ten_cells gg
          clear gg
          go_upto_region 10 with (fail)
          have HB4 : Hid (Blk (w3.setCell ⟨bx, 2, none⟩ (.int .i64 (nb + d))) bx #[.int .i64 5, .int .i64 (na + d), .int .i64 (nb + d), .int .i64 nlo, .int .i64 nhi, .int .u64 (wd ncls 0), .int .u64 (wd ncls 1), .int .u64 (wd ncls 2), .int .u64 (wd ncls 3), .string (bs ntext)] 59) := HB3.out.setCell 2 (.int .i64 (nb + d))
          have hbs : Below w.heap.size w3 (w3.setCell ⟨bx, 2, none⟩ (.int .i64 (nb + d))) := (Below.refl _ _).setCell (p := ⟨bx, 2, none⟩) hlow _
          have HS4 : Hid (LaidS w w.heap.size (some ⟨ba, oa, none⟩) m _ L (w3.setCell ⟨bx, 2, none⟩ (.int .i64 (nb + d)))) := ⟨HS3.out.bel.trans hbs, HS3.out.own.setCell_ne2 (fun k hk => by have := HOB.out k hk; show k ≠ bx; omega) _, HS3.out.row.below HA.out hbs hbs.size, Nat.le_trans HS3.out.low hbs.size⟩
          generalize w3.setCell ⟨bx, 2, none⟩ (.int .i64 (nb + d)) = w4 at *
          clear hbs
          have HBX : Hid (Blk w4 bx #[.int .i64 5, .int .i64 (na + d), .int .i64 (nb + d), .int .i64 nlo, .int .i64 nhi, .int .u64 (wd ncls 0), .int .u64 (wd ncls 1), .int .u64 (wd ncls 2), .int .u64 (wd ncls 3), .string (bs ntext)] 59) := HB4.out
          have HSX := HS4
          clear g0 g1 g2 g3 g4 g5 g6 g7 g8 g9 gf
          obtain ⟨x, hx⟩ : ∃ x, x = mvN d ⟨5, na, nb, nlo, nhi, ncls, ntext⟩ := ⟨_, rfl⟩
          have HXC : Hid (ndC x = #[.int .i64 5, .int .i64 (na + d), .int .i64 (nb + d), .int .i64 nlo, .int .i64 nhi, .int .u64 (wd ncls 0), .int .u64 (wd ncls 1), .int .u64 (wd ncls 2), .int .u64 (wd ncls 3), .string (bs ntext)]) := by unfold Hid; rw [hx, HXV.out]; rfl
          rw [← hx] at HN
          clear hx HXV
          have HK1 := Lib.hid HBX.out
          clear HBX
          have gg := HK1.out
          obtain ⟨g0, g1, g2, g3, g4, g5, g6, g7, g8, g9⟩ := ten_cells gg
          clear gg
          have HS4 := Lib.hid (HSX.out.later ((Below.refl _ _).alloc (Nat.le_refl _) (.cells (ndC x) 59)))
          have HK := Lib.hid (Blk.new w4 (ndC x) 59)
          have hbase4 := HS4.out.low
          rw [HXC.out] at HS4 hbase4
          have HKC : Hid (Blk _ _ (ndC x) 59) := HK.out
          rw [HXC.out] at HK
          go_wp2_with (at_builtin; refine wpList_append_nd rfl _ _ rfl w.heap.size _ _ rfl HS4.out.own w4.heap.size x rfl (HXC.out.symm ▸ HK.out) HCN.out hbase4 ?_; intro v' w7 ho7 hb7; have HO7 := Lib.hid ho7; have HB7 := Lib.hid (hb7 _ (Nat.le_refl _)); clear ho7 hb7)
          have HS7 : Hid (LaidS w w.heap.size (some ⟨ba, oa, none⟩) m v' (L ++ [x]) w7) := ⟨HS4.out.bel.trans HB7.out, HO7.out, HS4.out.row.below HA.out HB7.out HB7.out.size, Nat.le_trans HS4.out.low HB7.out.size⟩
          go_roundw
          case rel => exact ⟨k + 1, by omega, by go_num, by rw [List.nil_append, HN.out]; exact HS7.out⟩
          case measure => simp [intOf]; omega
      · by_cases h4 : kk ≥ 4
        · have ha1 := hfa (by omega)
          have z4 : (kk == 4) = false := by rw [beq_eq_false_iff_ne]; omega
          have z5 : (kk == 5) = false := by rw [beq_eq_false_iff_ne]; omega
          have HXV : Hid (mvN d ⟨kk, na, nb, nlo, nhi, ncls, ntext⟩ = ⟨kk, na + d, nb, nlo, nhi, ncls, ntext⟩) := by unfold Hid mvN; rw [if_pos (by simp only; omega)]
          clear hfa hfb hk9 c4
          go_upto_region 8 with (fail)
          have HB3 : Hid (Blk (w2.setCell ⟨bx, 1, none⟩ (.int .i64 (na + d))) bx #[.int .i64 kk, .int .i64 (na + d), .int .i64 nb, .int .i64 nlo, .int .i64 nhi, .int .u64 (wd ncls 0), .int .u64 (wd ncls 1), .int .u64 (wd ncls 2), .int .u64 (wd ncls 3), .string (bs ntext)] 59) := HB2.out.setCell 1 (.int .i64 (na + d))
          have hbs : Below w.heap.size w2 (w2.setCell ⟨bx, 1, none⟩ (.int .i64 (na + d))) := (Below.refl _ _).setCell (p := ⟨bx, 1, none⟩) hlow _
          have HS3 : Hid (LaidS w w.heap.size (some ⟨ba, oa, none⟩) m _ L (w2.setCell ⟨bx, 1, none⟩ (.int .i64 (na + d)))) := ⟨HS2.out.bel.trans hbs, HS2.out.own.setCell_ne2 (fun k hk => by have := HOB.out k hk; show k ≠ bx; omega) _, HS2.out.row.below HA.out hbs hbs.size, Nat.le_trans HS2.out.low hbs.size⟩
          generalize w2.setCell ⟨bx, 1, none⟩ (.int .i64 (na + d)) = w3 at *
          clear hbs gf g0 g1 g2 g3 g4 g5 g6 g7 g8 g9
          have gg := HB3.out
          have gf := gg.frozen
          obtain ⟨g0, g1, g2, g3, g4, g5, g6, g7, g8, g9⟩ := ten_cells gg
          clear gg
          go_upto_region 10 with (fail)
          have HBX : Hid (Blk w3 bx #[.int .i64 kk, .int .i64 (na + d), .int .i64 nb, .int .i64 nlo, .int .i64 nhi, .int .u64 (wd ncls 0), .int .u64 (wd ncls 1), .int .u64 (wd ncls 2), .int .u64 (wd ncls 3), .string (bs ntext)] 59) := HB3.out
          have HSX := HS3
          clear g0 g1 g2 g3 g4 g5 g6 g7 g8 g9 gf
          obtain ⟨x, hx⟩ : ∃ x, x = mvN d ⟨kk, na, nb, nlo, nhi, ncls, ntext⟩ := ⟨_, rfl⟩
          have HXC : Hid (ndC x = #[.int .i64 kk, .int .i64 (na + d), .int .i64 nb, .int .i64 nlo, .int .i64 nhi, .int .u64 (wd ncls 0), .int .u64 (wd ncls 1), .int .u64 (wd ncls 2), .int .u64 (wd ncls 3), .string (bs ntext)]) := by unfold Hid; rw [hx, HXV.out]; rfl
          rw [← hx] at HN
          clear hx HXV
          have HK1 := Lib.hid HBX.out
          clear HBX
          have gg := HK1.out
          obtain ⟨g0, g1, g2, g3, g4, g5, g6, g7, g8, g9⟩ := ten_cells gg
          clear gg
          have HS4 := Lib.hid (HSX.out.later ((Below.refl _ _).alloc (Nat.le_refl _) (.cells (ndC x) 59)))
          have HK := Lib.hid (Blk.new w3 (ndC x) 59)
          have hbase4 := HS4.out.low
          rw [HXC.out] at HS4 hbase4
          have HKC : Hid (Blk _ _ (ndC x) 59) := HK.out
          rw [HXC.out] at HK
          go_wp2_with (at_builtin; refine wpList_append_nd rfl _ _ rfl w.heap.size _ _ rfl HS4.out.own w3.heap.size x rfl (HXC.out.symm ▸ HK.out) HCN.out hbase4 ?_; intro v' w7 ho7 hb7; have HO7 := Lib.hid ho7; have HB7 := Lib.hid (hb7 _ (Nat.le_refl _)); clear ho7 hb7)
          have HS7 : Hid (LaidS w w.heap.size (some ⟨ba, oa, none⟩) m v' (L ++ [x]) w7) := ⟨HS4.out.bel.trans HB7.out, HO7.out, HS4.out.row.below HA.out HB7.out HB7.out.size, Nat.le_trans HS4.out.low HB7.out.size⟩
          go_roundw
          case rel => exact ⟨k + 1, by omega, by go_num, by rw [List.nil_append, HN.out]; exact HS7.out⟩
          case measure => simp [intOf]; omega
        · have z4 : (kk == 4) = false := by rw [beq_eq_false_iff_ne]; omega
          have z5 : (kk == 5) = false := by rw [beq_eq_false_iff_ne]; omega
          have HXV : Hid (mvN d ⟨kk, na, nb, nlo, nhi, ncls, ntext⟩ = ⟨kk, na, nb, nlo, nhi, ncls, ntext⟩) := by unfold Hid mvN; rw [if_neg (by simp only; omega), if_neg (by simp only; omega)]
          clear hfa hfb hk9 c4
          go_upto_region 10 with (fail)
          have HBX : Hid (Blk w2 bx #[.int .i64 kk, .int .i64 na, .int .i64 nb, .int .i64 nlo, .int .i64 nhi, .int .u64 (wd ncls 0), .int .u64 (wd ncls 1), .int .u64 (wd ncls 2), .int .u64 (wd ncls 3), .string (bs ntext)] 59) := HB2.out
          have HSX := HS2
          clear g0 g1 g2 g3 g4 g5 g6 g7 g8 g9 gf
          obtain ⟨x, hx⟩ : ∃ x, x = mvN d ⟨kk, na, nb, nlo, nhi, ncls, ntext⟩ := ⟨_, rfl⟩
          have HXC : Hid (ndC x = #[.int .i64 kk, .int .i64 na, .int .i64 nb, .int .i64 nlo, .int .i64 nhi, .int .u64 (wd ncls 0), .int .u64 (wd ncls 1), .int .u64 (wd ncls 2), .int .u64 (wd ncls 3), .string (bs ntext)]) := by unfold Hid; rw [hx, HXV.out]; rfl
          rw [← hx] at HN
          clear hx HXV
          have HK1 := Lib.hid HBX.out
          clear HBX
          have gg := HK1.out
          obtain ⟨g0, g1, g2, g3, g4, g5, g6, g7, g8, g9⟩ := ten_cells gg
          clear gg
          have HS4 := Lib.hid (HSX.out.later ((Below.refl _ _).alloc (Nat.le_refl _) (.cells (ndC x) 59)))
          have HK := Lib.hid (Blk.new w2 (ndC x) 59)
          have hbase4 := HS4.out.low
          rw [HXC.out] at HS4 hbase4
          have HKC : Hid (Blk _ _ (ndC x) 59) := HK.out
          rw [HXC.out] at HK
          go_wp2_with (at_builtin; refine wpList_append_nd rfl _ _ rfl w.heap.size _ _ rfl HS4.out.own w2.heap.size x rfl (HXC.out.symm ▸ HK.out) HCN.out hbase4 ?_; intro v' w7 ho7 hb7; have HO7 := Lib.hid ho7; have HB7 := Lib.hid (hb7 _ (Nat.le_refl _)); clear ho7 hb7)
          have HS7 : Hid (LaidS w w.heap.size (some ⟨ba, oa, none⟩) m v' (L ++ [x]) w7) := ⟨HS4.out.bel.trans HB7.out, HO7.out, HS4.out.row.below HA.out HB7.out HB7.out.size, Nat.le_trans HS4.out.low HB7.out.size⟩
          go_roundw
          case rel => exact ⟨k + 1, by omega, by go_num, by rw [List.nil_append, HN.out]; exact HS7.out⟩
          case measure => simp [intOf]; omega
    · obtain rfl : k = m.length := by omega
      have HO : Hid (LaidPost w w.heap.size (m.map (mvN d)) (.returned u5) wr) := by
        have h := hs.own
        rw [List.take_length] at h
        exact ⟨_, rfl, h, hs.bel⟩
      clear hs
      go_wp2
      go_ret
      exact HO.out
end Go.Proofs.YtgehepiphdphjaaDoor
