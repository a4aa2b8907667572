/- The document's nodes moved, parts, wholes: walked. -/
import Derived.Test.YtidoofdofdhjpaaM17
import Derived.Test.YtidoofdofdhjpaaM07
import Derived.Test.YtidoofdofdhjpaaM12
import Derived.Test.YtidoofdofdhjpaaM13
import Derived.Laws.MakeOwn
namespace Go.Proofs.Ytidoofdofdhjpaa
open Go Go.RowKit
set_option linter.unusedVariables false
set_option linter.unusedSimpArgs false
theorem OwnN.setCell_ne2 {w : World} {base : Nat} {s : Value} {l : List Nd} (h : OwnN w base s l) {a : Addr} (ha : ∀ k, s.ownBlock = some k -> k ≠ a.block) (v : Value) : OwnN (w.setCell a v) base s l := by
 obtain ⟨h0, ⟨hv, hn⟩ | ⟨g, cap, cur, hv, hb, hg, hr⟩⟩ := h
 ·exact ⟨h0, .inl ⟨hv, hn⟩⟩
 ·refine ⟨h0, .inr ⟨g, cap, cur, hv, hb, ?_, hr⟩⟩
  have : Blk w g cur 58 := hg
  exact this.setCell_ne (a := a) (Ne.symm (ha g (by rw [hv]; rfl))) v
set_option maxHeartbeats 8000000 in
set_option maxRecDepth 100000 in
theorem rmoved_any (m : List Nd) (d : Int) (A : Option Addr) (c : Nat) (w : World) (hrow : NRow w A m) (hlen : m.length < 1073741824) (hok : ∀ n ∈ m, MvOk d n /\ n.kind <= 9) :
 Calls Try.prog 38 #[.slice A m.length c, .int .i64 d] w (LaidPost w w.heap.size (m.map (mvN d))) := by
 have HS0 : Hid (LaidS w w.heap.size A m (.slice none 0 0) [] w) := ⟨Below.refl _ _, OwnN.nil _ _, hrow, Nat.le_refl _⟩
 have HA : Hid (∀ b o, m ≠ [] -> A = some ⟨b, o, none⟩ -> b < w.heap.size) := fun b o hne e => by
  obtain ⟨b', o', h1, h2, _⟩ := hrow 0 (List.length_pos_iff.2 hne)
  rw [e] at h1; cases h1; exact h2
 have HOK := Lib.hid hok
 clear hrow hok
 go_enter Try.func38, Try.ntmps38
 go_wp2
 go_loopw [5, 6] (LaidL w w.heap.size A [] m d) (fun _ i _ => m.length - (intOf i).toNat)
 case atStart => exact ⟨0, Nat.zero_le _, rfl, by simpa using HS0.out⟩
 case round =>
  obtain ⟨k, hk, rfl, hs⟩ := hrel
  rw [List.nil_append] at hs
  have HS := Lib.hid hs
  by_cases hlt : k < m.length
  ·have hltz : (k : Int) < (m.length : Int) := by omega
   obtain ⟨ba, oa, rfl, -, -⟩ := hs.row k hlt
   have HA := Lib.hid (fun b o => HA.out b o (List.ne_nil_of_length_pos (by omega)))
   have g : At10 wr ba (oa + k * 10) (m.getD k nd0) := hs.row.at hlt rfl
   have HN : Hid ((m.take (k + 1)).map (mvN d) = (m.take k).map (mvN d) ++ [mvN d (m.getD k nd0)]) := by
    unfold Hid
    rw [List.take_succ_eq_append_getElem hlt, List.map_append, List.getD_eq_getElem?_getD, List.getElem?_eq_getElem hlt]; rfl
   have HM := Lib.hid (HOK.out (m.getD k nd0) (by rw [List.getD_eq_getElem?_getD, List.getElem?_eq_getElem hlt]; exact List.getElem_mem _))
   have hcnt : ((m.take k).map (mvN d)).length < 1073741824 := by rw [List.length_map, List.length_take]; omega
   have HCN := Lib.hid hcnt
   generalize (m.take k).map (mvN d) = L at *
   generalize m.getD k nd0 = n at *
   clear hs hcnt
   obtain ⟨kk, na, nb, nlo, nhi, ncls, ntext⟩ := n
   unfold At10 at g
   simp only at g
   obtain ⟨g0, g1, g2, g3, g4, g5, g6, g7, g8, g9⟩ := g
   obtain ⟨⟨_, hfa, hfb⟩, hk9⟩ := HM.out
   simp only at hfa hfb hk9
   unfold partK at hfa
   have HS2 := Lib.hid (HS.out.later ((Below.refl _ _).alloc (Nat.le_refl _) (.cells #[.int .i64 kk, .int .i64 na, .int .i64 nb, .int .i64 nlo, .int .i64 nhi, .int .u64 (wd ncls 0), .int .u64 (wd ncls 1), .int .u64 (wd ncls 2), .int .u64 (wd ncls 3), .string (bs ntext)] 58)))
   have HB2 := Lib.hid (Blk.new wr #[.int .i64 kk, .int .i64 na, .int .i64 nb, .int .i64 nlo, .int .i64 nhi, .int .u64 (wd ncls 0), .int .u64 (wd ncls 1), .int .u64 (wd ncls 2), .int .u64 (wd ncls 3), .string (bs ntext)] 58)
   have hlow : w.heap.size <= wr.heap.size := HS.out.low
   have HOB : Hid (∀ k, Value.ownBlock u5 = some k -> k < wr.heap.size) := fun k hk => (World.ownsRow.lt HS.out.own k hk).2
   have hlow2 : w.heap.size <= wr.heap.size := hlow
   go_upto_region 6 with (fail)
   clear g0 g1 g2 g3 g4 g5 g6 g7 g8 g9
   generalize wr.alloc (.cells #[.int .i64 kk, .int .i64 na, .int .i64 nb, .int .i64 nlo, .int .i64 nhi, .int .u64 (wd ncls 0), .int .u64 (wd ncls 1), .int .u64 (wd ncls 2), .int .u64 (wd ncls 3), .string (bs ntext)] 58) = w2 at *
   generalize wr.heap.size = bx at *
   have gg := HB2.out
   have gf := gg.frozen
   obtain ⟨g0, g1, g2, g3, g4, g5, g6, g7, g8, g9⟩ := ten_cells gg
   clear gg
   by_cases c4 : kk = 4 \/ kk = 5
   ·have h4 : kk >= 4 := by omega
    have ha1 := hfa (by omega)
    have hb1 := hfb c4
    have HXV : Hid (mvN d ⟨kk, na, nb, nlo, nhi, ncls, ntext⟩ = ⟨kk, na + d, nb + d, nlo, nhi, ncls, ntext⟩) := by unfold Hid mvN; rw [if_neg (by simp only; omega), if_pos c4]
    clear hfa hfb hk9
    rcases c4 with rfl | rfl
    ·
     go_upto_region 8 with (fail)
     have HB3 : Hid (Blk (w2.setCell ⟨bx, 1, none⟩ (.int .i64 (na + d))) bx #[.int .i64 4, .int .i64 (na + d), .int .i64 nb, .int .i64 nlo, .int .i64 nhi, .int .u64 (wd ncls 0), .int .u64 (wd ncls 1), .int .u64 (wd ncls 2), .int .u64 (wd ncls 3), .string (bs ntext)] 58) := HB2.out.setCell 1 (.int .i64 (na + d))
     have hbs : Below w.heap.size w2 (w2.setCell ⟨bx, 1, none⟩ (.int .i64 (na + d))) := (Below.refl _ _).setCell (p := ⟨bx, 1, none⟩) hlow _
     have HS3 : Hid (LaidS w w.heap.size (some ⟨ba, oa, none⟩) m _ L (w2.setCell ⟨bx, 1, none⟩ (.int .i64 (na + d)))) := ⟨HS2.out.bel.trans hbs, HS2.out.own.setCell_ne2 (fun k hk => by have := HOB.out k hk; show k ≠ bx; omega) _, HS2.out.row.below HA.out hbs hbs.size, Nat.le_trans HS2.out.low hbs.size⟩
     generalize w2.setCell ⟨bx, 1, none⟩ (.int .i64 (na + d)) = w3 at *
     clear hbs gf g0 g1 g2 g3 g4 g5 g6 g7 g8 g9
     have gg := HB3.out
     have gf := gg.frozen
     obtain ⟨g0, g1, g2, g3, g4, g5, g6, g7, g8, g9⟩ := ten_cells gg
     clear gg
     go_upto_region 10 with (fail)
     have HB4 : Hid (Blk (w3.setCell ⟨bx, 2, none⟩ (.int .i64 (nb + d))) bx #[.int .i64 4, .int .i64 (na + d), .int .i64 (nb + d), .int .i64 nlo, .int .i64 nhi, .int .u64 (wd ncls 0), .int .u64 (wd ncls 1), .int .u64 (wd ncls 2), .int .u64 (wd ncls 3), .string (bs ntext)] 58) := HB3.out.setCell 2 (.int .i64 (nb + d))
     have hbs : Below w.heap.size w3 (w3.setCell ⟨bx, 2, none⟩ (.int .i64 (nb + d))) := (Below.refl _ _).setCell (p := ⟨bx, 2, none⟩) hlow _
     have HS4 : Hid (LaidS w w.heap.size (some ⟨ba, oa, none⟩) m _ L (w3.setCell ⟨bx, 2, none⟩ (.int .i64 (nb + d)))) := ⟨HS3.out.bel.trans hbs, HS3.out.own.setCell_ne2 (fun k hk => by have := HOB.out k hk; show k ≠ bx; omega) _, HS3.out.row.below HA.out hbs hbs.size, Nat.le_trans HS3.out.low hbs.size⟩
     generalize w3.setCell ⟨bx, 2, none⟩ (.int .i64 (nb + d)) = w4 at *
     clear hbs
     have HBX : Hid (Blk w4 bx #[.int .i64 4, .int .i64 (na + d), .int .i64 (nb + d), .int .i64 nlo, .int .i64 nhi, .int .u64 (wd ncls 0), .int .u64 (wd ncls 1), .int .u64 (wd ncls 2), .int .u64 (wd ncls 3), .string (bs ntext)] 58) := HB4.out
     have HSX := HS4
     clear g0 g1 g2 g3 g4 g5 g6 g7 g8 g9 gf
     obtain ⟨x, hx⟩ : ∃ x, x = mvN d ⟨4, na, nb, nlo, nhi, ncls, ntext⟩ := ⟨_, rfl⟩
     have HXC : Hid (ndC x = #[.int .i64 4, .int .i64 (na + d), .int .i64 (nb + d), .int .i64 nlo, .int .i64 nhi, .int .u64 (wd ncls 0), .int .u64 (wd ncls 1), .int .u64 (wd ncls 2), .int .u64 (wd ncls 3), .string (bs ntext)]) := by unfold Hid; rw [hx, HXV.out]; rfl
     rw [<- hx] at HN
     clear hx HXV
     have HK1 := Lib.hid HBX.out
     clear HBX
     have gg := HK1.out
     obtain ⟨g0, g1, g2, g3, g4, g5, g6, g7, g8, g9⟩ := ten_cells gg
     clear gg
     have HS4 := Lib.hid (HSX.out.later ((Below.refl _ _).alloc (Nat.le_refl _) (.cells (ndC x) 58)))
     have HK := Lib.hid (Blk.new w4 (ndC x) 58)
     have hbase4 := HS4.out.low
     rw [HXC.out] at HS4 hbase4
     have HKC : Hid (Blk _ _ (ndC x) 58) := HK.out
     rw [HXC.out] at HK
     go_wp2_with (at_builtin; refine wpList_append_nd rfl _ _ rfl w.heap.size _ _ rfl HS4.out.own w4.heap.size x rfl (HXC.out.symm ▸ HK.out) HCN.out hbase4 ?_; intro v' w7 ho7 hb7; have HO7 := Lib.hid ho7; have HB7 := Lib.hid (hb7 _ (Nat.le_refl _)); clear ho7 hb7)
     have HS7 : Hid (LaidS w w.heap.size (some ⟨ba, oa, none⟩) m v' (L ++ [x]) w7) := ⟨HS4.out.bel.trans HB7.out, HO7.out, HS4.out.row.below HA.out HB7.out HB7.out.size, Nat.le_trans HS4.out.low HB7.out.size⟩
     go_roundw
     case rel => exact ⟨k + 1, by omega, by go_num, by rw [List.nil_append, HN.out]; exact HS7.out⟩
     case measure => simp [intOf]; omega
    ·
     go_upto_region 8 with (fail)
     have HB3 : Hid (Blk (w2.setCell ⟨bx, 1, none⟩ (.int .i64 (na + d))) bx #[.int .i64 5, .int .i64 (na + d), .int .i64 nb, .int .i64 nlo, .int .i64 nhi, .int .u64 (wd ncls 0), .int .u64 (wd ncls 1), .int .u64 (wd ncls 2), .int .u64 (wd ncls 3), .string (bs ntext)] 58) := HB2.out.setCell 1 (.int .i64 (na + d))
     have hbs : Below w.heap.size w2 (w2.setCell ⟨bx, 1, none⟩ (.int .i64 (na + d))) := (Below.refl _ _).setCell (p := ⟨bx, 1, none⟩) hlow _
     have HS3 : Hid (LaidS w w.heap.size (some ⟨ba, oa, none⟩) m _ L (w2.setCell ⟨bx, 1, none⟩ (.int .i64 (na + d)))) := ⟨HS2.out.bel.trans hbs, HS2.out.own.setCell_ne2 (fun k hk => by have := HOB.out k hk; show k ≠ bx; omega) _, HS2.out.row.below HA.out hbs hbs.size, Nat.le_trans HS2.out.low hbs.size⟩
     generalize w2.setCell ⟨bx, 1, none⟩ (.int .i64 (na + d)) = w3 at *
     clear hbs gf g0 g1 g2 g3 g4 g5 g6 g7 g8 g9
     have gg := HB3.out
     have gf := gg.frozen
     obtain ⟨g0, g1, g2, g3, g4, g5, g6, g7, g8, g9⟩ := ten_cells gg
     clear gg
     go_upto_region 10 with (fail)
     have HB4 : Hid (Blk (w3.setCell ⟨bx, 2, none⟩ (.int .i64 (nb + d))) bx #[.int .i64 5, .int .i64 (na + d), .int .i64 (nb + d), .int .i64 nlo, .int .i64 nhi, .int .u64 (wd ncls 0), .int .u64 (wd ncls 1), .int .u64 (wd ncls 2), .int .u64 (wd ncls 3), .string (bs ntext)] 58) := HB3.out.setCell 2 (.int .i64 (nb + d))
     have hbs : Below w.heap.size w3 (w3.setCell ⟨bx, 2, none⟩ (.int .i64 (nb + d))) := (Below.refl _ _).setCell (p := ⟨bx, 2, none⟩) hlow _
     have HS4 : Hid (LaidS w w.heap.size (some ⟨ba, oa, none⟩) m _ L (w3.setCell ⟨bx, 2, none⟩ (.int .i64 (nb + d)))) := ⟨HS3.out.bel.trans hbs, HS3.out.own.setCell_ne2 (fun k hk => by have := HOB.out k hk; show k ≠ bx; omega) _, HS3.out.row.below HA.out hbs hbs.size, Nat.le_trans HS3.out.low hbs.size⟩
     generalize w3.setCell ⟨bx, 2, none⟩ (.int .i64 (nb + d)) = w4 at *
     clear hbs
     have HBX : Hid (Blk w4 bx #[.int .i64 5, .int .i64 (na + d), .int .i64 (nb + d), .int .i64 nlo, .int .i64 nhi, .int .u64 (wd ncls 0), .int .u64 (wd ncls 1), .int .u64 (wd ncls 2), .int .u64 (wd ncls 3), .string (bs ntext)] 58) := HB4.out
     have HSX := HS4
     clear g0 g1 g2 g3 g4 g5 g6 g7 g8 g9 gf
     obtain ⟨x, hx⟩ : ∃ x, x = mvN d ⟨5, na, nb, nlo, nhi, ncls, ntext⟩ := ⟨_, rfl⟩
     have HXC : Hid (ndC x = #[.int .i64 5, .int .i64 (na + d), .int .i64 (nb + d), .int .i64 nlo, .int .i64 nhi, .int .u64 (wd ncls 0), .int .u64 (wd ncls 1), .int .u64 (wd ncls 2), .int .u64 (wd ncls 3), .string (bs ntext)]) := by unfold Hid; rw [hx, HXV.out]; rfl
     rw [<- hx] at HN
     clear hx HXV
     have HK1 := Lib.hid HBX.out
     clear HBX
     have gg := HK1.out
     obtain ⟨g0, g1, g2, g3, g4, g5, g6, g7, g8, g9⟩ := ten_cells gg
     clear gg
     have HS4 := Lib.hid (HSX.out.later ((Below.refl _ _).alloc (Nat.le_refl _) (.cells (ndC x) 58)))
     have HK := Lib.hid (Blk.new w4 (ndC x) 58)
     have hbase4 := HS4.out.low
     rw [HXC.out] at HS4 hbase4
     have HKC : Hid (Blk _ _ (ndC x) 58) := HK.out
     rw [HXC.out] at HK
     go_wp2_with (at_builtin; refine wpList_append_nd rfl _ _ rfl w.heap.size _ _ rfl HS4.out.own w4.heap.size x rfl (HXC.out.symm ▸ HK.out) HCN.out hbase4 ?_; intro v' w7 ho7 hb7; have HO7 := Lib.hid ho7; have HB7 := Lib.hid (hb7 _ (Nat.le_refl _)); clear ho7 hb7)
     have HS7 : Hid (LaidS w w.heap.size (some ⟨ba, oa, none⟩) m v' (L ++ [x]) w7) := ⟨HS4.out.bel.trans HB7.out, HO7.out, HS4.out.row.below HA.out HB7.out HB7.out.size, Nat.le_trans HS4.out.low HB7.out.size⟩
     go_roundw
     case rel => exact ⟨k + 1, by omega, by go_num, by rw [List.nil_append, HN.out]; exact HS7.out⟩
     case measure => simp [intOf]; omega
   ·by_cases h4 : kk >= 4
    ·have ha1 := hfa (by omega)
     have z4 : (kk == 4) = false := by rw [beq_eq_false_iff_ne]; omega
     have z5 : (kk == 5) = false := by rw [beq_eq_false_iff_ne]; omega
     have HXV : Hid (mvN d ⟨kk, na, nb, nlo, nhi, ncls, ntext⟩ = ⟨kk, na + d, nb, nlo, nhi, ncls, ntext⟩) := by unfold Hid mvN; rw [if_pos (by simp only; omega)]
     clear hfa hfb hk9 c4
     go_upto_region 8 with (fail)
     have HB3 : Hid (Blk (w2.setCell ⟨bx, 1, none⟩ (.int .i64 (na + d))) bx #[.int .i64 kk, .int .i64 (na + d), .int .i64 nb, .int .i64 nlo, .int .i64 nhi, .int .u64 (wd ncls 0), .int .u64 (wd ncls 1), .int .u64 (wd ncls 2), .int .u64 (wd ncls 3), .string (bs ntext)] 58) := HB2.out.setCell 1 (.int .i64 (na + d))
     have hbs : Below w.heap.size w2 (w2.setCell ⟨bx, 1, none⟩ (.int .i64 (na + d))) := (Below.refl _ _).setCell (p := ⟨bx, 1, none⟩) hlow _
     have HS3 : Hid (LaidS w w.heap.size (some ⟨ba, oa, none⟩) m _ L (w2.setCell ⟨bx, 1, none⟩ (.int .i64 (na + d)))) := ⟨HS2.out.bel.trans hbs, HS2.out.own.setCell_ne2 (fun k hk => by have := HOB.out k hk; show k ≠ bx; omega) _, HS2.out.row.below HA.out hbs hbs.size, Nat.le_trans HS2.out.low hbs.size⟩
     generalize w2.setCell ⟨bx, 1, none⟩ (.int .i64 (na + d)) = w3 at *
     clear hbs gf g0 g1 g2 g3 g4 g5 g6 g7 g8 g9
     have gg := HB3.out
     have gf := gg.frozen
     obtain ⟨g0, g1, g2, g3, g4, g5, g6, g7, g8, g9⟩ := ten_cells gg
     clear gg
     go_upto_region 10 with (fail)
     have HBX : Hid (Blk w3 bx #[.int .i64 kk, .int .i64 (na + d), .int .i64 nb, .int .i64 nlo, .int .i64 nhi, .int .u64 (wd ncls 0), .int .u64 (wd ncls 1), .int .u64 (wd ncls 2), .int .u64 (wd ncls 3), .string (bs ntext)] 58) := HB3.out
     have HSX := HS3
     clear g0 g1 g2 g3 g4 g5 g6 g7 g8 g9 gf
     obtain ⟨x, hx⟩ : ∃ x, x = mvN d ⟨kk, na, nb, nlo, nhi, ncls, ntext⟩ := ⟨_, rfl⟩
     have HXC : Hid (ndC x = #[.int .i64 kk, .int .i64 (na + d), .int .i64 nb, .int .i64 nlo, .int .i64 nhi, .int .u64 (wd ncls 0), .int .u64 (wd ncls 1), .int .u64 (wd ncls 2), .int .u64 (wd ncls 3), .string (bs ntext)]) := by unfold Hid; rw [hx, HXV.out]; rfl
     rw [<- hx] at HN
     clear hx HXV
     have HK1 := Lib.hid HBX.out
     clear HBX
     have gg := HK1.out
     obtain ⟨g0, g1, g2, g3, g4, g5, g6, g7, g8, g9⟩ := ten_cells gg
     clear gg
     have HS4 := Lib.hid (HSX.out.later ((Below.refl _ _).alloc (Nat.le_refl _) (.cells (ndC x) 58)))
     have HK := Lib.hid (Blk.new w3 (ndC x) 58)
     have hbase4 := HS4.out.low
     rw [HXC.out] at HS4 hbase4
     have HKC : Hid (Blk _ _ (ndC x) 58) := HK.out
     rw [HXC.out] at HK
     go_wp2_with (at_builtin; refine wpList_append_nd rfl _ _ rfl w.heap.size _ _ rfl HS4.out.own w3.heap.size x rfl (HXC.out.symm ▸ HK.out) HCN.out hbase4 ?_; intro v' w7 ho7 hb7; have HO7 := Lib.hid ho7; have HB7 := Lib.hid (hb7 _ (Nat.le_refl _)); clear ho7 hb7)
     have HS7 : Hid (LaidS w w.heap.size (some ⟨ba, oa, none⟩) m v' (L ++ [x]) w7) := ⟨HS4.out.bel.trans HB7.out, HO7.out, HS4.out.row.below HA.out HB7.out HB7.out.size, Nat.le_trans HS4.out.low HB7.out.size⟩
     go_roundw
     case rel => exact ⟨k + 1, by omega, by go_num, by rw [List.nil_append, HN.out]; exact HS7.out⟩
     case measure => simp [intOf]; omega
    ·have z4 : (kk == 4) = false := by rw [beq_eq_false_iff_ne]; omega
     have z5 : (kk == 5) = false := by rw [beq_eq_false_iff_ne]; omega
     have HXV : Hid (mvN d ⟨kk, na, nb, nlo, nhi, ncls, ntext⟩ = ⟨kk, na, nb, nlo, nhi, ncls, ntext⟩) := by unfold Hid mvN; rw [if_neg (by simp only; omega), if_neg (by simp only; omega)]
     clear hfa hfb hk9 c4
     go_upto_region 10 with (fail)
     have HBX : Hid (Blk w2 bx #[.int .i64 kk, .int .i64 na, .int .i64 nb, .int .i64 nlo, .int .i64 nhi, .int .u64 (wd ncls 0), .int .u64 (wd ncls 1), .int .u64 (wd ncls 2), .int .u64 (wd ncls 3), .string (bs ntext)] 58) := HB2.out
     have HSX := HS2
     clear g0 g1 g2 g3 g4 g5 g6 g7 g8 g9 gf
     obtain ⟨x, hx⟩ : ∃ x, x = mvN d ⟨kk, na, nb, nlo, nhi, ncls, ntext⟩ := ⟨_, rfl⟩
     have HXC : Hid (ndC x = #[.int .i64 kk, .int .i64 na, .int .i64 nb, .int .i64 nlo, .int .i64 nhi, .int .u64 (wd ncls 0), .int .u64 (wd ncls 1), .int .u64 (wd ncls 2), .int .u64 (wd ncls 3), .string (bs ntext)]) := by unfold Hid; rw [hx, HXV.out]; rfl
     rw [<- hx] at HN
     clear hx HXV
     have HK1 := Lib.hid HBX.out
     clear HBX
     have gg := HK1.out
     obtain ⟨g0, g1, g2, g3, g4, g5, g6, g7, g8, g9⟩ := ten_cells gg
     clear gg
     have HS4 := Lib.hid (HSX.out.later ((Below.refl _ _).alloc (Nat.le_refl _) (.cells (ndC x) 58)))
     have HK := Lib.hid (Blk.new w2 (ndC x) 58)
     have hbase4 := HS4.out.low
     rw [HXC.out] at HS4 hbase4
     have HKC : Hid (Blk _ _ (ndC x) 58) := HK.out
     rw [HXC.out] at HK
     go_wp2_with (at_builtin; refine wpList_append_nd rfl _ _ rfl w.heap.size _ _ rfl HS4.out.own w2.heap.size x rfl (HXC.out.symm ▸ HK.out) HCN.out hbase4 ?_; intro v' w7 ho7 hb7; have HO7 := Lib.hid ho7; have HB7 := Lib.hid (hb7 _ (Nat.le_refl _)); clear ho7 hb7)
     have HS7 : Hid (LaidS w w.heap.size (some ⟨ba, oa, none⟩) m v' (L ++ [x]) w7) := ⟨HS4.out.bel.trans HB7.out, HO7.out, HS4.out.row.below HA.out HB7.out HB7.out.size, Nat.le_trans HS4.out.low HB7.out.size⟩
     go_roundw
     case rel => exact ⟨k + 1, by omega, by go_num, by rw [List.nil_append, HN.out]; exact HS7.out⟩
     case measure => simp [intOf]; omega
  ·obtain rfl : k = m.length := by omega
   have HO : Hid (LaidPost w w.heap.size (m.map (mvN d)) (.returned u5) wr) := by
    have h := hs.own
    rw [List.take_length] at h
    exact ⟨_, rfl, h, hs.bel⟩
   clear hs
   go_wp2
   go_ret
   exact HO.out
theorem flat10_ones : ∀ (l : List Nd) (u : Value), u ∈ flat10 l -> u.oneCell' = true
 | [], u, h => by simp [flat10] at h
 | t :: l, u, h => by
  simp only [flat10, List.mem_append] at h
  rcases h with h | h
  ·simp only [ndC, List.mem_cons, List.not_mem_nil, or_false] at h
   rcases h with rfl | rfl | rfl | rfl | rfl | rfl | rfl | rfl | rfl | rfl <;> rfl
  ·exact flat10_ones l u h
theorem NRow.news {w : World} {b oo : Nat} {r : List Nd} (hr : NRow w (some ⟨b, oo, none⟩) r) : ∀ (j : Nat) (u : Value), (flat10 r)[j]? = some u -> w.cell? ((⟨b, oo, none⟩ : Addr).add j) = some u := by
 intro j u hu
 have hadd : (⟨b, oo, none⟩ : Addr).add j = ⟨b, oo + j, none⟩ := by unfold Addr.add; split <;> simp_all
 have hj : j < r.length * 10 := by
  rw [<- flat10_length]; exact (List.getElem?_eq_some_iff.1 hu).1
 obtain ⟨b', o', h1, _, h3⟩ := hr (j / 10) (by omega)
 cases h1
 have := h3 (j % 10) (by omega)
 rw [<- flat10_get r (j / 10) (j % 10) (by omega) (by omega), show j / 10 * 10 + j % 10 = j by omega, hu] at this
 rw [hadd, <- this]; congr 2; omega
set_option maxRecDepth 100000 in
theorem wp_append_nrow {w : World} {o : Oper} {a : Act} {K : Act -> World -> Prop} {Q : Exit -> Act -> World -> Prop} (s x : Operand)
 (ho : o.op = .call { callee := .builtin .append, args := #[s, x], argTypes := #[22, 22] })
 (base : Nat) (v : Value) (l : List Nd) (hs : a.eval s = v) (hown : OwnN w base v l)
 (b oo c : Nat) (r : List Nd) (hx : a.eval x = .slice (some ⟨b, oo, none⟩) r.length c) (hr : NRow w (some ⟨b, oo, none⟩) r) (hlen : l.length + r.length < 1073741824) (hbase : base <= w.heap.size)
 (h : ∀ v' w', OwnN w' base v' (l ++ r) -> (∀ B, B <= base -> Below B w w') -> K (a.put o.dst v') w') : o.wp Try.prog a w K Q := by
 obtain ⟨ib, hib, hz0, hz1, hz2⟩ := info_parts infoNd
 obtain ⟨v', w', hr2, h2, h3, _⟩ := run_append_own (P := Try.prog) w base 22 o.type 58 ib _ 10 88 Try.underlying22 hib hz0 hz1 hz2 rfl (by decide) v l.length (flat10 l) hown ⟨b, oo, none⟩ r.length c (flat10 r) (flat10_length r) hr.news (flat10_ones r) (by unfold maxLen; omega) (by omega) hbase
 have h2' : OwnN w' base v' (l ++ r) := by unfold OwnN; rw [List.length_append, flat10_append]; exact h2
 unfold Oper.wp execOp
 simp only [ho, resolve, invoke, builtin, Sem.run_bind, Sem.run_pure, Result.andThen_ok, List.map_toArray, List.map_cons, List.map_nil, hs, hx, hr2]
 exact h v' w' h2' fun B hB => (Below.refl B w).grown h3 (Nat.le_trans hB hbase) fun k hk => Nat.le_trans hB ((World.ownsRow.lt hown k hk).1)
theorem wpList_append_nrow {w : World} {ops : Array Oper} {rest : List Oper} {o : Oper} {a : Act} {Q : Exit -> Act -> World -> Prop} (hgd : o.guard = none) (s x : Operand)
 (ho : o.op = .call { callee := .builtin .append, args := #[s, x], argTypes := #[22, 22] })
 (base : Nat) (v : Value) (l : List Nd) (hs : a.eval s = v) (hown : OwnN w base v l)
 (b oo c : Nat) (r : List Nd) (hx : a.eval x = .slice (some ⟨b, oo, none⟩) r.length c) (hr : NRow w (some ⟨b, oo, none⟩) r) (hlen : l.length + r.length < 1073741824) (hbase : base <= w.heap.size)
 (h : ∀ v' w', OwnN w' base v' (l ++ r) -> (∀ B, B <= base -> Below B w w') -> wpList Try.prog ops Q rest (a.put o.dst v') w') : wpList Try.prog ops Q (o :: rest) a w :=
 wpList_plain hgd fun K hK => wp_append_nrow s x ho base v l hs hown b oo c r hx hr hlen hbase fun v' w' h1 h2 => hK _ _ (h v' w' h1 h2)
theorem OwnN.blk {w : World} {base : Nat} {v : Value} {l : List Nd} (h : OwnN w base v l) (hne : 0 < l.length) :
 ∃ g cap cur, v = .slice (some ⟨g, 0, none⟩) l.length cap /\ l.length <= cap /\ base <= g /\ Blk w g cur 58 /\ l.length * 10 <= cur.size /\ ∀ j, j < l.length * 10 -> cur[j]? = (flat10 l)[j]? := by
 obtain ⟨q1, ⟨_, hn⟩ | ⟨g, cap, cur, hv, hb, hg, hc, hm, hs, ht⟩⟩ := h
 ·omega
 ·have hsz : l.length * 10 <= cur.size := by rw [hs]; exact Nat.mul_le_mul_right 10 hc
  refine ⟨g, cap, cur, hv, hc, hb, hg, hsz, fun j hj => ?_⟩
  rw [<- ht, List.getElem?_take, if_pos hj]; simp
def intsV (l : List Int) : List Value := l.map fun c : Int => Value.int .i64 c
theorem intsV_snoc (l : List Int) (c : Int) : intsV (l ++ [c]) = intsV l ++ [.int .i64 c] := by simp [intsV]
theorem intsV_length (l : List Int) : (intsV l).length = l.length := by simp [intsV]
def IRow (w : World) (a : Option Addr) (l : List Int) : Prop :=
 ∀ i, i < l.length -> ∃ b off, a = some ⟨b, off, none⟩ /\ b < w.heap.size /\ w.cell? ⟨b, off + i, none⟩ = some (.int .i64 (l.getD i 0))
theorem IRow.later {w w' : World} {a : Option Addr} {l : List Int} (h : IRow w a l) (hb : Below w.heap.size w w') : IRow w' a l := fun i hi => by
 obtain ⟨b, off, ha, hlt, hc⟩ := h i hi
 exact ⟨b, off, ha, Nat.lt_of_lt_of_le hlt hb.size, (hb.cell (p := ⟨b, off + i, none⟩) hlt).trans hc⟩
def OwnI (w : World) (base : Nat) (v : Value) (l : List Int) : Prop := w.ownsRow base 3 1 v l.length (intsV l)
theorem OwnI.nil (w : World) (base : Nat) : OwnI w base (.slice none 0 0) [] := ⟨rfl, .inl ⟨rfl, rfl⟩⟩
theorem OwnI.later {w w' : World} {base : Nat} {v : Value} {l : List Int} (h : OwnI w base v l) (hb : Below w.heap.size w w') : OwnI w' base v l := ownsRow_later h hb
theorem OwnI.row {w : World} {base : Nat} {v : Value} {l : List Int} (h : OwnI w base v l) : ∃ a cap, v = .slice a l.length cap /\ IRow w a l := by
 obtain ⟨_, ⟨hv, hn⟩ | ⟨g, cap, cur, hv, hb, hg, hc, hm, hs, ht⟩⟩ := h
 ·have : l = [] := List.length_eq_zero_iff.1 hn
  subst this
  exact ⟨none, 0, hv, fun i hi => by simp at hi⟩
 ·refine ⟨_, cap, hv, fun i hi => ⟨g, 0, rfl, Blk.lt (w := w) (b := g) (vs := cur) (t := 3) hg, ?_⟩⟩
  rw [Blk.cell (w := w) (b := g) (vs := cur) (t := 3) hg]
  have : (intsV l)[i]? = some (.int .i64 (l.getD i 0)) := by unfold intsV; simp [hi]
  rw [<- this, <- ht, List.getElem?_take, if_pos (by omega)]
  simp
theorem infoI : (Try.prog.info? 3).map (fun i => (i.zero, i.size, i.bytes)) = some (some (.int .i64 0), 1, 8) := by kernel_rfl
set_option maxRecDepth 100000 in
theorem wp_append_int {w : World} {o : Oper} {a : Act} {K : Act -> World -> Prop} {Q : Exit -> Act -> World -> Prop} (s x : Operand)
 (ho : o.op = .call { callee := .builtin .append, args := #[s, x], argTypes := #[70, 70] })
 (base : Nat) (v : Value) (l : List Int) (hs : a.eval s = v) (hown : OwnI w base v l)
 (b : Nat) (c : Int) (hx : a.eval x = .slice (some ⟨b, 0, none⟩) 1 1) (hnew : Blk w b #[.int .i64 c] 3) (hlen : l.length < 1073741824) (hbase : base <= w.heap.size)
 (h : ∀ v' w', OwnI w' base v' (l ++ [c]) -> w.grownBy w' v.ownBlock -> (v'.ownBlock = v.ownBlock \/ ∃ g', v'.ownBlock = some g' /\ w.heap.size <= g') -> K (a.put o.dst v') w') : o.wp Try.prog a w K Q := by
 obtain ⟨ib, hib, hz0, hz1, hz2⟩ := info_parts infoI
 have hnews : ∀ (j : Nat) (u : Value), [Value.int .i64 c][j]? = some u -> w.cell? ((⟨b, 0, none⟩ : Addr).add j) = some u := by
  intro j u hu
  cases j with
  | zero => simp at hu; subst hu; exact hnew.cell 0
  | succ j => simp at hu
 have hone : ∀ u ∈ [Value.int .i64 c], u.oneCell' = true := by simp [Value.oneCell']
 obtain ⟨v', w', hr, h2, h3, _⟩ := run_append_own (P := Try.prog) w base 70 o.type 3 ib _ 1 8 Try.underlying70 hib hz0 hz1 hz2 rfl (by decide) v l.length (intsV l) hown ⟨b, 0, none⟩ 1 1 [.int .i64 c] rfl hnews hone (by unfold maxLen; omega) (by omega) hbase
 have h2' : OwnI w' base v' (l ++ [c]) := by unfold OwnI; rw [List.length_append, intsV_snoc]; exact h2
 have place : v'.ownBlock = v.ownBlock \/ ∃ g', v'.ownBlock = some g' /\ w.heap.size <= g' := by
  rcases hown.2 with ⟨rfl, hn⟩ | ⟨g', cap, cur, rfl, hbg, hgg, hnc, hcm, hcs, htake⟩
  ·have hl0 : l = [] := List.length_eq_zero_iff.1 hn
   subst hl0
   obtain ⟨v2, w2, hr2, h4, _, _⟩ := run_append_own (P := Try.prog) w w.heap.size 70 o.type 3 ib _ 1 8 Try.underlying70 hib hz0 hz1 hz2 rfl (by decide) (.slice none 0 0) 0 [] ⟨rfl, .inl ⟨rfl, rfl⟩⟩ ⟨b, 0, none⟩ 1 1 [.int .i64 c] rfl hnews hone (by unfold maxLen; omega) (by omega) (Nat.le_refl _)
   rw [hr] at hr2
   simp only [Result.ok.injEq] at hr2
   obtain ⟨rfl, rfl⟩ := hr2
   rcases h4.2 with ⟨_, h5⟩ | ⟨g2, cap2, cur2, hv, hb2, _⟩
   ·omega
   ·exact .inr ⟨g2, by rw [hv]; rfl, hb2⟩
  ·by_cases hroom : l.length + 1 <= cap
   ·have hr2 := run_append_room (P := Try.prog) w 70 o.type 3 ib Try.underlying70 hib g' l.length cap cur hgg ⟨b, 0, none⟩ 1 1 [.int .i64 c] (by rw [hz1]; rfl) hnews hone hroom (by rw [hz1, hcs]; simp; omega)
    rw [hr] at hr2
    simp only [Result.ok.injEq] at hr2
    exact .inl (by rw [hr2.1]; rfl)
   ·have holds := World.ownsRow.cells (w := w) (base := base) (e := 3) (size := 1) (v := .slice (some ⟨g', 0, none⟩) l.length cap) (n := l.length) (xs := intsV l) hown (g := g') rfl
    have hr2 := run_append_grow (P := Try.prog) w 70 o.type 3 ib _ Try.underlying70 hib hz0 ⟨g', 0, none⟩ l.length cap (intsV l) (by rw [hz1, intsV_length, Nat.mul_one]) holds ⟨b, 0, none⟩ 1 1 [.int .i64 c] (by rw [hz1]; rfl) hnews (by omega) (by omega) (by rw [hz2]; exact growslice_fits (by omega) (by omega))
    rw [hr] at hr2
    simp only [Result.ok.injEq] at hr2
    exact .inr ⟨w.heap.size, by rw [hr2.1]; rfl, Nat.le_refl _⟩
 unfold Oper.wp execOp
 simp only [ho, resolve, invoke, builtin, Sem.run_bind, Sem.run_pure, Result.andThen_ok, List.map_toArray, List.map_cons, List.map_nil, hs, hx, hr]
 exact h v' w' h2' h3 place
theorem wpList_append_int {w : World} {ops : Array Oper} {rest : List Oper} {o : Oper} {a : Act} {Q : Exit -> Act -> World -> Prop} (hgd : o.guard = none) (s x : Operand)
 (ho : o.op = .call { callee := .builtin .append, args := #[s, x], argTypes := #[70, 70] })
 (base : Nat) (v : Value) (l : List Int) (hs : a.eval s = v) (hown : OwnI w base v l)
 (b : Nat) (c : Int) (hx : a.eval x = .slice (some ⟨b, 0, none⟩) 1 1) (hnew : Blk w b #[.int .i64 c] 3) (hlen : l.length < 1073741824) (hbase : base <= w.heap.size)
 (h : ∀ v' w', OwnI w' base v' (l ++ [c]) -> w.grownBy w' v.ownBlock -> (v'.ownBlock = v.ownBlock \/ ∃ g', v'.ownBlock = some g' /\ w.heap.size <= g') -> wpList Try.prog ops Q rest (a.put o.dst v') w') : wpList Try.prog ops Q (o :: rest) a w :=
 wpList_plain hgd fun K hK => wp_append_int s x ho base v l hs hown b c hx hnew hlen hbase fun v' w' h1 h2 h3 => hK _ _ (h v' w' h1 h2 h3)
def natI (l : List Nat) : List Int := l.map (fun n : Nat => (n : Int))
theorem natI_length (l : List Nat) : (natI l).length = l.length := List.length_map _
theorem natI_get {l : List Nat} {i : Nat} (h : i < l.length) : (natI l).getD i 0 = ((l.getD i 0 : Nat) : Int) := by
 unfold natI
 rw [List.getD_eq_getElem?_getD, List.getD_eq_getElem?_getD, List.getElem?_map, List.getElem?_eq_getElem h]; rfl
end Go.Proofs.Ytidoofdofdhjpaa
