/- The document's ways of words: a frame's; all nodes'; a word's. Walked. -/
import Derived.Test.YtidoofdofdhjpaaM40
import Derived.Test.YtidoofdofdhjpaaM30
import Derived.Test.YtidoofdofdhjpaaM35
import Derived.Test.YtidoofdofdhjpaaM11
namespace Go.Proofs.Ytidoofdofdhjpaa
open Go Go.RowKit
set_option linter.unusedVariables false
set_option linter.unusedSimpArgs false
set_option maxRecDepth 100000
def PtV (x : Nat) (v : Value) (w : World) : Prop := ∃ b o, v = .pointer (some ⟨b, o, none⟩) /\ b < w.heap.size /\ w.cell? ⟨b, o, none⟩ = some (.int .i64 (x : Int))
theorem PtV.later (x : Nat) : ∀ v w w', PtV x v w -> Below w.heap.size w w' -> PtV x v w' := fun v w w' ⟨b, o, h1, h2, h3⟩ hb => ⟨b, o, h1, Nat.lt_of_lt_of_le h2 hb.size, (hb.cell (p := ⟨b, o, none⟩) h2).trans h3⟩
def EqV (x : Nat) (v : Value) (w : World) : Prop := v = .int .i64 (x : Int)
theorem EqV.later (x : Nat) : ∀ v w w', EqV x v w -> Below w.heap.size w w' -> EqV x v w' := fun v w w' h hb => h
theorem row8_val {l : List Nd} {i : Nat} {W : Wd} {a p : Nat} (hF : Form l) (hi : i < l.length) (hk : (atN l i).kind = 8) (hp : (atN l i).a.toNat = p) : rowL (W.length + 1) (rowV l i W a) = if a < W.length /\ a + 1 + (W.getD a 0).toNat <= W.length then (rowL (W.length + 1) fun _ => 0).set (a + 1 + (W.getD a 0).toNat) ((rowV l p W (a + 1) (a + 1 + (W.getD a 0).toNat) : Nat) : Int) else rowL (W.length + 1) fun _ => 0 := by
 by_cases h : a < W.length /\ a + 1 + (W.getD a 0).toNat <= W.length
 ·rw [if_pos h, rowL_set (by omega)]
  refine rowL_congr fun b hb => ?_
  rw [row_k8 hF hi (by omega) hk, hp]
  by_cases e : b = a + 1 + (W.getD a 0).toNat
  ·rw [if_pos ⟨h.1, e⟩, if_pos e, e]
  ·rw [if_neg (fun h' => e h'.2), if_neg e]
 ·rw [if_neg h]
  refine rowL_congr fun b hb => ?_
  rw [row_k8 hF hi (by omega) hk, if_neg (fun h' => h ⟨h'.1, by omega⟩)]
set_option maxHeartbeats 16000000 in
theorem rends_k8 {A : Option Addr} {l : List Nd} {c i : Nat} (hF : Form l) (hi : i < l.length) (hk : (atN l i).kind = 8) (hE : ∀ j, j < i -> EndR A l c j) : EndR A l c i := fun uw W a w hrow hw hn ha => by
 obtain ⟨p, q, hp, hp1, hp2, hq1, hq2, hq⟩ := rparts hF hi (by omega)
 rw [row8_val hF hi hk hp2]
 have HEP := Lib.hid (hE p hp)
 have HV : Hid ((atN l i).a = (p : Int)) := hp1
 clear hp hp1 hp2 hq1 hq2 hq hE hF
 have hw0 := hw
 by_cases hal : a < W.length
 ·have HD : Hid (∀ w', IsW W uw w' -> ∃ b o c', uw = .slice (some ⟨b, o, none⟩) W.length c' /\ w'.cell? ⟨b, o + a, none⟩ = some (.int .u8 (((W.getD a 0).toNat : Nat) : Int))) := fun w' h => by
   rcases h with ⟨h1, h2⟩ | ⟨b, off, cap, h1, h2, h5, h3, h4⟩
   ·subst h2; exact absurd hal (by simp)
   ·exact ⟨b, off, cap, h1, h4 a hal⟩
  have hy := (W.getD a 0).toNat_lt
  generalize (W.getD a 0).toNat = y at *
  obtain ⟨to_, hto⟩ : ∃ to_, a + 1 + y = to_ := ⟨_, rfl⟩
  rw [hto]
  have HTO := Lib.hid hto
  have hto1 : (a : Int) + 1 + (y : Int) = (to_ : Int) := by omega
  by_cases hto2 : to_ <= W.length
  ·rw [if_pos ⟨hal, hto2⟩]
   obtain ⟨xv, hxv⟩ : ∃ xv, rowV l p W (a + 1) to_ = xv := ⟨_, rfl⟩
   rw [hxv]
   obtain ⟨ba, oa, rfl, -, -⟩ := hrow i hi
   have hb1 := (Below.refl w.heap.size w).alloc (Nat.le_refl _) (.cells #[.slice (some ⟨ba, oa, none⟩) l.length c] 24)
   have hz1 := Blk.new w #[.slice (some ⟨ba, oa, none⟩) l.length c] 24
   have hs1 : (w.alloc (.cells #[.slice (some ⟨ba, oa, none⟩) l.length c] 24)).heap.size = w.heap.size + 1 := World.size_alloc _ _
   have hrow1 := hrow.later hb1
   have hw1 := hw.later hb1
   have g := hrow1.at hi rfl
   have hil : (i : Int) < (l.length : Int) := by omega
   have hi0 : ¬ (i : Int) < 0 := by omega
   have hnz : (W.length : Int) <= 1000 := by omega
   have hbz : (a : Int) <= (W.length : Int) := by omega
   have hbz2 : (a : Int) < (W.length : Int) + 1 := by omega
   have hbz0 : ¬ (a : Int) < 0 := by omega
   have HN := Lib.hid hn
   have HA := Lib.hid ha
   obtain ⟨Au, cu, rfl, hcu⟩ := hw.sl
   have hn : atN l i = l.getD i nd0 := rfl
   rw [hn] at hk
   (try rw [hn] at HV)
   generalize l.getD i nd0 = nd at *
   clear hrow hw hn ha hi
   go_enter Try.func39, Try.ntmps39
   go_upto_region 1 with (fail)
   generalize w.alloc (.cells #[.slice (some ⟨ba, oa, none⟩) l.length c] 24) = w1 at *
   have hb2 := (Below.refl w1.heap.size w1).alloc (Nat.le_refl _) (.cells (ndC nd) 58)
   have hz2 := Blk.new w1 (ndC nd) 58
   rw [hs1] at hz2
   have HE2 : Hid (RnS (some ⟨ba, oa, none⟩) l c (.slice Au W.length cu) W w.heap.size nd (w1.alloc (.cells (ndC nd) 58)) (w1.alloc (.cells (ndC nd) 58))) := ⟨⟨hrow1.later hb2, hw1.later hb2, hz1.later hb2⟩, hz2, Below.refl _ _⟩
   have HB3 := Lib.hid (hb1.trans (hb2.mono hb1.size))
   have d0 := hz1.cell 0
   simp at d0
   clear hb1 hz1 hb2 hz2 hrow1 hw1
   obtain ⟨kk, na, nb, nlo, nhi, ncls, ntext⟩ := nd
   unfold At10 at g
   simp only at g hk HV
   subst hk
   obtain ⟨g0, g1, g2, g3, g4, g5, g6, g7, g8, g9⟩ := g
   have hndc : ndC ⟨8, na, nb, nlo, nhi, ncls, ntext⟩ = #[.int .i64 8, .int .i64 na, .int .i64 nb, .int .i64 nlo, .int .i64 nhi, .int .u64 (wd ncls 0), .int .u64 (wd ncls 1), .int .u64 (wd ncls 2), .int .u64 (wd ncls 3), .string (bs ntext)] := rfl
   rw [hndc] at HE2 HB3
   clear hndc
   go_upto_region 2 with (fail)
   clear g0 g1 g2 g3 g4 g5 g6 g7 g8 g9 d0
   generalize w1.alloc (.cells #[.int .i64 8, .int .i64 na, .int .i64 nb, .int .i64 nlo, .int .i64 nhi, .int .u64 (wd ncls 0), .int .u64 (wd ncls 1), .int .u64 (wd ncls 2), .int .u64 (wd ncls 3), .string (bs ntext)] 58) = w2 at *
   have HZ := Lib.hid (rzero_any (.slice Au W.length cu) W w2 HE2.out.t.wd HN.out)
   go_wp2_with fail
   refine HZ.out.mono ?_; rintro e w3 ⟨v3, rfl, ho3, hb3⟩
   have HE3 : Hid (EnO (some ⟨ba, oa, none⟩) l c (.slice Au W.length cu) W w.heap.size ⟨8, na, nb, nlo, nhi, ncls, ntext⟩ (rowL (W.length + 1) fun _ => 0) v3 w2 w3) := ⟨HE2.out.later hb3, ho3⟩
   clear ho3 hb3 HZ
   have gg := HE3.out.s.x
   obtain ⟨g0, g1, g2, g3, g4, g5, g6, g7, g8, g9⟩ := ten_cells gg
   clear gg
   clear hw0
   obtain rfl := HV.out
   have halz : (a : Int) < (W.length : Int) := by omega
   have htoz : (to_ : Int) <= (W.length : Int) := by omega
   obtain ⟨b8, o8, c8, hv8, hcy⟩ := HD.out _ HE3.out.s.t.wd
   obtain ⟨rfl, -, rfl⟩ := Value.slice.inj hv8
   clear hv8 HD HV HE2 hto
   have halz2 : (to_ : Int) < (W.length : Int) + 1 := by omega
   have hbb : (to_ : Int) < (to_ : Int) + 1 := by omega
   obtain ⟨gO, c8, hv8, hbg8, -, -, -, -⟩ := HE3.out.own.put (k := to_) (by rw [rowL_length]; omega) ((0 : Nat) : Int)
   rw [rowL_length] at hv8
   subst hv8
   clear hbg8
   have hn1 : (to_ : Int) <= (cu : Int) := by omega
   have HC : Hid (∀ w', EnO (some ⟨ba, oa, none⟩) l c (.slice (some ⟨b8, o8, none⟩) W.length cu) W w.heap.size ⟨8, (p : Int), nb, nlo, nhi, ncls, ntext⟩ (rowL (W.length + 1) fun _ => 0) (.slice (some ⟨gO, 0, none⟩) (W.length + 1) c8) w2 w' -> Calls Try.prog 39 #[.agg #[.slice (some ⟨ba, oa, none⟩) l.length c], .int .i64 (p : Int), .slice (some ⟨b8, o8, none⟩) to_ cu, .int .i64 ((a : Int) + 1)] w' (RwN (rowL (to_ + 1) (rowV l p (W.take to_) (a + 1))) w')) := fun w' h => by
    have hl : (W.take to_).length = to_ := by rw [List.length_take]; omega
    have := HEP.out (.slice (some ⟨b8, o8, none⟩) to_ cu) (W.take to_) (a + 1) w' h.s.t.row (h.s.t.wd.taken hto2) (by rw [hl]; have := HN.out; omega) (by rw [hl]; omega)
    rw [hl, show ((a + 1 : Nat) : Int) = (a : Int) + 1 by omega] at this
    exact this
   have HXV : Hid (rowV l p (W.take to_) (a + 1) to_ = xv) := by unfold Hid; rw [row_take (Nat.le_refl _)]; exact hxv
   have HTO2 := Lib.hid hto2
   have hxz : xv <= 2 := by rw [<- hxv]; exact rowV_le
   clear hxv hto2
   go_upto_region 24 with (fail)
   clear g0 g1 g2 g3 g4 g5 g6 g7 g8 g9
   refine wp_region_stable_last (S := (EnO (some ⟨ba, oa, none⟩) l c (.slice (some ⟨b8, o8, none⟩) W.length cu) W w.heap.size ⟨8, (p : Int), nb, nlo, nhi, ncls, ntext⟩ (rowL (W.length + 1) fun _ => 0) (.slice (some ⟨gO, 0, none⟩) (W.length + 1) c8) w2)) (hSt := fun _ _ h hb => h.later hb) (plan := [[(10, none)], [(11, none)], [(4, none)], [(9, none)], [(146, some 3)], [(2, none)], [(11, none)], [(148, some 5), (149, some 6)], [(3, none)], [(151, some 8)], [(145, some 2), (147, some 4), (150, some 7), (152, some 9)], [(11, none)], [(153, some 10), (154, some 11)], [(155, some 12)], [(143, some 0), (144, some 1)]]) rfl (by kernel_rfl) (by kernel_rfl) (by kernel_rfl) (by kernel_rfl) ?hS ?_
   rotate_left
   simp only [List.dropLast]
   iterate 10 first
    | (refine chain_skip (by rfl) (by rfl) ?_)
    | (apply chain_want (by rfl)
       ·intro act wx hS hr
        simp at hr
        have gg := hS.s.x
        obtain ⟨g0, g1, g2, g3, g4, g5, g6, g7, g8, g9⟩ := ten_cells gg
        have d0 := hS.s.t.box.cell 0
        simp at d0
        clear gg
        go_simp
        (try go_ints)
        first
         | exact Done.same
      )
   (refine chain_rel (OwV w2.heap.size (rowL (to_ + 1) (rowV l p (W.take to_) (a + 1)))) (OwV.later w2.heap.size (rowL (to_ + 1) (rowV l p (W.take to_) (a + 1)))) (by rfl) ?_ ?_
    ·intro act wx hS hr
     simp at hr
     have gg := hS.s.x
     obtain ⟨g0, g1, g2, g3, g4, g5, g6, g7, g8, g9⟩ := ten_cells gg
     have d0 := hS.s.t.box.cell 0
     simp at d0
     clear gg
     all_goals go_simp
     ((refine (HC.out _ hS).mono ?_); rintro e w5 ⟨x5, rfl, hx5, hb5⟩; exact Done.rel hb5 (OwnI.mono hx5 hS.s.bel.size))
   )
   iterate 1 first
    | (refine chain_skip (by rfl) (by rfl) ?_)
    | (apply chain_want (by rfl)
       ·intro act wx hS hr
        simp at hr
        have gg := hS.s.x
        obtain ⟨g0, g1, g2, g3, g4, g5, g6, g7, g8, g9⟩ := ten_cells gg
        have d0 := hS.s.t.box.cell 0
        simp at d0
        clear gg
        go_simp
        (try go_ints)
        first
         | exact Done.same
      )
   (refine chain_rel (PtV xv) (PtV.later xv) (by rfl) ?_ ?_
    ·intro act wx hS hr
     simp at hr
     have gg := hS.s.x
     obtain ⟨g0, g1, g2, g3, g4, g5, g6, g7, g8, g9⟩ := ten_cells gg
     have d0 := hS.s.t.box.cell 0
     simp at d0
     clear gg
     obtain ⟨⟨u5, hr2, hu5⟩, hr3⟩ := hr
     obtain ⟨A5, c5, rfl, hr5⟩ := OwnI.rd hu5
     obtain ⟨b5, o5, rfl, hlt5, hc5⟩ := hr5 to_ (by rw [rowL_length]; exact Nat.lt_succ_self _)
     rw [rowL_at (Nat.lt_succ_self _), HXV.out] at hc5
     simp only [rowL_length] at hr2
     all_goals go_simp
     exact Done.rel (p := PtV xv) (Below.refl _ _) ⟨_, _, rfl, hlt5, hc5⟩
   )
   (refine chain_rel (EqV xv) (EqV.later xv) (by rfl) ?_ ?_
    ·intro act wx hS hr
     simp at hr
     have gg := hS.s.x
     obtain ⟨g0, g1, g2, g3, g4, g5, g6, g7, g8, g9⟩ := ten_cells gg
     have d0 := hS.s.t.box.cell 0
     simp at d0
     clear gg
     obtain ⟨u5, hr2, b5, o5, rfl, hlt5, hc5⟩ := hr
     all_goals go_simp
     exact Done.rel (Below.refl _ _) rfl
   )
   iterate 1 first
    | (refine chain_skip (by rfl) (by rfl) ?_)
    | (apply chain_want (by rfl)
       ·intro act wx hS hr
        simp at hr
        have gg := hS.s.x
        obtain ⟨g0, g1, g2, g3, g4, g5, g6, g7, g8, g9⟩ := ten_cells gg
        have d0 := hS.s.t.box.cell 0
        simp at d0
        clear gg
        go_simp
        (try go_ints)
        first
         | exact Done.same
      )
   show ∀ w', _ -> _
   intro w9 hw9
   simp [Act.put]
   case hS => exact HE3.out
   intro v5 h5 v12 h12 v13 h13
   unfold EqV at h13
   subst h13
   obtain ⟨gP, c9, hv9, hbg9, -, hset9, hcl9, hfz9⟩ := hw9.own.put (k := to_) (by rw [rowL_length]; have := HTO2.out; omega) ((xv : Nat) : Int)
   rw [rowL_length] at hv9
   obtain ⟨e1, -, -⟩ := Value.slice.inj hv9
   cases e1
   have HPF : Hid (RwN ((rowL (W.length + 1) fun _ => 0).set to_ ((xv : Nat) : Int)) w (.returned (.slice (some ⟨gO, 0, none⟩) (W.length + 1) c8)) (w9.setCell ⟨gO, to_, none⟩ (.int .i64 ((xv : Nat) : Int)))) := ⟨_, rfl, hset9.mono HB3.out.size, HB3.out.trans ((hw9.s.bel.setCell (p := ⟨gO, to_, none⟩) hbg9 _).mono HB3.out.size)⟩
   clear h5 h12 hv9 hbg9 hset9 hw9 HE3 HC
   go_wp2
   go_ret
   exact HPF.out
  ·rw [if_neg (fun h => hto2 h.2)]
   obtain ⟨ba, oa, rfl, -, -⟩ := hrow i hi
   have hb1 := (Below.refl w.heap.size w).alloc (Nat.le_refl _) (.cells #[.slice (some ⟨ba, oa, none⟩) l.length c] 24)
   have hz1 := Blk.new w #[.slice (some ⟨ba, oa, none⟩) l.length c] 24
   have hs1 : (w.alloc (.cells #[.slice (some ⟨ba, oa, none⟩) l.length c] 24)).heap.size = w.heap.size + 1 := World.size_alloc _ _
   have hrow1 := hrow.later hb1
   have hw1 := hw.later hb1
   have g := hrow1.at hi rfl
   have hil : (i : Int) < (l.length : Int) := by omega
   have hi0 : ¬ (i : Int) < 0 := by omega
   have hnz : (W.length : Int) <= 1000 := by omega
   have hbz : (a : Int) <= (W.length : Int) := by omega
   have hbz2 : (a : Int) < (W.length : Int) + 1 := by omega
   have hbz0 : ¬ (a : Int) < 0 := by omega
   have HN := Lib.hid hn
   have HA := Lib.hid ha
   obtain ⟨Au, cu, rfl, hcu⟩ := hw.sl
   have hn : atN l i = l.getD i nd0 := rfl
   rw [hn] at hk
   (try rw [hn] at HV)
   generalize l.getD i nd0 = nd at *
   clear hrow hw hn ha hi
   go_enter Try.func39, Try.ntmps39
   go_upto_region 1 with (fail)
   generalize w.alloc (.cells #[.slice (some ⟨ba, oa, none⟩) l.length c] 24) = w1 at *
   have hb2 := (Below.refl w1.heap.size w1).alloc (Nat.le_refl _) (.cells (ndC nd) 58)
   have hz2 := Blk.new w1 (ndC nd) 58
   rw [hs1] at hz2
   have HE2 : Hid (RnS (some ⟨ba, oa, none⟩) l c (.slice Au W.length cu) W w.heap.size nd (w1.alloc (.cells (ndC nd) 58)) (w1.alloc (.cells (ndC nd) 58))) := ⟨⟨hrow1.later hb2, hw1.later hb2, hz1.later hb2⟩, hz2, Below.refl _ _⟩
   have HB3 := Lib.hid (hb1.trans (hb2.mono hb1.size))
   have d0 := hz1.cell 0
   simp at d0
   clear hb1 hz1 hb2 hz2 hrow1 hw1
   obtain ⟨kk, na, nb, nlo, nhi, ncls, ntext⟩ := nd
   unfold At10 at g
   simp only at g hk HV
   subst hk
   obtain ⟨g0, g1, g2, g3, g4, g5, g6, g7, g8, g9⟩ := g
   have hndc : ndC ⟨8, na, nb, nlo, nhi, ncls, ntext⟩ = #[.int .i64 8, .int .i64 na, .int .i64 nb, .int .i64 nlo, .int .i64 nhi, .int .u64 (wd ncls 0), .int .u64 (wd ncls 1), .int .u64 (wd ncls 2), .int .u64 (wd ncls 3), .string (bs ntext)] := rfl
   rw [hndc] at HE2 HB3
   clear hndc
   go_upto_region 2 with (fail)
   clear g0 g1 g2 g3 g4 g5 g6 g7 g8 g9 d0
   generalize w1.alloc (.cells #[.int .i64 8, .int .i64 na, .int .i64 nb, .int .i64 nlo, .int .i64 nhi, .int .u64 (wd ncls 0), .int .u64 (wd ncls 1), .int .u64 (wd ncls 2), .int .u64 (wd ncls 3), .string (bs ntext)] 58) = w2 at *
   have HZ := Lib.hid (rzero_any (.slice Au W.length cu) W w2 HE2.out.t.wd HN.out)
   go_wp2_with fail
   refine HZ.out.mono ?_; rintro e w3 ⟨v3, rfl, ho3, hb3⟩
   have HE3 : Hid (EnO (some ⟨ba, oa, none⟩) l c (.slice Au W.length cu) W w.heap.size ⟨8, na, nb, nlo, nhi, ncls, ntext⟩ (rowL (W.length + 1) fun _ => 0) v3 w2 w3) := ⟨HE2.out.later hb3, ho3⟩
   clear ho3 hb3 HZ
   have gg := HE3.out.s.x
   obtain ⟨g0, g1, g2, g3, g4, g5, g6, g7, g8, g9⟩ := ten_cells gg
   clear gg
   clear hw0
   have halz : (a : Int) < (W.length : Int) := by omega
   have htoz : ¬ (to_ : Int) <= (W.length : Int) := by omega
   obtain ⟨b8, o8, c8, hv8, hcy⟩ := HD.out _ HE3.out.s.t.wd
   obtain ⟨rfl, -, rfl⟩ := Value.slice.inj hv8
   have HOX := Lib.hid HE3.out.own
   have HBX := Lib.hid HE3.out.s.bel
   clear hv8 HD HV HE2 hto HE3
   have HPF : Hid (RwN (rowL (W.length + 1) fun _ => 0) w (.returned v3) w3) := ⟨_, rfl, HOX.out.mono HB3.out.size, HB3.out.trans (HBX.out.mono HB3.out.size)⟩
   clear HOX HBX
   go_wp2
   go_ret
   exact HPF.out
 ·rw [if_neg (fun h => hal h.1)]
  obtain ⟨ba, oa, rfl, -, -⟩ := hrow i hi
  have hb1 := (Below.refl w.heap.size w).alloc (Nat.le_refl _) (.cells #[.slice (some ⟨ba, oa, none⟩) l.length c] 24)
  have hz1 := Blk.new w #[.slice (some ⟨ba, oa, none⟩) l.length c] 24
  have hs1 : (w.alloc (.cells #[.slice (some ⟨ba, oa, none⟩) l.length c] 24)).heap.size = w.heap.size + 1 := World.size_alloc _ _
  have hrow1 := hrow.later hb1
  have hw1 := hw.later hb1
  have g := hrow1.at hi rfl
  have hil : (i : Int) < (l.length : Int) := by omega
  have hi0 : ¬ (i : Int) < 0 := by omega
  have hnz : (W.length : Int) <= 1000 := by omega
  have hbz : (a : Int) <= (W.length : Int) := by omega
  have hbz2 : (a : Int) < (W.length : Int) + 1 := by omega
  have hbz0 : ¬ (a : Int) < 0 := by omega
  have HN := Lib.hid hn
  have HA := Lib.hid ha
  obtain ⟨Au, cu, rfl, hcu⟩ := hw.sl
  have hn : atN l i = l.getD i nd0 := rfl
  rw [hn] at hk
  (try rw [hn] at HV)
  generalize l.getD i nd0 = nd at *
  clear hrow hw hn ha hi
  go_enter Try.func39, Try.ntmps39
  go_upto_region 1 with (fail)
  generalize w.alloc (.cells #[.slice (some ⟨ba, oa, none⟩) l.length c] 24) = w1 at *
  have hb2 := (Below.refl w1.heap.size w1).alloc (Nat.le_refl _) (.cells (ndC nd) 58)
  have hz2 := Blk.new w1 (ndC nd) 58
  rw [hs1] at hz2
  have HE2 : Hid (RnS (some ⟨ba, oa, none⟩) l c (.slice Au W.length cu) W w.heap.size nd (w1.alloc (.cells (ndC nd) 58)) (w1.alloc (.cells (ndC nd) 58))) := ⟨⟨hrow1.later hb2, hw1.later hb2, hz1.later hb2⟩, hz2, Below.refl _ _⟩
  have HB3 := Lib.hid (hb1.trans (hb2.mono hb1.size))
  have d0 := hz1.cell 0
  simp at d0
  clear hb1 hz1 hb2 hz2 hrow1 hw1
  obtain ⟨kk, na, nb, nlo, nhi, ncls, ntext⟩ := nd
  unfold At10 at g
  simp only at g hk HV
  subst hk
  obtain ⟨g0, g1, g2, g3, g4, g5, g6, g7, g8, g9⟩ := g
  have hndc : ndC ⟨8, na, nb, nlo, nhi, ncls, ntext⟩ = #[.int .i64 8, .int .i64 na, .int .i64 nb, .int .i64 nlo, .int .i64 nhi, .int .u64 (wd ncls 0), .int .u64 (wd ncls 1), .int .u64 (wd ncls 2), .int .u64 (wd ncls 3), .string (bs ntext)] := rfl
  rw [hndc] at HE2 HB3
  clear hndc
  go_upto_region 2 with (fail)
  clear g0 g1 g2 g3 g4 g5 g6 g7 g8 g9 d0
  generalize w1.alloc (.cells #[.int .i64 8, .int .i64 na, .int .i64 nb, .int .i64 nlo, .int .i64 nhi, .int .u64 (wd ncls 0), .int .u64 (wd ncls 1), .int .u64 (wd ncls 2), .int .u64 (wd ncls 3), .string (bs ntext)] 58) = w2 at *
  have HZ := Lib.hid (rzero_any (.slice Au W.length cu) W w2 HE2.out.t.wd HN.out)
  go_wp2_with fail
  refine HZ.out.mono ?_; rintro e w3 ⟨v3, rfl, ho3, hb3⟩
  have HE3 : Hid (EnO (some ⟨ba, oa, none⟩) l c (.slice Au W.length cu) W w.heap.size ⟨8, na, nb, nlo, nhi, ncls, ntext⟩ (rowL (W.length + 1) fun _ => 0) v3 w2 w3) := ⟨HE2.out.later hb3, ho3⟩
  clear ho3 hb3 HZ
  have gg := HE3.out.s.x
  obtain ⟨g0, g1, g2, g3, g4, g5, g6, g7, g8, g9⟩ := ten_cells gg
  clear gg
  clear hw0
  have hz : ¬ (a : Int) < (W.length : Int) := by omega
  have HOX := Lib.hid HE3.out.own
  have HBX := Lib.hid HE3.out.s.bel
  clear HE3 HE2
  have HPF : Hid (RwN (rowL (W.length + 1) fun _ => 0) w (.returned v3) w3) := ⟨_, rfl, HOX.out.mono HB3.out.size, HB3.out.trans (HBX.out.mono HB3.out.size)⟩
  clear HOX HBX
  go_wp2
  go_ret
  exact HPF.out
theorem row9_val {l : List Nd} {i : Nat} {W : Wd} {a p : Nat} (hF : Form l) (hi : i < l.length) (hk : (atN l i).kind = 9) (hp : (atN l i).a.toNat = p) : rowL (W.length + 1) (rowV l i W a) = if a + 1 < W.length /\ a + 2 + 256 * (W.getD a 0).toNat + (W.getD (a + 1) 0).toNat <= W.length then (rowL (W.length + 1) fun _ => 0).set (a + 2 + 256 * (W.getD a 0).toNat + (W.getD (a + 1) 0).toNat) ((rowV l p W (a + 2) (a + 2 + 256 * (W.getD a 0).toNat + (W.getD (a + 1) 0).toNat) : Nat) : Int) else rowL (W.length + 1) fun _ => 0 := by
 by_cases h : a + 1 < W.length /\ a + 2 + 256 * (W.getD a 0).toNat + (W.getD (a + 1) 0).toNat <= W.length
 ·rw [if_pos h, rowL_set (by omega)]
  refine rowL_congr fun b hb => ?_
  rw [row_k9 hF hi (by omega) hk, hp]
  by_cases e : b = a + 2 + 256 * (W.getD a 0).toNat + (W.getD (a + 1) 0).toNat
  ·rw [if_pos ⟨h.1, e⟩, if_pos e, e]
  ·rw [if_neg (fun h' => e h'.2), if_neg e]
 ·rw [if_neg h]
  refine rowL_congr fun b hb => ?_
  rw [row_k9 hF hi (by omega) hk, if_neg (fun h' => h ⟨h'.1, by omega⟩)]
set_option maxHeartbeats 16000000 in
theorem rends_k9 {A : Option Addr} {l : List Nd} {c i : Nat} (hF : Form l) (hi : i < l.length) (hk : (atN l i).kind = 9) (hE : ∀ j, j < i -> EndR A l c j) : EndR A l c i := fun uw W a w hrow hw hn ha => by
 obtain ⟨p, q, hp, hp1, hp2, hq1, hq2, hq⟩ := rparts hF hi (by omega)
 rw [row9_val hF hi hk hp2]
 have HEP := Lib.hid (hE p hp)
 have HV : Hid ((atN l i).a = (p : Int)) := hp1
 clear hp hp1 hp2 hq1 hq2 hq hE hF
 have hw0 := hw
 by_cases hal : a + 1 < W.length
 ·have HD : Hid (∀ w', IsW W uw w' -> ∃ b o c', uw = .slice (some ⟨b, o, none⟩) W.length c' /\ w'.cell? ⟨b, o + a, none⟩ = some (.int .u8 (((W.getD a 0).toNat : Nat) : Int)) /\ w'.cell? ⟨b, o + (a + 1), none⟩ = some (.int .u8 (((W.getD (a + 1) 0).toNat : Nat) : Int))) := fun w' h => by
   rcases h with ⟨h1, h2⟩ | ⟨b, off, cap, h1, h2, h5, h3, h4⟩
   ·subst h2; exact absurd hal (by simp)
   ·exact ⟨b, off, cap, h1, h4 a (by omega), h4 (a + 1) hal⟩
  have hy := (W.getD a 0).toNat_lt
  have hy9 := (W.getD (a + 1) 0).toNat_lt
  generalize (W.getD a 0).toNat = y at *
  generalize (W.getD (a + 1) 0).toNat = z at *
  obtain ⟨to_, hto⟩ : ∃ to_, a + 2 + 256 * y + z = to_ := ⟨_, rfl⟩
  rw [hto]
  have HTO := Lib.hid hto
  have hto1 : (a : Int) + 2 + 256 * (y : Int) + (z : Int) = (to_ : Int) := by omega
  by_cases hto2 : to_ <= W.length
  ·rw [if_pos ⟨hal, hto2⟩]
   obtain ⟨xv, hxv⟩ : ∃ xv, rowV l p W (a + 2) to_ = xv := ⟨_, rfl⟩
   rw [hxv]
   obtain ⟨ba, oa, rfl, -, -⟩ := hrow i hi
   have hb1 := (Below.refl w.heap.size w).alloc (Nat.le_refl _) (.cells #[.slice (some ⟨ba, oa, none⟩) l.length c] 24)
   have hz1 := Blk.new w #[.slice (some ⟨ba, oa, none⟩) l.length c] 24
   have hs1 : (w.alloc (.cells #[.slice (some ⟨ba, oa, none⟩) l.length c] 24)).heap.size = w.heap.size + 1 := World.size_alloc _ _
   have hrow1 := hrow.later hb1
   have hw1 := hw.later hb1
   have g := hrow1.at hi rfl
   have hil : (i : Int) < (l.length : Int) := by omega
   have hi0 : ¬ (i : Int) < 0 := by omega
   have hnz : (W.length : Int) <= 1000 := by omega
   have hbz : (a : Int) <= (W.length : Int) := by omega
   have hbz2 : (a : Int) < (W.length : Int) + 1 := by omega
   have hbz0 : ¬ (a : Int) < 0 := by omega
   have HN := Lib.hid hn
   have HA := Lib.hid ha
   obtain ⟨Au, cu, rfl, hcu⟩ := hw.sl
   have hn : atN l i = l.getD i nd0 := rfl
   rw [hn] at hk
   (try rw [hn] at HV)
   generalize l.getD i nd0 = nd at *
   clear hrow hw hn ha hi
   go_enter Try.func39, Try.ntmps39
   go_upto_region 1 with (fail)
   generalize w.alloc (.cells #[.slice (some ⟨ba, oa, none⟩) l.length c] 24) = w1 at *
   have hb2 := (Below.refl w1.heap.size w1).alloc (Nat.le_refl _) (.cells (ndC nd) 58)
   have hz2 := Blk.new w1 (ndC nd) 58
   rw [hs1] at hz2
   have HE2 : Hid (RnS (some ⟨ba, oa, none⟩) l c (.slice Au W.length cu) W w.heap.size nd (w1.alloc (.cells (ndC nd) 58)) (w1.alloc (.cells (ndC nd) 58))) := ⟨⟨hrow1.later hb2, hw1.later hb2, hz1.later hb2⟩, hz2, Below.refl _ _⟩
   have HB3 := Lib.hid (hb1.trans (hb2.mono hb1.size))
   have d0 := hz1.cell 0
   simp at d0
   clear hb1 hz1 hb2 hz2 hrow1 hw1
   obtain ⟨kk, na, nb, nlo, nhi, ncls, ntext⟩ := nd
   unfold At10 at g
   simp only at g hk HV
   subst hk
   obtain ⟨g0, g1, g2, g3, g4, g5, g6, g7, g8, g9⟩ := g
   have hndc : ndC ⟨9, na, nb, nlo, nhi, ncls, ntext⟩ = #[.int .i64 9, .int .i64 na, .int .i64 nb, .int .i64 nlo, .int .i64 nhi, .int .u64 (wd ncls 0), .int .u64 (wd ncls 1), .int .u64 (wd ncls 2), .int .u64 (wd ncls 3), .string (bs ntext)] := rfl
   rw [hndc] at HE2 HB3
   clear hndc
   go_upto_region 2 with (fail)
   clear g0 g1 g2 g3 g4 g5 g6 g7 g8 g9 d0
   generalize w1.alloc (.cells #[.int .i64 9, .int .i64 na, .int .i64 nb, .int .i64 nlo, .int .i64 nhi, .int .u64 (wd ncls 0), .int .u64 (wd ncls 1), .int .u64 (wd ncls 2), .int .u64 (wd ncls 3), .string (bs ntext)] 58) = w2 at *
   have HZ := Lib.hid (rzero_any (.slice Au W.length cu) W w2 HE2.out.t.wd HN.out)
   go_wp2_with fail
   refine HZ.out.mono ?_; rintro e w3 ⟨v3, rfl, ho3, hb3⟩
   have HE3 : Hid (EnO (some ⟨ba, oa, none⟩) l c (.slice Au W.length cu) W w.heap.size ⟨9, na, nb, nlo, nhi, ncls, ntext⟩ (rowL (W.length + 1) fun _ => 0) v3 w2 w3) := ⟨HE2.out.later hb3, ho3⟩
   clear ho3 hb3 HZ
   have gg := HE3.out.s.x
   obtain ⟨g0, g1, g2, g3, g4, g5, g6, g7, g8, g9⟩ := ten_cells gg
   clear gg
   clear hw0
   obtain rfl := HV.out
   have halz : (a : Int) + 1 < (W.length : Int) := by omega
   have halz3 : (a : Int) < (W.length : Int) := by omega
   have htoz : (to_ : Int) <= (W.length : Int) := by omega
   obtain ⟨b8, o8, c8, hv8, hcy, hcz⟩ := HD.out _ HE3.out.s.t.wd
   obtain ⟨rfl, -, rfl⟩ := Value.slice.inj hv8
   have HCL : Hid (∀ w', IsW W (.slice (some ⟨b8, o8, none⟩) W.length cu) w' -> w'.cell? ⟨b8, o8 + a, none⟩ = some (.int .u8 (y : Int)) /\ w'.cell? ⟨b8, o8 + (a + 1), none⟩ = some (.int .u8 (z : Int)) /\ w'.cell? ⟨b8, o8 + a + 1, none⟩ = some (.int .u8 (z : Int))) := fun w' h => by
    obtain ⟨b, o, c', h1, h2, h3⟩ := HD.out w' h
    cases h1
    exact ⟨h2, h3, h3⟩
   clear hcy hcz hv8 HD
   go_upto_region 27 with (fail)
   clear g0 g1 g2 g3 g4 g5 g6 g7 g8 g9
   refine wp_region_stable (S := (EnO (some ⟨ba, oa, none⟩) l c (.slice (some ⟨b8, o8, none⟩) W.length cu) W w.heap.size ⟨9, (p : Int), nb, nlo, nhi, ncls, ntext⟩ (rowL (W.length + 1) fun _ => 0) v3 w2)) (hSt := fun _ _ h hb => h.later hb) (plan := [[(3, none)], [(165, some 0)], [(2, none)], [(3, none)], [(167, some 2), (168, some 3)], [(169, some 4)], [(170, some 5)], [(171, some 6)], [(166, some 1), (172, some 7)], [(2, none)], [(3, none)], [(175, some 10)], [(174, some 9), (176, some 11)], [(177, some 12)], [(178, some 13)], [(173, some 8), (179, some 14)], [(180, some 15)]]) (by kernel_rfl) (by kernel_rfl) (by kernel_rfl) ?hS ?_
   rotate_left
   iterate 17 first
    | (refine chain_skip (by rfl) (by rfl) ?_)
    | (apply chain_want (by rfl)
       ·intro act wx hS hr
        simp at hr
        obtain ⟨hcy, hcz, hcz2⟩ := HCL.out _ hS.s.t.wd
        go_simp
        (try go_ints)
        first
         | exact Done.same
      )
   show ∀ w', _ -> _
   intro w4 hw4
   simp [Act.put]
   case hS => exact HE3.out
   clear HE3 HCL
   have HE3 := Lib.hid hw4
   clear hw4
   have gg := HE3.out.s.x
   obtain ⟨g0, g1, g2, g3, g4, g5, g6, g7, g8, g9⟩ := ten_cells gg
   clear gg
   clear HV HE2 hto
   have halz2 : (to_ : Int) < (W.length : Int) + 1 := by omega
   have hbb : (to_ : Int) < (to_ : Int) + 1 := by omega
   obtain ⟨gO, c8, hv8, hbg8, -, -, -, -⟩ := HE3.out.own.put (k := to_) (by rw [rowL_length]; omega) ((0 : Nat) : Int)
   rw [rowL_length] at hv8
   subst hv8
   clear hbg8
   have hn1 : (to_ : Int) <= (cu : Int) := by omega
   have HC : Hid (∀ w', EnO (some ⟨ba, oa, none⟩) l c (.slice (some ⟨b8, o8, none⟩) W.length cu) W w.heap.size ⟨9, (p : Int), nb, nlo, nhi, ncls, ntext⟩ (rowL (W.length + 1) fun _ => 0) (.slice (some ⟨gO, 0, none⟩) (W.length + 1) c8) w2 w' -> Calls Try.prog 39 #[.agg #[.slice (some ⟨ba, oa, none⟩) l.length c], .int .i64 (p : Int), .slice (some ⟨b8, o8, none⟩) to_ cu, .int .i64 ((a : Int) + 2)] w' (RwN (rowL (to_ + 1) (rowV l p (W.take to_) (a + 2))) w')) := fun w' h => by
    have hl : (W.take to_).length = to_ := by rw [List.length_take]; omega
    have := HEP.out (.slice (some ⟨b8, o8, none⟩) to_ cu) (W.take to_) (a + 2) w' h.s.t.row (h.s.t.wd.taken hto2) (by rw [hl]; have := HN.out; omega) (by rw [hl]; omega)
    rw [hl, show ((a + 2 : Nat) : Int) = (a : Int) + 2 by omega] at this
    exact this
   have HXV : Hid (rowV l p (W.take to_) (a + 2) to_ = xv) := by unfold Hid; rw [row_take (Nat.le_refl _)]; exact hxv
   have HTO2 := Lib.hid hto2
   have hxz : xv <= 2 := by rw [<- hxv]; exact rowV_le
   clear hxv hto2
   go_upto_region 29 with (fail)
   clear g0 g1 g2 g3 g4 g5 g6 g7 g8 g9
   refine wp_region_stable_last (S := (EnO (some ⟨ba, oa, none⟩) l c (.slice (some ⟨b8, o8, none⟩) W.length cu) W w.heap.size ⟨9, (p : Int), nb, nlo, nhi, ncls, ntext⟩ (rowL (W.length + 1) fun _ => 0) (.slice (some ⟨gO, 0, none⟩) (W.length + 1) c8) w2)) (hSt := fun _ _ h hb => h.later hb) (plan := [[(10, none)], [(12, none)], [(4, none)], [(9, none)], [(188, some 3)], [(2, none)], [(12, none)], [(190, some 5), (191, some 6)], [(3, none)], [(193, some 8)], [(187, some 2), (189, some 4), (192, some 7), (194, some 9)], [(12, none)], [(195, some 10), (196, some 11)], [(197, some 12)], [(185, some 0), (186, some 1)]]) rfl (by kernel_rfl) (by kernel_rfl) (by kernel_rfl) (by kernel_rfl) ?hS ?_
   rotate_left
   simp only [List.dropLast]
   iterate 10 first
    | (refine chain_skip (by rfl) (by rfl) ?_)
    | (apply chain_want (by rfl)
       ·intro act wx hS hr
        simp at hr
        have gg := hS.s.x
        obtain ⟨g0, g1, g2, g3, g4, g5, g6, g7, g8, g9⟩ := ten_cells gg
        have d0 := hS.s.t.box.cell 0
        simp at d0
        clear gg
        go_simp
        (try go_ints)
        first
         | exact Done.same
      )
   (refine chain_rel (OwV w2.heap.size (rowL (to_ + 1) (rowV l p (W.take to_) (a + 2)))) (OwV.later w2.heap.size (rowL (to_ + 1) (rowV l p (W.take to_) (a + 2)))) (by rfl) ?_ ?_
    ·intro act wx hS hr
     simp at hr
     have gg := hS.s.x
     obtain ⟨g0, g1, g2, g3, g4, g5, g6, g7, g8, g9⟩ := ten_cells gg
     have d0 := hS.s.t.box.cell 0
     simp at d0
     clear gg
     all_goals go_simp
     ((refine (HC.out _ hS).mono ?_); rintro e w5 ⟨x5, rfl, hx5, hb5⟩; exact Done.rel hb5 (OwnI.mono hx5 hS.s.bel.size))
   )
   iterate 1 first
    | (refine chain_skip (by rfl) (by rfl) ?_)
    | (apply chain_want (by rfl)
       ·intro act wx hS hr
        simp at hr
        have gg := hS.s.x
        obtain ⟨g0, g1, g2, g3, g4, g5, g6, g7, g8, g9⟩ := ten_cells gg
        have d0 := hS.s.t.box.cell 0
        simp at d0
        clear gg
        go_simp
        (try go_ints)
        first
         | exact Done.same
      )
   (refine chain_rel (PtV xv) (PtV.later xv) (by rfl) ?_ ?_
    ·intro act wx hS hr
     simp at hr
     have gg := hS.s.x
     obtain ⟨g0, g1, g2, g3, g4, g5, g6, g7, g8, g9⟩ := ten_cells gg
     have d0 := hS.s.t.box.cell 0
     simp at d0
     clear gg
     obtain ⟨⟨u5, hr2, hu5⟩, hr3⟩ := hr
     obtain ⟨A5, c5, rfl, hr5⟩ := OwnI.rd hu5
     obtain ⟨b5, o5, rfl, hlt5, hc5⟩ := hr5 to_ (by rw [rowL_length]; exact Nat.lt_succ_self _)
     rw [rowL_at (Nat.lt_succ_self _), HXV.out] at hc5
     simp only [rowL_length] at hr2
     all_goals go_simp
     exact Done.rel (p := PtV xv) (Below.refl _ _) ⟨_, _, rfl, hlt5, hc5⟩
   )
   (refine chain_rel (EqV xv) (EqV.later xv) (by rfl) ?_ ?_
    ·intro act wx hS hr
     simp at hr
     have gg := hS.s.x
     obtain ⟨g0, g1, g2, g3, g4, g5, g6, g7, g8, g9⟩ := ten_cells gg
     have d0 := hS.s.t.box.cell 0
     simp at d0
     clear gg
     obtain ⟨u5, hr2, b5, o5, rfl, hlt5, hc5⟩ := hr
     all_goals go_simp
     exact Done.rel (Below.refl _ _) rfl
   )
   iterate 1 first
    | (refine chain_skip (by rfl) (by rfl) ?_)
    | (apply chain_want (by rfl)
       ·intro act wx hS hr
        simp at hr
        have gg := hS.s.x
        obtain ⟨g0, g1, g2, g3, g4, g5, g6, g7, g8, g9⟩ := ten_cells gg
        have d0 := hS.s.t.box.cell 0
        simp at d0
        clear gg
        go_simp
        (try go_ints)
        first
         | exact Done.same
      )
   show ∀ w', _ -> _
   intro w9 hw9
   simp [Act.put]
   case hS => exact HE3.out
   intro v5 h5 v12 h12 v13 h13
   unfold EqV at h13
   subst h13
   obtain ⟨gP, c9, hv9, hbg9, -, hset9, hcl9, hfz9⟩ := hw9.own.put (k := to_) (by rw [rowL_length]; have := HTO2.out; omega) ((xv : Nat) : Int)
   rw [rowL_length] at hv9
   obtain ⟨e1, -, -⟩ := Value.slice.inj hv9
   cases e1
   have HPF : Hid (RwN ((rowL (W.length + 1) fun _ => 0).set to_ ((xv : Nat) : Int)) w (.returned (.slice (some ⟨gO, 0, none⟩) (W.length + 1) c8)) (w9.setCell ⟨gO, to_, none⟩ (.int .i64 ((xv : Nat) : Int)))) := ⟨_, rfl, hset9.mono HB3.out.size, HB3.out.trans ((hw9.s.bel.setCell (p := ⟨gO, to_, none⟩) hbg9 _).mono HB3.out.size)⟩
   clear h5 h12 hv9 hbg9 hset9 hw9 HE3 HC
   go_wp2
   go_ret
   exact HPF.out
  ·rw [if_neg (fun h => hto2 h.2)]
   obtain ⟨ba, oa, rfl, -, -⟩ := hrow i hi
   have hb1 := (Below.refl w.heap.size w).alloc (Nat.le_refl _) (.cells #[.slice (some ⟨ba, oa, none⟩) l.length c] 24)
   have hz1 := Blk.new w #[.slice (some ⟨ba, oa, none⟩) l.length c] 24
   have hs1 : (w.alloc (.cells #[.slice (some ⟨ba, oa, none⟩) l.length c] 24)).heap.size = w.heap.size + 1 := World.size_alloc _ _
   have hrow1 := hrow.later hb1
   have hw1 := hw.later hb1
   have g := hrow1.at hi rfl
   have hil : (i : Int) < (l.length : Int) := by omega
   have hi0 : ¬ (i : Int) < 0 := by omega
   have hnz : (W.length : Int) <= 1000 := by omega
   have hbz : (a : Int) <= (W.length : Int) := by omega
   have hbz2 : (a : Int) < (W.length : Int) + 1 := by omega
   have hbz0 : ¬ (a : Int) < 0 := by omega
   have HN := Lib.hid hn
   have HA := Lib.hid ha
   obtain ⟨Au, cu, rfl, hcu⟩ := hw.sl
   have hn : atN l i = l.getD i nd0 := rfl
   rw [hn] at hk
   (try rw [hn] at HV)
   generalize l.getD i nd0 = nd at *
   clear hrow hw hn ha hi
   go_enter Try.func39, Try.ntmps39
   go_upto_region 1 with (fail)
   generalize w.alloc (.cells #[.slice (some ⟨ba, oa, none⟩) l.length c] 24) = w1 at *
   have hb2 := (Below.refl w1.heap.size w1).alloc (Nat.le_refl _) (.cells (ndC nd) 58)
   have hz2 := Blk.new w1 (ndC nd) 58
   rw [hs1] at hz2
   have HE2 : Hid (RnS (some ⟨ba, oa, none⟩) l c (.slice Au W.length cu) W w.heap.size nd (w1.alloc (.cells (ndC nd) 58)) (w1.alloc (.cells (ndC nd) 58))) := ⟨⟨hrow1.later hb2, hw1.later hb2, hz1.later hb2⟩, hz2, Below.refl _ _⟩
   have HB3 := Lib.hid (hb1.trans (hb2.mono hb1.size))
   have d0 := hz1.cell 0
   simp at d0
   clear hb1 hz1 hb2 hz2 hrow1 hw1
   obtain ⟨kk, na, nb, nlo, nhi, ncls, ntext⟩ := nd
   unfold At10 at g
   simp only at g hk HV
   subst hk
   obtain ⟨g0, g1, g2, g3, g4, g5, g6, g7, g8, g9⟩ := g
   have hndc : ndC ⟨9, na, nb, nlo, nhi, ncls, ntext⟩ = #[.int .i64 9, .int .i64 na, .int .i64 nb, .int .i64 nlo, .int .i64 nhi, .int .u64 (wd ncls 0), .int .u64 (wd ncls 1), .int .u64 (wd ncls 2), .int .u64 (wd ncls 3), .string (bs ntext)] := rfl
   rw [hndc] at HE2 HB3
   clear hndc
   go_upto_region 2 with (fail)
   clear g0 g1 g2 g3 g4 g5 g6 g7 g8 g9 d0
   generalize w1.alloc (.cells #[.int .i64 9, .int .i64 na, .int .i64 nb, .int .i64 nlo, .int .i64 nhi, .int .u64 (wd ncls 0), .int .u64 (wd ncls 1), .int .u64 (wd ncls 2), .int .u64 (wd ncls 3), .string (bs ntext)] 58) = w2 at *
   have HZ := Lib.hid (rzero_any (.slice Au W.length cu) W w2 HE2.out.t.wd HN.out)
   go_wp2_with fail
   refine HZ.out.mono ?_; rintro e w3 ⟨v3, rfl, ho3, hb3⟩
   have HE3 : Hid (EnO (some ⟨ba, oa, none⟩) l c (.slice Au W.length cu) W w.heap.size ⟨9, na, nb, nlo, nhi, ncls, ntext⟩ (rowL (W.length + 1) fun _ => 0) v3 w2 w3) := ⟨HE2.out.later hb3, ho3⟩
   clear ho3 hb3 HZ
   have gg := HE3.out.s.x
   obtain ⟨g0, g1, g2, g3, g4, g5, g6, g7, g8, g9⟩ := ten_cells gg
   clear gg
   clear hw0
   have halz : (a : Int) + 1 < (W.length : Int) := by omega
   have halz3 : (a : Int) < (W.length : Int) := by omega
   have htoz : ¬ (to_ : Int) <= (W.length : Int) := by omega
   obtain ⟨b8, o8, c8, hv8, hcy, hcz⟩ := HD.out _ HE3.out.s.t.wd
   obtain ⟨rfl, -, rfl⟩ := Value.slice.inj hv8
   have HCL : Hid (∀ w', IsW W (.slice (some ⟨b8, o8, none⟩) W.length cu) w' -> w'.cell? ⟨b8, o8 + a, none⟩ = some (.int .u8 (y : Int)) /\ w'.cell? ⟨b8, o8 + (a + 1), none⟩ = some (.int .u8 (z : Int)) /\ w'.cell? ⟨b8, o8 + a + 1, none⟩ = some (.int .u8 (z : Int))) := fun w' h => by
    obtain ⟨b, o, c', h1, h2, h3⟩ := HD.out w' h
    cases h1
    exact ⟨h2, h3, h3⟩
   clear hcy hcz hv8 HD
   go_upto_region 27 with (fail)
   clear g0 g1 g2 g3 g4 g5 g6 g7 g8 g9
   refine wp_region_stable (S := (EnO (some ⟨ba, oa, none⟩) l c (.slice (some ⟨b8, o8, none⟩) W.length cu) W w.heap.size ⟨9, na, nb, nlo, nhi, ncls, ntext⟩ (rowL (W.length + 1) fun _ => 0) v3 w2)) (hSt := fun _ _ h hb => h.later hb) (plan := [[(3, none)], [(165, some 0)], [(2, none)], [(3, none)], [(167, some 2), (168, some 3)], [(169, some 4)], [(170, some 5)], [(171, some 6)], [(166, some 1), (172, some 7)], [(2, none)], [(3, none)], [(175, some 10)], [(174, some 9), (176, some 11)], [(177, some 12)], [(178, some 13)], [(173, some 8), (179, some 14)], [(180, some 15)]]) (by kernel_rfl) (by kernel_rfl) (by kernel_rfl) ?hS ?_
   rotate_left
   iterate 17 first
    | (refine chain_skip (by rfl) (by rfl) ?_)
    | (apply chain_want (by rfl)
       ·intro act wx hS hr
        simp at hr
        obtain ⟨hcy, hcz, hcz2⟩ := HCL.out _ hS.s.t.wd
        go_simp
        (try go_ints)
        first
         | exact Done.same
      )
   show ∀ w', _ -> _
   intro w4 hw4
   simp [Act.put]
   case hS => exact HE3.out
   clear HE3 HCL
   have HE3 := Lib.hid hw4
   clear hw4
   have gg := HE3.out.s.x
   obtain ⟨g0, g1, g2, g3, g4, g5, g6, g7, g8, g9⟩ := ten_cells gg
   clear gg
   have HOX := Lib.hid HE3.out.own
   have HBX := Lib.hid HE3.out.s.bel
   clear HV HE2 hto HE3
   have HPF : Hid (RwN (rowL (W.length + 1) fun _ => 0) w (.returned v3) w4) := ⟨_, rfl, HOX.out.mono HB3.out.size, HB3.out.trans (HBX.out.mono HB3.out.size)⟩
   clear HOX HBX
   go_wp2
   go_ret
   exact HPF.out
 ·rw [if_neg (fun h => hal h.1)]
  obtain ⟨ba, oa, rfl, -, -⟩ := hrow i hi
  have hb1 := (Below.refl w.heap.size w).alloc (Nat.le_refl _) (.cells #[.slice (some ⟨ba, oa, none⟩) l.length c] 24)
  have hz1 := Blk.new w #[.slice (some ⟨ba, oa, none⟩) l.length c] 24
  have hs1 : (w.alloc (.cells #[.slice (some ⟨ba, oa, none⟩) l.length c] 24)).heap.size = w.heap.size + 1 := World.size_alloc _ _
  have hrow1 := hrow.later hb1
  have hw1 := hw.later hb1
  have g := hrow1.at hi rfl
  have hil : (i : Int) < (l.length : Int) := by omega
  have hi0 : ¬ (i : Int) < 0 := by omega
  have hnz : (W.length : Int) <= 1000 := by omega
  have hbz : (a : Int) <= (W.length : Int) := by omega
  have hbz2 : (a : Int) < (W.length : Int) + 1 := by omega
  have hbz0 : ¬ (a : Int) < 0 := by omega
  have HN := Lib.hid hn
  have HA := Lib.hid ha
  obtain ⟨Au, cu, rfl, hcu⟩ := hw.sl
  have hn : atN l i = l.getD i nd0 := rfl
  rw [hn] at hk
  (try rw [hn] at HV)
  generalize l.getD i nd0 = nd at *
  clear hrow hw hn ha hi
  go_enter Try.func39, Try.ntmps39
  go_upto_region 1 with (fail)
  generalize w.alloc (.cells #[.slice (some ⟨ba, oa, none⟩) l.length c] 24) = w1 at *
  have hb2 := (Below.refl w1.heap.size w1).alloc (Nat.le_refl _) (.cells (ndC nd) 58)
  have hz2 := Blk.new w1 (ndC nd) 58
  rw [hs1] at hz2
  have HE2 : Hid (RnS (some ⟨ba, oa, none⟩) l c (.slice Au W.length cu) W w.heap.size nd (w1.alloc (.cells (ndC nd) 58)) (w1.alloc (.cells (ndC nd) 58))) := ⟨⟨hrow1.later hb2, hw1.later hb2, hz1.later hb2⟩, hz2, Below.refl _ _⟩
  have HB3 := Lib.hid (hb1.trans (hb2.mono hb1.size))
  have d0 := hz1.cell 0
  simp at d0
  clear hb1 hz1 hb2 hz2 hrow1 hw1
  obtain ⟨kk, na, nb, nlo, nhi, ncls, ntext⟩ := nd
  unfold At10 at g
  simp only at g hk HV
  subst hk
  obtain ⟨g0, g1, g2, g3, g4, g5, g6, g7, g8, g9⟩ := g
  have hndc : ndC ⟨9, na, nb, nlo, nhi, ncls, ntext⟩ = #[.int .i64 9, .int .i64 na, .int .i64 nb, .int .i64 nlo, .int .i64 nhi, .int .u64 (wd ncls 0), .int .u64 (wd ncls 1), .int .u64 (wd ncls 2), .int .u64 (wd ncls 3), .string (bs ntext)] := rfl
  rw [hndc] at HE2 HB3
  clear hndc
  go_upto_region 2 with (fail)
  clear g0 g1 g2 g3 g4 g5 g6 g7 g8 g9 d0
  generalize w1.alloc (.cells #[.int .i64 9, .int .i64 na, .int .i64 nb, .int .i64 nlo, .int .i64 nhi, .int .u64 (wd ncls 0), .int .u64 (wd ncls 1), .int .u64 (wd ncls 2), .int .u64 (wd ncls 3), .string (bs ntext)] 58) = w2 at *
  have HZ := Lib.hid (rzero_any (.slice Au W.length cu) W w2 HE2.out.t.wd HN.out)
  go_wp2_with fail
  refine HZ.out.mono ?_; rintro e w3 ⟨v3, rfl, ho3, hb3⟩
  have HE3 : Hid (EnO (some ⟨ba, oa, none⟩) l c (.slice Au W.length cu) W w.heap.size ⟨9, na, nb, nlo, nhi, ncls, ntext⟩ (rowL (W.length + 1) fun _ => 0) v3 w2 w3) := ⟨HE2.out.later hb3, ho3⟩
  clear ho3 hb3 HZ
  have gg := HE3.out.s.x
  obtain ⟨g0, g1, g2, g3, g4, g5, g6, g7, g8, g9⟩ := ten_cells gg
  clear gg
  clear hw0
  have hz : ¬ (a : Int) + 1 < (W.length : Int) := by omega
  have HOX := Lib.hid HE3.out.own
  have HBX := Lib.hid HE3.out.s.bel
  clear HE3 HE2
  have HPF : Hid (RwN (rowL (W.length + 1) fun _ => 0) w (.returned v3) w3) := ⟨_, rfl, HOX.out.mono HB3.out.size, HB3.out.trans (HBX.out.mono HB3.out.size)⟩
  clear HOX HBX
  go_wp2
  go_ret
  exact HPF.out
theorem rends_all {A : Option Addr} {l : List Nd} {c : Nat} (hF : Form l) (hT : ∀ n ∈ l, n.text.length <= 1073741824) : ∀ i, i < l.length -> EndR A l c i := by
 intro i
 induction i using Nat.strongRecOn with
 | ind i ih =>
  intro hi
  have hE : ∀ j, j < i -> EndR A l c j := fun j hj => ih j hj (by omega)
  have ht : (atN l i).text.length <= 1073741824 := by
   have e : atN l i = l[i] := by unfold atN; rw [List.getD_eq_getElem?_getD, List.getElem?_eq_getElem hi]; rfl
   rw [e]; exact hT _ (List.getElem_mem hi)
  have h := (hF.2.1 i hi).2
  by_cases h1 : (atN l i).kind = 1
  ·exact rends_k1 hF hi h1
  by_cases h2 : (atN l i).kind = 2
  ·exact rends_k2 hF hi h2
  by_cases h3 : (atN l i).kind = 3
  ·exact rends_k3 hF hi ht h3
  by_cases h4 : (atN l i).kind = 4
  ·exact rends_k4 hF hi h4 hE
  by_cases h5 : (atN l i).kind = 5
  ·exact rends_k5 hF hi h5 hE
  by_cases h6 : (atN l i).kind = 6
  ·exact rends_k6 hF hi h6 hE
  by_cases h7 : (atN l i).kind = 7
  ·exact rends_k7 hF hi h7 hE
  by_cases h8 : (atN l i).kind = 8
  ·exact rends_k8 hF hi h8 hE
  ·exact rends_k9 hF hi (by omega) hE
set_option maxHeartbeats 4000000 in
theorem rways12_any {A : Option Addr} {l : List Nd} {c : Nat} (hF : Form l) (hT : ∀ n ∈ l, n.text.length <= 1073741824) (hl : l.length <= 4096) (uw : Value) (W : Wd) (w : World) (hrow : NRow w A l) (hw : IsW W uw w) (hn : W.length <= 1000) :
 Calls Try.prog 24 #[.agg #[.slice A l.length c], uw] w (Ans w (.int .i64 ((rowV l (l.length - 1) W 0 W.length : Nat) : Int))) := by
 have hpos : 0 < l.length := hF.1
 have hb1 := (Below.refl w.heap.size w).alloc (Nat.le_refl _) (.cells #[.slice A l.length c] 24)
 have HC := Lib.hid (rends_all (A := A) (c := c) hF hT (l.length - 1) (by omega) uw W 0 _ (hrow.later hb1) (hw.later hb1) hn (Nat.zero_le _))
 have hz1 := Blk.new w #[.slice A l.length c] 24
 have HB1 := Lib.hid hb1
 rw [show ((l.length - 1 : Nat) : Int) = (l.length : Int) - 1 by omega] at HC
 have hlz : (l.length : Int) <= 4096 := by omega
 have hlz1 : (1 : Int) <= (l.length : Int) := by omega
 obtain ⟨Au, cu, rfl, hcu⟩ := hw.sl
 have hnz : (W.length : Int) <= 1000 := by omega
 clear hrow hw hF hT hb1
 go_enter Try.func24, Try.ntmps24
 go_upto_region 1 with (fail)
 generalize w.alloc (.cells #[.slice A l.length c] 24) = w1 at *
 have d0 := hz1.cell 0
 simp at d0
 clear hz1
 go_wp2_with fail
 refine HC.out.mono ?_; rintro e w2 ⟨v2, rfl, ho2, hb2⟩
 have h3 := OwnI.rd ho2
 rw [rowL_length] at h3
 obtain ⟨A2, c2, rfl, hr2⟩ := h3
 obtain ⟨b2, o2, rfl, -, hc2⟩ := hr2 W.length (by rw [rowL_length]; omega)
 rw [rowL_at (by omega)] at hc2
 have HP : Hid (Ans w (.int .i64 ((rowV l (l.length - 1) W 0 W.length : Nat) : Int)) (.returned (.int .i64 ((rowV l (l.length - 1) W 0 W.length : Nat) : Int))) w2) := ⟨rfl, HB1.out.trans (hb2.mono HB1.out.size)⟩
 have hbb : (W.length : Int) < (W.length : Int) + 1 := by omega
 clear ho2 hb2 HC hr2 d0
 generalize rowV l (l.length - 1) W 0 W.length = x at *
 go_wp2
 go_ret
 exact HP.out
end Go.Proofs.Ytidoofdofdhjpaa
namespace Go.Proofs.Ytidoofdofdhjpaa
open Go
set_option linter.unusedVariables false
set_option linter.unusedSimpArgs false
def fmS (d : List Nd) (n : Nat) : List Itm := [⟨1, (d.length : Int) - 1, 0, 0⟩] ++ [⟨5, 0, (n : Int), 0⟩]
theorem fm_ready {d : List Nd} : rdyS (wrapL 8 0 0 d) (stL (wrapL 8 0 0 d)) = true := by
 have hat := (wrap_at (l := d) (kind := 8) (lo := 0) (hi := 0)).2
 have hlen : (wrapL 8 0 0 d).length = d.length + 1 := by unfold wrapL; simp
 unfold rdyS stL
 simp only
 rw [show (((wrapL 8 0 0 d).length : Int) - 1).toNat = d.length by omega, hat]
 simp
theorem fm_on {d : List Nd} {c : UInt8} : onL (wrapL 8 0 0 d) (stL (wrapL 8 0 0 d)) c = [fmS d c.toNat] := by
 have hat := (wrap_at (l := d) (kind := 8) (lo := 0) (hi := 0)).2
 have hlen : (wrapL 8 0 0 d).length = d.length + 1 := by unfold wrapL; simp
 have hr : rdS (wrapL 8 0 0 d) (stL (wrapL 8 0 0 d)) c = some (fmS d c.toNat) := by
  unfold stL rdS
  simp only [show lowS [] = some [] from rfl, Option.bind_some]
  unfold frS
  simp only
  rw [show (((wrapL 8 0 0 d).length : Int) - 1).toNat = d.length by omega, hat]
  simp [fmS]
 unfold onL
 rw [rch_ready fm_ready]
 simp [hr]
theorem fm_brs (s : List Itm) : brsL [s] = [(s, 1)] := by unfold brsL brsF; simp [addB]
theorem fm_form {d : List Nd} (hd : 0 < d.length) {n : Nat} (hn : n <= 65535) : ∀ y ∈ fmS d n, HdF (wrapL 8 0 0 d) y := fun y hy => by
 have hlen : (wrapL 8 0 0 d).length = d.length + 1 := by unfold wrapL; simp
 unfold fmS at hy
 rcases List.mem_append.1 hy with hy | hy
 ·rw [List.mem_singleton.1 hy]
  exact ⟨fun h => by simp at h, fun _ => ⟨by simp only; omega, by simp only; omega⟩, ⟨by simp, by simp⟩, fun _ => ⟨rfl, rfl⟩, fun h => by simp at h, fun h => by simp at h, fun h => by simp at h⟩
 ·rw [List.mem_singleton.1 hy]
  exact ⟨fun _ => ⟨rfl, rfl, by simp only; omega, by simp only; omega⟩, fun k => absurd rfl k, ⟨by simp, by simp⟩, fun h => by simp at h, fun h => by simp at h, fun h => by simp at h, fun h => by simp at h⟩
theorem fm_fe {d : List Nd} (hd : 0 < d.length) {n : Nat} (hn : n <= 65535) : AllB (FeS (wrapL 8 0 0 d) (n : Int)) [(fmS d n, 1)] := fun a ha => by
 rw [List.mem_singleton.1 ha]
 exact ⟨fm_form hd hn, _, rfl⟩
theorem fm_ways {d : List Nd} (hd : 0 < d.length) (hR : Rgt (wrapL 8 0 0 d)) (w : Wd) (hw : w.length <= 65535) : enB (wrapL 8 0 0 d) (wdB (wrapL 8 0 0 d) w [(fmS d w.length, 1)]) = min 2 (cntN (wrapL 8 0 0 d) (d.length - 1) w) := by
 have hf : FrmB (wrapL 8 0 0 d) [(fmS d w.length, 1)] := fun a ha => by rw [List.mem_singleton.1 ha]; exact fm_form hd hw
 unfold enB
 rw [en_fold hR _ 0 (by omega) (wd_form hR.1 w hf), Nat.zero_add, vl_word hR w [] hf, List.append_nil, vl_cons]
 simp only
 rw [show vlB (wrapL 8 0 0 d) w [] = 0 from rfl, Nat.one_mul, Nat.add_zero]
 unfold fmS
 rw [st_until rfl, if_pos (by simp), nsW_cons (by simp)]
 have e : itW (wrapL 8 0 0 d) ⟨1, (d.length : Int) - 1, 0, 0⟩ = cntN (wrapL 8 0 0 d) (d.length - 1) := funext fun u => by
  rw [itW_node, show ((d.length : Int) - 1).toNat = d.length - 1 by omega]
 rw [e, show nsW (wrapL 8 0 0 d) [] = fun _ => epW from rfl, cvN_shift, cvW_epR]
theorem fm_cds {d : List Nd} (hR : Rgt (wrapL 8 0 0 d)) {c : UInt8} : AllB (CdS (wrapL 8 0 0 d) [c]) [(fmS d c.toNat, 1)] := fun a ha => by
 rw [List.mem_singleton.1 ha]
 have := cds_step hR (u := []) (c := c) (cds_start hR.1.1) (fmS d c.toNat) (by rw [fm_on]; exact List.mem_singleton.2 rfl)
 rwa [List.nil_append] at this
end Go.Proofs.Ytidoofdofdhjpaa
namespace Go.Proofs.Ytidoofdofdhjpaa
open Go Go.RowKit
set_option linter.unusedVariables false
set_option linter.unusedSimpArgs false
set_option maxRecDepth 1000000
set_option maxHeartbeats 64000000
theorem ways_min {l : List Nd} {W : Wd} : rowV l (l.length - 1) W 0 W.length = min 2 (cntN l (l.length - 1) W) := by
 unfold rowV
 rw [if_pos (Nat.zero_le _)]
 unfold sgW
 rw [List.take_length]; rfl
def fldK (F : Brs) (m : Nat) (G : Brs) : Brs := G.foldl (fun M b => addB M b.1 (min 2 (m * b.2))) F
theorem map_take {D : List HdE} {k : Nat} (h : k < D.length) : (D.take (k + 1)).map brS = (D.take k).map brS ++ [brS (D.getD k hd0)] := by
 rw [List.take_succ_eq_append_getElem h, List.map_append, List.getD_eq_getElem?_getD, List.getElem?_eq_getElem h]; rfl
theorem fldK_step {F : Brs} {m : Nat} {G : List HdE} {k : Nat} (h : k < G.length) : fldK F m ((G.take (k + 1)).map brS) = addB (fldK F m ((G.take k).map brS)) (G.getD k hd0).s (min 2 (m * (G.getD k hd0).many)) := by
 rw [map_take h]
 unfold fldK
 rw [List.foldl_append]; rfl
theorem nx_step {l : List Nd} {c : UInt8} {D : List HdE} {k : Nat} (h : k < D.length) : nxB l c ((D.take (k + 1)).map brS) = fldK (nxB l c ((D.take k).map brS)) (D.getD k hd0).many (brsL (onL l (D.getD k hd0).s c)) := by
 rw [map_take h]
 unfold nxB
 rw [List.foldl_append]; rfl
theorem wd_step {l : List Nd} {W : Wd} {L : Brs} {i : Nat} (h : i < W.length) : wdB l (W.take (i + 1)) L = nxB l (W.getD i 0) (wdB l (W.take i) L) := by
 unfold wdB
 rw [List.take_succ_eq_append_getElem h, List.foldl_append, List.getD_eq_getElem?_getD, List.getElem?_eq_getElem h]; rfl
theorem en_step {l : List Nd} {D : List HdE} {k : Nat} (h : k < D.length) : enB l ((D.take (k + 1)).map brS) = min 2 (enB l ((D.take k).map brS) + (D.getD k hd0).many * mnyB (hdsL l (D.getD k hd0).s) []) := by
 rw [map_take h]
 unfold enB
 rw [List.foldl_append]; rfl
theorem en_two {l : List Nd} (L : Brs) (n : Nat) (hn : n <= 2) : L.foldl (fun n a => min 2 (n + a.2 * mnyB (hdsL l a.1) [])) n <= 2 := by
 induction L generalizing n with
 | nil => exact hn
 | cons a L ih => rw [List.foldl_cons]; exact ih _ (Nat.min_le_left _ _)
structure OkB (l : List Nd) (u : Wd) (T : Brs) : Prop where
 srt : HdSrt T
 pos : PosB T
 all : AllB (CdS l u) T
theorem pos_take {D : List HdE} {k : Nat} (h : PosB (D.map brS)) : PosB ((D.take k).map brS) := fun a ha => by
 obtain ⟨d, hd, rfl⟩ := List.mem_map.1 ha
 exact h _ (List.mem_map_of_mem (List.mem_of_mem_take hd))
theorem all_take {P : List Itm -> Prop} {D : List HdE} {k : Nat} (h : AllB P (D.map brS)) : AllB P ((D.take k).map brS) := fun a ha => by
 obtain ⟨d, hd, rfl⟩ := List.mem_map.1 ha
 exact h _ (List.mem_map_of_mem (List.mem_of_mem_take hd))
theorem ok_start {l : List Nd} (h : 0 < l.length) : OkB l [] [(stL l, 1)] :=
 ⟨List.pairwise_singleton _ _, (fun a ha => by rw [List.mem_singleton.1 ha]; exact ⟨Nat.le_refl _, by omega⟩), fun a ha => by rw [List.mem_singleton.1 ha]; exact cds_start h⟩
theorem ok_nx {l : List Nd} (hR : Rgt l) {u : Wd} {c : UInt8} {D : List HdE} (h : OkB l u (D.map brS)) (k : Nat) : OkB l (u ++ [c]) (nxB l c ((D.take k).map brS)) :=
 ⟨(nx_ok (pos_take h.pos)).1, (nx_ok (pos_take h.pos)).2, nx_cds hR (all_take h.all)⟩
theorem ok_wd {l : List Nd} (hR : Rgt l) : ∀ (W u : Wd) {L : Brs}, OkB l u L -> OkB l (u ++ W) (wdB l W L)
 | [], u, L, h => by rw [List.append_nil]; exact h
 | c :: W, u, L, h => by
  have h1 : OkB l (u ++ [c]) (nxB l c L) := ⟨(nx_ok h.pos).1, (nx_ok h.pos).2, nx_cds hR h.all⟩
  have h2 := ok_wd hR W (u ++ [c]) h1
  rw [List.append_assoc] at h2
  exact h2
theorem ok_on {l : List Nd} (hR : Rgt l) {u : Wd} {c : UInt8} {s : List Itm} (h : CdS l u s) : OkB l (u ++ [c]) (brsL (onL l s c)) :=
 ⟨(brsL_all _).1, (brsL_all _).2.1, all_brs fun q hq => cds_step hR h q hq⟩
theorem ok_fld {l : List Nd} {u : Wd} {F : Brs} {m : Nat} {G : List HdE} (hm : 1 <= m) (h : OkB l u F) (g : OkB l u (G.map brS)) (k : Nat) : OkB l u (fldK F m ((G.take k).map brS)) :=
 ⟨(fold_ok hm _ (pos_take g.pos) h.srt h.pos).1, (fold_ok hm _ (pos_take g.pos) h.srt h.pos).2, all_fold h.all (all_take g.all)⟩
theorem OkB.few {l : List Nd} (hF : Form l) (hl : l.length <= 17) {u : Wd} (hu : u.length <= 9) {T : Brs} (h : OkB l u T) : T.length <= 600000000 := cds_few hF hl hu h.srt h.all
theorem OkB.at {l : List Nd} {u : Wd} {D : List HdE} (h : OkB l u (D.map brS)) {d : HdE} (hd : d ∈ D) : (1 <= d.many /\ d.many <= 2) /\ CdS l u d.s := ⟨h.pos _ (List.mem_map_of_mem hd), h.all _ (List.mem_map_of_mem hd)⟩
structure NwdS (w0 : World) (A : Option Addr) (l : List Nd) (c : Nat) (Aw : Option Addr) (cw : Nat) (W : Wd) (P : World -> Prop) (w : World) : Prop where
 bel : Below w0.heap.size w0 w
 row : NRow w A l
 box : Blk w w0.heap.size #[.slice A l.length c] 24
 wd : W.length <= 8 -> IsW W (.slice Aw W.length cw) w
 p : P w
 pl : ∀ w w', P w -> Below w.heap.size w w' -> P w'
section
variable {w0 w w' : World} {A Aw : Option Addr} {l : List Nd} {c cw : Nat} {W : Wd} {P Q : World -> Prop}
theorem NwdS.later (h : NwdS w0 A l c Aw cw W P w) (hb : Below w.heap.size w w') : NwdS w0 A l c Aw cw W P w' := ⟨h.bel.trans (hb.mono h.bel.size), h.row.later hb, h.box.later hb, fun k => (h.wd k).later hb, h.pl _ _ h.p hb, h.pl⟩
theorem NwdS.add (h : NwdS w0 A l c Aw cw W P w) (hq : Q w) (hl : ∀ w w', Q w -> Below w.heap.size w w' -> Q w') : NwdS w0 A l c Aw cw W (fun w => P w /\ Q w) w :=
 ⟨h.bel, h.row, h.box, h.wd, ⟨h.p, hq⟩, fun w w' k hb => ⟨h.pl w w' k.1 hb, hl w w' k.2 hb⟩⟩
theorem NwdS.put (h : NwdS w0 A l c Aw cw W P w) (hq : Q w) (hl : ∀ w w', Q w -> Below w.heap.size w w' -> Q w') : NwdS w0 A l c Aw cw W Q w := ⟨h.bel, h.row, h.box, h.wd, hq, hl⟩
theorem NwdS.new (c : Nat) (hrow : NRow w A l) (hwd : WdA w Aw cw W) : NwdS w A l c Aw cw W (fun _ => True) (w.alloc (.cells #[.slice A l.length c] 24)) :=
 ⟨(Below.refl w.heap.size w).alloc (Nat.le_refl _) _, hrow.later ((Below.refl w.heap.size w).alloc (Nat.le_refl _) _), Blk.new _ _ _, fun k => (hwd.2 (by omega)).later ((Below.refl w.heap.size w).alloc (Nat.le_refl _) _), trivial, fun _ _ _ _ => trivial⟩
end
theorem brv_nil (w : World) : BrV [] (.slice none 0 0) w := ⟨none, 0, [], rfl, rfl, (fun i hi => by simp at hi), (fun d hd => by cases hd), fun d hd => by cases hd⟩
theorem IsW.byte {W : Wd} {A : Option Addr} {n c : Nat} {w : World} (h : IsW W (.slice A n c) w) {i : Nat} (hi : i < W.length) : ∃ b o, A = some ⟨b, o, none⟩ /\ b < w.heap.size /\ w.cell? ⟨b, o + i, none⟩ = some (.int .u8 (((W.getD i 0).toNat : Nat) : Int)) := by
 rcases h with ⟨-, hw⟩ | ⟨b, off, cap, h1, h2, h5, h3, h4⟩
 ·rw [hw] at hi; simp at hi
 ·obtain ⟨e, -, -⟩ := Value.slice.inj h1
  exact ⟨b, off, e, h3, h4 i hi⟩
def ftB (n m : Nat) : Bool := decide (n <= 16) && decide (m <= 8)
theorem rft12_any (A Au : Option Addr) (n c m cu : Nat) (w : World) (hn : n <= 9223372036854775807) (hm : m <= 9223372036854775807) : Calls Try.prog 19 #[.agg #[.slice A n c], .slice Au m cu] w (Ans w (.bool (ftB n m))) := by
 have hb1 := (Below.refl w.heap.size w).alloc (Nat.le_refl _) (.cells #[.slice A n c] 24)
 have hz1 := Blk.new w #[.slice A n c] 24
 have HB1 := Lib.hid hb1
 clear hb1
 unfold ftB
 by_cases h1 : n <= 16
 ·have h1z : (n : Int) <= 16 := by omega
  have hd1 : decide ((n : Int) <= 16) = true := decide_eq_true h1z
  by_cases h2 : m <= 8
  ·have h2z : (m : Int) <= 8 := by omega
   have hd2 : decide ((m : Int) <= 8) = true := decide_eq_true h2z
   rw [decide_eq_true h1, decide_eq_true h2]
   go_enter Try.func19, Try.ntmps19
   go_upto_region 1 with (fail)
   generalize w.alloc (.cells #[.slice A n c] 24) = w1 at *
   have d0 := hz1.cell 0
   simp at d0
   go_wp2
   go_ret
   exact ⟨rfl, HB1.out⟩
  ·have h2z : ¬ (m : Int) <= 8 := by omega
   have hd2 : decide ((m : Int) <= 8) = false := decide_eq_false h2z
   rw [decide_eq_true h1, decide_eq_false h2]
   go_enter Try.func19, Try.ntmps19
   go_upto_region 1 with (fail)
   generalize w.alloc (.cells #[.slice A n c] 24) = w1 at *
   have d0 := hz1.cell 0
   simp at d0
   go_wp2
   go_ret
   exact ⟨rfl, HB1.out⟩
 ·have h1z : ¬ (n : Int) <= 16 := by omega
  have hd1 : decide ((n : Int) <= 16) = false := decide_eq_false h1z
  rw [decide_eq_false h1, Bool.false_and]
  go_enter Try.func19, Try.ntmps19
  go_upto_region 1 with (fail)
  generalize w.alloc (.cells #[.slice A n c] 24) = w1 at *
  have d0 := hz1.cell 0
  simp at d0
  go_wp2
  go_ret
  exact ⟨rfl, HB1.out⟩
theorem ft_iff {n m : Nat} : ftB n m = true ↔ n <= 16 /\ m <= 8 := by unfold ftB; simp
end Go.Proofs.Ytidoofdofdhjpaa
