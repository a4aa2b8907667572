/- The document's ways of words: a frame's; all nodes'; a word's. Walked. -/
import Derived.Test.YtpbbokdmoaadfaaM37
import Derived.Test.YtpbbokdmoaadfaaM35
import Derived.Test.YtpbbokdmoaadfaaM28
import Derived.Test.YtpbbokdmoaadfaaM11
import Derived.Test.YtpbbokdmoaadfaaM20
import Derived.Test.YtpbbokdmoaadfaaM26
namespace Go.Proofs.Ytpbbokdmoaadfaa
open Go Go.RowKit
set_option linter.unusedVariables false
set_option linter.unusedSimpArgs false
set_option maxRecDepth 100000
def PtV (x : Nat) (v : Value) (w : World) : Prop := ∃ b o, v = .pointer (some ⟨b, o, none⟩) /\ b < w.heap.size /\ w.cell? ⟨b, o, none⟩ = some (.int .i64 (x : Int))
theorem PtV.later (x : Nat) : ∀ v w w', PtV x v w -> Below w.heap.size w w' -> PtV x v w' := fun v w w' ⟨b, o, h1, h2, h3⟩ hb => ⟨b, o, h1, Nat.lt_of_lt_of_le h2 hb.size, (hb.cell (p := ⟨b, o, none⟩) h2).trans h3⟩
def EqV (x : Nat) (v : Value) (w : World) : Prop := v = .int .i64 (x : Int)
theorem EqV.later (x : Nat) : ∀ v w w', EqV x v w -> Below w.heap.size w w' -> EqV x v w' := fun v w w' h hb => h
theorem row8_val {l : List Nd} {i : Nat} {W : Wd} {a p : Nat} (hF : Form l) (hi : i < l.length) (hk : (atN l i).kind = 8) (hp : (atN l i).a.toNat = p) : rowL (W.length + 1) (rowV l i W a) = if a < W.length /\ a + 1 + (W.getD a 0).toNat <= W.length then (rowL (W.length + 1) fun _ => 0).set (a + 1 + (W.getD a 0).toNat) ((rowV l p W (a + 1) (a + 1 + (W.getD a 0).toNat) : Nat) : Int) else rowL (W.length + 1) fun _ => 0 := by
  by_cases h : a < W.length /\ a + 1 + (W.getD a 0).toNat <= W.length
  · rw [if_pos h, rowL_set (by omega)]
    refine rowL_congr fun b hb => ?_
    rw [row_k8 hF hi (by omega) hk, hp]
    by_cases e : b = a + 1 + (W.getD a 0).toNat
    · rw [if_pos ⟨h.1, e⟩, if_pos e, e]
    · rw [if_neg (fun h' => e h'.2), if_neg e]
  · rw [if_neg h]
    refine rowL_congr fun b hb => ?_
    rw [row_k8 hF hi (by omega) hk, if_neg (fun h' => h ⟨h'.1, by omega⟩)]
set_option maxHeartbeats 16000000 in
theorem rends_k8 {A : Option Addr} {l : List Nd} {c i : Nat} (hF : Form l) (hi : i < l.length) (hk : (atN l i).kind = 8) (hE : ∀ j, j < i -> EndR A l c j) : EndR A l c i := fun uw W a w hrow hw hn ha => by
  obtain ⟨p, q, hp, hp1, hp2, hq1, hq2, hq⟩ := rparts hF hi (by omega)
  rw [row8_val hF hi hk hp2]
  have HEP := Lib.hid (hE p hp)
  have HV : Hid ((atN l i).a = (p : Int)) := hp1
  clear hp hp1 hp2 hq1 hq2 hq hE hF
  have hw0 := hw
  by_cases hal : a < W.length
  · have HD : Hid (∀ w', IsW W uw w' -> ∃ b o c', uw = .slice (some ⟨b, o, none⟩) W.length c' /\ w'.cell? ⟨b, o + a, none⟩ = some (.int .u8 (((W.getD a 0).toNat : Nat) : Int))) := fun w' h => by
      rcases h with ⟨h1, h2⟩ | ⟨b, off, cap, h1, h2, h5, h3, h4⟩
      · subst h2; exact absurd hal (by simp)
      · exact ⟨b, off, cap, h1, h4 a hal⟩
    have hy := (W.getD a 0).toNat_lt
    generalize (W.getD a 0).toNat = y at *
    obtain ⟨to_, hto⟩ : ∃ to_, a + 1 + y = to_ := ⟨_, rfl⟩
    rw [hto]
    have HTO := Lib.hid hto
    have hto1 : (a : Int) + 1 + (y : Int) = (to_ : Int) := by omega
    by_cases hto2 : to_ <= W.length
    · rw [if_pos ⟨hal, hto2⟩]
      obtain ⟨xv, hxv⟩ : ∃ xv, rowV l p W (a + 1) to_ = xv := ⟨_, rfl⟩
      rw [hxv]
      obtain ⟨ba, oa, rfl, -, -⟩ := hrow i hi
      have hb1 := (Below.refl w.heap.size w).alloc (Nat.le_refl _) (.cells #[.slice (some ⟨ba, oa, none⟩) l.length c] 24)
      have hz1 := Blk.new w #[.slice (some ⟨ba, oa, none⟩) l.length c] 24
      have hs1 : (w.alloc (.cells #[.slice (some ⟨ba, oa, none⟩) l.length c] 24)).heap.size = w.heap.size + 1 := World.size_alloc _ _
      have hrow1 := hrow.later hb1
      have hw1 := hw.later hb1
      have g := hrow1.at hi rfl
      have hil : (i : Int) < (l.length : Int) := by omega
      have hi0 : ¬ (i : Int) < 0 := by omega
      have hnz : (W.length : Int) <= 1000 := by omega
      have hbz : (a : Int) <= (W.length : Int) := by omega
      have hbz2 : (a : Int) < (W.length : Int) + 1 := by omega
      have hbz0 : ¬ (a : Int) < 0 := by omega
      have HN := Lib.hid hn
      have HA := Lib.hid ha
      obtain ⟨Au, cu, rfl, hcu⟩ := hw.sl
      have hn : atN l i = l.getD i nd0 := rfl
      rw [hn] at hk
      (try rw [hn] at HV)
      generalize l.getD i nd0 = nd at *
      clear hrow hw hn ha hi
      go_enter Try.func27, Try.ntmps27
      go_upto_region 1 with (fail)
      generalize w.alloc (.cells #[.slice (some ⟨ba, oa, none⟩) l.length c] 24) = w1 at *
      have hb2 := (Below.refl w1.heap.size w1).alloc (Nat.le_refl _) (.cells (ndC nd) 44)
      have hz2 := Blk.new w1 (ndC nd) 44
      rw [hs1] at hz2
      have HE2 : Hid (RnS (some ⟨ba, oa, none⟩) l c (.slice Au W.length cu) W w.heap.size nd (w1.alloc (.cells (ndC nd) 44)) (w1.alloc (.cells (ndC nd) 44))) := ⟨⟨hrow1.later hb2, hw1.later hb2, hz1.later hb2⟩, hz2, Below.refl _ _⟩
      have HB3 := Lib.hid (hb1.trans (hb2.mono hb1.size))
      have d0 := hz1.cell 0
      simp at d0
      clear hb1 hz1 hb2 hz2 hrow1 hw1
      obtain ⟨kk, na, nb, nlo, nhi, ncls, ntext⟩ := nd
      unfold At10 at g
      simp only at g hk HV
      subst hk
      obtain ⟨g0, g1, g2, g3, g4, g5, g6, g7, g8, g9⟩ := g
      have hndc : ndC ⟨8, na, nb, nlo, nhi, ncls, ntext⟩ = #[.int .i64 8, .int .i64 na, .int .i64 nb, .int .i64 nlo, .int .i64 nhi, .int .u64 (wd ncls 0), .int .u64 (wd ncls 1), .int .u64 (wd ncls 2), .int .u64 (wd ncls 3), .string (bs ntext)] := rfl
      rw [hndc] at HE2 HB3
      clear hndc
      go_upto_region 2 with (fail)
      clear g0 g1 g2 g3 g4 g5 g6 g7 g8 g9 d0
      generalize w1.alloc (.cells #[.int .i64 8, .int .i64 na, .int .i64 nb, .int .i64 nlo, .int .i64 nhi, .int .u64 (wd ncls 0), .int .u64 (wd ncls 1), .int .u64 (wd ncls 2), .int .u64 (wd ncls 3), .string (bs ntext)] 44) = w2 at *
      have HZ := Lib.hid (rzero_any (.slice Au W.length cu) W w2 HE2.out.t.wd HN.out)
      go_wp2_with fail
      refine HZ.out.mono ?_; rintro e w3 ⟨v3, rfl, ho3, hb3⟩
      have HE3 : Hid (EnO (some ⟨ba, oa, none⟩) l c (.slice Au W.length cu) W w.heap.size ⟨8, na, nb, nlo, nhi, ncls, ntext⟩ (rowL (W.length + 1) fun _ => 0) v3 w2 w3) := ⟨HE2.out.later hb3, ho3⟩
      clear ho3 hb3 HZ
      have gg := HE3.out.s.x
      obtain ⟨g0, g1, g2, g3, g4, g5, g6, g7, g8, g9⟩ := ten_cells gg
      clear gg
      clear hw0
      obtain rfl := HV.out
      have halz : (a : Int) < (W.length : Int) := by omega
      have htoz : (to_ : Int) <= (W.length : Int) := by omega
      obtain ⟨b8, o8, c8, hv8, hcy⟩ := HD.out _ HE3.out.s.t.wd
      obtain ⟨rfl, -, rfl⟩ := Value.slice.inj hv8
      clear hv8 HD HV HE2 hto
      have halz2 : (to_ : Int) < (W.length : Int) + 1 := by omega
      have hbb : (to_ : Int) < (to_ : Int) + 1 := by omega
      obtain ⟨gO, c8, hv8, hbg8, -, -, -, -⟩ := HE3.out.own.put (k := to_) (by rw [rowL_length]; omega) ((0 : Nat) : Int)
      rw [rowL_length] at hv8
      subst hv8
      clear hbg8
      have hn1 : (to_ : Int) <= (cu : Int) := by omega
      have HC : Hid (∀ w', EnO (some ⟨ba, oa, none⟩) l c (.slice (some ⟨b8, o8, none⟩) W.length cu) W w.heap.size ⟨8, (p : Int), nb, nlo, nhi, ncls, ntext⟩ (rowL (W.length + 1) fun _ => 0) (.slice (some ⟨gO, 0, none⟩) (W.length + 1) c8) w2 w' -> Calls Try.prog 27 #[.agg #[.slice (some ⟨ba, oa, none⟩) l.length c], .int .i64 (p : Int), .slice (some ⟨b8, o8, none⟩) to_ cu, .int .i64 ((a : Int) + 1)] w' (RwN (rowL (to_ + 1) (rowV l p (W.take to_) (a + 1))) w')) := fun w' h => by
        have hl : (W.take to_).length = to_ := by rw [List.length_take]; omega
        have := HEP.out (.slice (some ⟨b8, o8, none⟩) to_ cu) (W.take to_) (a + 1) w' h.s.t.row (h.s.t.wd.taken hto2) (by rw [hl]; have := HN.out; omega) (by rw [hl]; omega)
        rw [hl, show ((a + 1 : Nat) : Int) = (a : Int) + 1 by omega] at this
        exact this
      have HXV : Hid (rowV l p (W.take to_) (a + 1) to_ = xv) := by unfold Hid; rw [row_take (Nat.le_refl _)]; exact hxv
      have HTO2 := Lib.hid hto2
      have hxz : xv <= 2 := by rw [<- hxv]; exact rowV_le
      clear hxv hto2
      go_upto_region 24 with (fail)
      clear g0 g1 g2 g3 g4 g5 g6 g7 g8 g9
      refine wp_region_stable_last (S := (EnO (some ⟨ba, oa, none⟩) l c (.slice (some ⟨b8, o8, none⟩) W.length cu) W w.heap.size ⟨8, (p : Int), nb, nlo, nhi, ncls, ntext⟩ (rowL (W.length + 1) fun _ => 0) (.slice (some ⟨gO, 0, none⟩) (W.length + 1) c8) w2)) (hSt := fun _ _ h hb => h.later hb) (plan := [[(10, none)], [(11, none)], [(4, none)], [(9, none)], [(146, some 3)], [(2, none)], [(11, none)], [(148, some 5), (149, some 6)], [(3, none)], [(151, some 8)], [(145, some 2), (147, some 4), (150, some 7), (152, some 9)], [(11, none)], [(153, some 10), (154, some 11)], [(155, some 12)], [(143, some 0), (144, some 1)]]) rfl (by kernel_rfl) (by kernel_rfl) (by kernel_rfl) (by kernel_rfl) ?hS ?_
      rotate_left
      simp only [List.dropLast]
      iterate 10 first
        | (refine chain_skip (by rfl) (by rfl) ?_)
        | (apply chain_want (by rfl)
           · intro act wx hS hr
             simp at hr
             have gg := hS.s.x
             obtain ⟨g0, g1, g2, g3, g4, g5, g6, g7, g8, g9⟩ := ten_cells gg
             have d0 := hS.s.t.box.cell 0
             simp at d0
             clear gg
             go_simp
             (try go_ints)
             first
               | exact Done.same
          )
      (refine chain_rel (OwV w2.heap.size (rowL (to_ + 1) (rowV l p (W.take to_) (a + 1)))) (OwV.later w2.heap.size (rowL (to_ + 1) (rowV l p (W.take to_) (a + 1)))) (by rfl) ?_ ?_
       · intro act wx hS hr
         simp at hr
         have gg := hS.s.x
         obtain ⟨g0, g1, g2, g3, g4, g5, g6, g7, g8, g9⟩ := ten_cells gg
         have d0 := hS.s.t.box.cell 0
         simp at d0
         clear gg
         all_goals go_simp
         ((refine (HC.out _ hS).mono ?_); rintro e w5 ⟨x5, rfl, hx5, hb5⟩; exact Done.rel hb5 (OwnI.mono hx5 hS.s.bel.size))
      )
      iterate 1 first
        | (refine chain_skip (by rfl) (by rfl) ?_)
        | (apply chain_want (by rfl)
           · intro act wx hS hr
             simp at hr
             have gg := hS.s.x
             obtain ⟨g0, g1, g2, g3, g4, g5, g6, g7, g8, g9⟩ := ten_cells gg
             have d0 := hS.s.t.box.cell 0
             simp at d0
             clear gg
             go_simp
             (try go_ints)
             first
               | exact Done.same
          )
      (refine chain_rel (PtV xv) (PtV.later xv) (by rfl) ?_ ?_
       · intro act wx hS hr
         simp at hr
         have gg := hS.s.x
         obtain ⟨g0, g1, g2, g3, g4, g5, g6, g7, g8, g9⟩ := ten_cells gg
         have d0 := hS.s.t.box.cell 0
         simp at d0
         clear gg
         obtain ⟨⟨u5, hr2, hu5⟩, hr3⟩ := hr
         obtain ⟨A5, c5, rfl, hr5⟩ := OwnI.rd hu5
         obtain ⟨b5, o5, rfl, hlt5, hc5⟩ := hr5 to_ (by rw [rowL_length]; exact Nat.lt_succ_self _)
         rw [rowL_at (Nat.lt_succ_self _), HXV.out] at hc5
         simp only [rowL_length] at hr2
         all_goals go_simp
         exact Done.rel (p := PtV xv) (Below.refl _ _) ⟨_, _, rfl, hlt5, hc5⟩
      )
      (refine chain_rel (EqV xv) (EqV.later xv) (by rfl) ?_ ?_
       · intro act wx hS hr
         simp at hr
         have gg := hS.s.x
         obtain ⟨g0, g1, g2, g3, g4, g5, g6, g7, g8, g9⟩ := ten_cells gg
         have d0 := hS.s.t.box.cell 0
         simp at d0
         clear gg
         obtain ⟨u5, hr2, b5, o5, rfl, hlt5, hc5⟩ := hr
         all_goals go_simp
         exact Done.rel (Below.refl _ _) rfl
      )
      iterate 1 first
        | (refine chain_skip (by rfl) (by rfl) ?_)
        | (apply chain_want (by rfl)
           · intro act wx hS hr
             simp at hr
             have gg := hS.s.x
             obtain ⟨g0, g1, g2, g3, g4, g5, g6, g7, g8, g9⟩ := ten_cells gg
             have d0 := hS.s.t.box.cell 0
             simp at d0
             clear gg
             go_simp
             (try go_ints)
             first
               | exact Done.same
          )
      show ∀ w', _ -> _
      intro w9 hw9
      simp [Act.put]
      case hS => exact HE3.out
      intro v5 h5 v12 h12 v13 h13
      unfold EqV at h13
      subst h13
      obtain ⟨gP, c9, hv9, hbg9, -, hset9, hcl9, hfz9⟩ := hw9.own.put (k := to_) (by rw [rowL_length]; have := HTO2.out; omega) ((xv : Nat) : Int)
      rw [rowL_length] at hv9
      obtain ⟨e1, -, -⟩ := Value.slice.inj hv9
      cases e1
      have HPF : Hid (RwN ((rowL (W.length + 1) fun _ => 0).set to_ ((xv : Nat) : Int)) w (.returned (.slice (some ⟨gO, 0, none⟩) (W.length + 1) c8)) (w9.setCell ⟨gO, to_, none⟩ (.int .i64 ((xv : Nat) : Int)))) := ⟨_, rfl, hset9.mono HB3.out.size, HB3.out.trans ((hw9.s.bel.setCell (p := ⟨gO, to_, none⟩) hbg9 _).mono HB3.out.size)⟩
      clear h5 h12 hv9 hbg9 hset9 hw9 HE3 HC
      go_wp2
      go_ret
      exact HPF.out
    · rw [if_neg (fun h => hto2 h.2)]
      obtain ⟨ba, oa, rfl, -, -⟩ := hrow i hi
      have hb1 := (Below.refl w.heap.size w).alloc (Nat.le_refl _) (.cells #[.slice (some ⟨ba, oa, none⟩) l.length c] 24)
      have hz1 := Blk.new w #[.slice (some ⟨ba, oa, none⟩) l.length c] 24
      have hs1 : (w.alloc (.cells #[.slice (some ⟨ba, oa, none⟩) l.length c] 24)).heap.size = w.heap.size + 1 := World.size_alloc _ _
      have hrow1 := hrow.later hb1
      have hw1 := hw.later hb1
      have g := hrow1.at hi rfl
      have hil : (i : Int) < (l.length : Int) := by omega
      have hi0 : ¬ (i : Int) < 0 := by omega
      have hnz : (W.length : Int) <= 1000 := by omega
      have hbz : (a : Int) <= (W.length : Int) := by omega
      have hbz2 : (a : Int) < (W.length : Int) + 1 := by omega
      have hbz0 : ¬ (a : Int) < 0 := by omega
      have HN := Lib.hid hn
      have HA := Lib.hid ha
      obtain ⟨Au, cu, rfl, hcu⟩ := hw.sl
      have hn : atN l i = l.getD i nd0 := rfl
      rw [hn] at hk
      (try rw [hn] at HV)
      generalize l.getD i nd0 = nd at *
      clear hrow hw hn ha hi
      go_enter Try.func27, Try.ntmps27
      go_upto_region 1 with (fail)
      generalize w.alloc (.cells #[.slice (some ⟨ba, oa, none⟩) l.length c] 24) = w1 at *
      have hb2 := (Below.refl w1.heap.size w1).alloc (Nat.le_refl _) (.cells (ndC nd) 44)
      have hz2 := Blk.new w1 (ndC nd) 44
      rw [hs1] at hz2
      have HE2 : Hid (RnS (some ⟨ba, oa, none⟩) l c (.slice Au W.length cu) W w.heap.size nd (w1.alloc (.cells (ndC nd) 44)) (w1.alloc (.cells (ndC nd) 44))) := ⟨⟨hrow1.later hb2, hw1.later hb2, hz1.later hb2⟩, hz2, Below.refl _ _⟩
      have HB3 := Lib.hid (hb1.trans (hb2.mono hb1.size))
      have d0 := hz1.cell 0
      simp at d0
      clear hb1 hz1 hb2 hz2 hrow1 hw1
      obtain ⟨kk, na, nb, nlo, nhi, ncls, ntext⟩ := nd
      unfold At10 at g
      simp only at g hk HV
      subst hk
      obtain ⟨g0, g1, g2, g3, g4, g5, g6, g7, g8, g9⟩ := g
      have hndc : ndC ⟨8, na, nb, nlo, nhi, ncls, ntext⟩ = #[.int .i64 8, .int .i64 na, .int .i64 nb, .int .i64 nlo, .int .i64 nhi, .int .u64 (wd ncls 0), .int .u64 (wd ncls 1), .int .u64 (wd ncls 2), .int .u64 (wd ncls 3), .string (bs ntext)] := rfl
      rw [hndc] at HE2 HB3
      clear hndc
      go_upto_region 2 with (fail)
      clear g0 g1 g2 g3 g4 g5 g6 g7 g8 g9 d0
      generalize w1.alloc (.cells #[.int .i64 8, .int .i64 na, .int .i64 nb, .int .i64 nlo, .int .i64 nhi, .int .u64 (wd ncls 0), .int .u64 (wd ncls 1), .int .u64 (wd ncls 2), .int .u64 (wd ncls 3), .string (bs ntext)] 44) = w2 at *
      have HZ := Lib.hid (rzero_any (.slice Au W.length cu) W w2 HE2.out.t.wd HN.out)
      go_wp2_with fail
      refine HZ.out.mono ?_; rintro e w3 ⟨v3, rfl, ho3, hb3⟩
      have HE3 : Hid (EnO (some ⟨ba, oa, none⟩) l c (.slice Au W.length cu) W w.heap.size ⟨8, na, nb, nlo, nhi, ncls, ntext⟩ (rowL (W.length + 1) fun _ => 0) v3 w2 w3) := ⟨HE2.out.later hb3, ho3⟩
      clear ho3 hb3 HZ
      have gg := HE3.out.s.x
      obtain ⟨g0, g1, g2, g3, g4, g5, g6, g7, g8, g9⟩ := ten_cells gg
      clear gg
      clear hw0
      have halz : (a : Int) < (W.length : Int) := by omega
      have htoz : ¬ (to_ : Int) <= (W.length : Int) := by omega
      obtain ⟨b8, o8, c8, hv8, hcy⟩ := HD.out _ HE3.out.s.t.wd
      obtain ⟨rfl, -, rfl⟩ := Value.slice.inj hv8
      have HOX := Lib.hid HE3.out.own
      have HBX := Lib.hid HE3.out.s.bel
      clear hv8 HD HV HE2 hto HE3
      have HPF : Hid (RwN (rowL (W.length + 1) fun _ => 0) w (.returned v3) w3) := ⟨_, rfl, HOX.out.mono HB3.out.size, HB3.out.trans (HBX.out.mono HB3.out.size)⟩
      clear HOX HBX
      go_wp2
      go_ret
      exact HPF.out
  · rw [if_neg (fun h => hal h.1)]
    obtain ⟨ba, oa, rfl, -, -⟩ := hrow i hi
    have hb1 := (Below.refl w.heap.size w).alloc (Nat.le_refl _) (.cells #[.slice (some ⟨ba, oa, none⟩) l.length c] 24)
    have hz1 := Blk.new w #[.slice (some ⟨ba, oa, none⟩) l.length c] 24
    have hs1 : (w.alloc (.cells #[.slice (some ⟨ba, oa, none⟩) l.length c] 24)).heap.size = w.heap.size + 1 := World.size_alloc _ _
    have hrow1 := hrow.later hb1
    have hw1 := hw.later hb1
    have g := hrow1.at hi rfl
    have hil : (i : Int) < (l.length : Int) := by omega
    have hi0 : ¬ (i : Int) < 0 := by omega
    have hnz : (W.length : Int) <= 1000 := by omega
    have hbz : (a : Int) <= (W.length : Int) := by omega
    have hbz2 : (a : Int) < (W.length : Int) + 1 := by omega
    have hbz0 : ¬ (a : Int) < 0 := by omega
    have HN := Lib.hid hn
    have HA := Lib.hid ha
    obtain ⟨Au, cu, rfl, hcu⟩ := hw.sl
    have hn : atN l i = l.getD i nd0 := rfl
    rw [hn] at hk
    (try rw [hn] at HV)
    generalize l.getD i nd0 = nd at *
    clear hrow hw hn ha hi
    go_enter Try.func27, Try.ntmps27
    go_upto_region 1 with (fail)
    generalize w.alloc (.cells #[.slice (some ⟨ba, oa, none⟩) l.length c] 24) = w1 at *
    have hb2 := (Below.refl w1.heap.size w1).alloc (Nat.le_refl _) (.cells (ndC nd) 44)
    have hz2 := Blk.new w1 (ndC nd) 44
    rw [hs1] at hz2
    have HE2 : Hid (RnS (some ⟨ba, oa, none⟩) l c (.slice Au W.length cu) W w.heap.size nd (w1.alloc (.cells (ndC nd) 44)) (w1.alloc (.cells (ndC nd) 44))) := ⟨⟨hrow1.later hb2, hw1.later hb2, hz1.later hb2⟩, hz2, Below.refl _ _⟩
    have HB3 := Lib.hid (hb1.trans (hb2.mono hb1.size))
    have d0 := hz1.cell 0
    simp at d0
    clear hb1 hz1 hb2 hz2 hrow1 hw1
    obtain ⟨kk, na, nb, nlo, nhi, ncls, ntext⟩ := nd
    unfold At10 at g
    simp only at g hk HV
    subst hk
    obtain ⟨g0, g1, g2, g3, g4, g5, g6, g7, g8, g9⟩ := g
    have hndc : ndC ⟨8, na, nb, nlo, nhi, ncls, ntext⟩ = #[.int .i64 8, .int .i64 na, .int .i64 nb, .int .i64 nlo, .int .i64 nhi, .int .u64 (wd ncls 0), .int .u64 (wd ncls 1), .int .u64 (wd ncls 2), .int .u64 (wd ncls 3), .string (bs ntext)] := rfl
    rw [hndc] at HE2 HB3
    clear hndc
    go_upto_region 2 with (fail)
    clear g0 g1 g2 g3 g4 g5 g6 g7 g8 g9 d0
    generalize w1.alloc (.cells #[.int .i64 8, .int .i64 na, .int .i64 nb, .int .i64 nlo, .int .i64 nhi, .int .u64 (wd ncls 0), .int .u64 (wd ncls 1), .int .u64 (wd ncls 2), .int .u64 (wd ncls 3), .string (bs ntext)] 44) = w2 at *
    have HZ := Lib.hid (rzero_any (.slice Au W.length cu) W w2 HE2.out.t.wd HN.out)
    go_wp2_with fail
    refine HZ.out.mono ?_; rintro e w3 ⟨v3, rfl, ho3, hb3⟩
    have HE3 : Hid (EnO (some ⟨ba, oa, none⟩) l c (.slice Au W.length cu) W w.heap.size ⟨8, na, nb, nlo, nhi, ncls, ntext⟩ (rowL (W.length + 1) fun _ => 0) v3 w2 w3) := ⟨HE2.out.later hb3, ho3⟩
    clear ho3 hb3 HZ
    have gg := HE3.out.s.x
    obtain ⟨g0, g1, g2, g3, g4, g5, g6, g7, g8, g9⟩ := ten_cells gg
    clear gg
    clear hw0
    have hz : ¬ (a : Int) < (W.length : Int) := by omega
    have HOX := Lib.hid HE3.out.own
    have HBX := Lib.hid HE3.out.s.bel
    clear HE3 HE2
    have HPF : Hid (RwN (rowL (W.length + 1) fun _ => 0) w (.returned v3) w3) := ⟨_, rfl, HOX.out.mono HB3.out.size, HB3.out.trans (HBX.out.mono HB3.out.size)⟩
    clear HOX HBX
    go_wp2
    go_ret
    exact HPF.out
theorem row9_val {l : List Nd} {i : Nat} {W : Wd} {a p : Nat} (hF : Form l) (hi : i < l.length) (hk : (atN l i).kind = 9) (hp : (atN l i).a.toNat = p) : rowL (W.length + 1) (rowV l i W a) = if a + 1 < W.length /\ a + 2 + 256 * (W.getD a 0).toNat + (W.getD (a + 1) 0).toNat <= W.length then (rowL (W.length + 1) fun _ => 0).set (a + 2 + 256 * (W.getD a 0).toNat + (W.getD (a + 1) 0).toNat) ((rowV l p W (a + 2) (a + 2 + 256 * (W.getD a 0).toNat + (W.getD (a + 1) 0).toNat) : Nat) : Int) else rowL (W.length + 1) fun _ => 0 := by
  by_cases h : a + 1 < W.length /\ a + 2 + 256 * (W.getD a 0).toNat + (W.getD (a + 1) 0).toNat <= W.length
  · rw [if_pos h, rowL_set (by omega)]
    refine rowL_congr fun b hb => ?_
    rw [row_k9 hF hi (by omega) hk, hp]
    by_cases e : b = a + 2 + 256 * (W.getD a 0).toNat + (W.getD (a + 1) 0).toNat
    · rw [if_pos ⟨h.1, e⟩, if_pos e, e]
    · rw [if_neg (fun h' => e h'.2), if_neg e]
  · rw [if_neg h]
    refine rowL_congr fun b hb => ?_
    rw [row_k9 hF hi (by omega) hk, if_neg (fun h' => h ⟨h'.1, by omega⟩)]
set_option maxHeartbeats 16000000 in
theorem rends_k9 {A : Option Addr} {l : List Nd} {c i : Nat} (hF : Form l) (hi : i < l.length) (hk : (atN l i).kind = 9) (hE : ∀ j, j < i -> EndR A l c j) : EndR A l c i := fun uw W a w hrow hw hn ha => by
  obtain ⟨p, q, hp, hp1, hp2, hq1, hq2, hq⟩ := rparts hF hi (by omega)
  rw [row9_val hF hi hk hp2]
  have HEP := Lib.hid (hE p hp)
  have HV : Hid ((atN l i).a = (p : Int)) := hp1
  clear hp hp1 hp2 hq1 hq2 hq hE hF
  have hw0 := hw
  by_cases hal : a + 1 < W.length
  · have HD : Hid (∀ w', IsW W uw w' -> ∃ b o c', uw = .slice (some ⟨b, o, none⟩) W.length c' /\ w'.cell? ⟨b, o + a, none⟩ = some (.int .u8 (((W.getD a 0).toNat : Nat) : Int)) /\ w'.cell? ⟨b, o + (a + 1), none⟩ = some (.int .u8 (((W.getD (a + 1) 0).toNat : Nat) : Int))) := fun w' h => by
      rcases h with ⟨h1, h2⟩ | ⟨b, off, cap, h1, h2, h5, h3, h4⟩
      · subst h2; exact absurd hal (by simp)
      · exact ⟨b, off, cap, h1, h4 a (by omega), h4 (a + 1) hal⟩
    have hy := (W.getD a 0).toNat_lt
    have hy9 := (W.getD (a + 1) 0).toNat_lt
    generalize (W.getD a 0).toNat = y at *
    generalize (W.getD (a + 1) 0).toNat = z at *
    obtain ⟨to_, hto⟩ : ∃ to_, a + 2 + 256 * y + z = to_ := ⟨_, rfl⟩
    rw [hto]
    have HTO := Lib.hid hto
    have hto1 : (a : Int) + 2 + 256 * (y : Int) + (z : Int) = (to_ : Int) := by omega
    by_cases hto2 : to_ <= W.length
    · rw [if_pos ⟨hal, hto2⟩]
      obtain ⟨xv, hxv⟩ : ∃ xv, rowV l p W (a + 2) to_ = xv := ⟨_, rfl⟩
      rw [hxv]
      obtain ⟨ba, oa, rfl, -, -⟩ := hrow i hi
      have hb1 := (Below.refl w.heap.size w).alloc (Nat.le_refl _) (.cells #[.slice (some ⟨ba, oa, none⟩) l.length c] 24)
      have hz1 := Blk.new w #[.slice (some ⟨ba, oa, none⟩) l.length c] 24
      have hs1 : (w.alloc (.cells #[.slice (some ⟨ba, oa, none⟩) l.length c] 24)).heap.size = w.heap.size + 1 := World.size_alloc _ _
      have hrow1 := hrow.later hb1
      have hw1 := hw.later hb1
      have g := hrow1.at hi rfl
      have hil : (i : Int) < (l.length : Int) := by omega
      have hi0 : ¬ (i : Int) < 0 := by omega
      have hnz : (W.length : Int) <= 1000 := by omega
      have hbz : (a : Int) <= (W.length : Int) := by omega
      have hbz2 : (a : Int) < (W.length : Int) + 1 := by omega
      have hbz0 : ¬ (a : Int) < 0 := by omega
      have HN := Lib.hid hn
      have HA := Lib.hid ha
      obtain ⟨Au, cu, rfl, hcu⟩ := hw.sl
      have hn : atN l i = l.getD i nd0 := rfl
      rw [hn] at hk
      (try rw [hn] at HV)
      generalize l.getD i nd0 = nd at *
      clear hrow hw hn ha hi
      go_enter Try.func27, Try.ntmps27
      go_upto_region 1 with (fail)
      generalize w.alloc (.cells #[.slice (some ⟨ba, oa, none⟩) l.length c] 24) = w1 at *
      have hb2 := (Below.refl w1.heap.size w1).alloc (Nat.le_refl _) (.cells (ndC nd) 44)
      have hz2 := Blk.new w1 (ndC nd) 44
      rw [hs1] at hz2
      have HE2 : Hid (RnS (some ⟨ba, oa, none⟩) l c (.slice Au W.length cu) W w.heap.size nd (w1.alloc (.cells (ndC nd) 44)) (w1.alloc (.cells (ndC nd) 44))) := ⟨⟨hrow1.later hb2, hw1.later hb2, hz1.later hb2⟩, hz2, Below.refl _ _⟩
      have HB3 := Lib.hid (hb1.trans (hb2.mono hb1.size))
      have d0 := hz1.cell 0
      simp at d0
      clear hb1 hz1 hb2 hz2 hrow1 hw1
      obtain ⟨kk, na, nb, nlo, nhi, ncls, ntext⟩ := nd
      unfold At10 at g
      simp only at g hk HV
      subst hk
      obtain ⟨g0, g1, g2, g3, g4, g5, g6, g7, g8, g9⟩ := g
      have hndc : ndC ⟨9, na, nb, nlo, nhi, ncls, ntext⟩ = #[.int .i64 9, .int .i64 na, .int .i64 nb, .int .i64 nlo, .int .i64 nhi, .int .u64 (wd ncls 0), .int .u64 (wd ncls 1), .int .u64 (wd ncls 2), .int .u64 (wd ncls 3), .string (bs ntext)] := rfl
      rw [hndc] at HE2 HB3
      clear hndc
      go_upto_region 2 with (fail)
      clear g0 g1 g2 g3 g4 g5 g6 g7 g8 g9 d0
      generalize w1.alloc (.cells #[.int .i64 9, .int .i64 na, .int .i64 nb, .int .i64 nlo, .int .i64 nhi, .int .u64 (wd ncls 0), .int .u64 (wd ncls 1), .int .u64 (wd ncls 2), .int .u64 (wd ncls 3), .string (bs ntext)] 44) = w2 at *
      have HZ := Lib.hid (rzero_any (.slice Au W.length cu) W w2 HE2.out.t.wd HN.out)
      go_wp2_with fail
      refine HZ.out.mono ?_; rintro e w3 ⟨v3, rfl, ho3, hb3⟩
      have HE3 : Hid (EnO (some ⟨ba, oa, none⟩) l c (.slice Au W.length cu) W w.heap.size ⟨9, na, nb, nlo, nhi, ncls, ntext⟩ (rowL (W.length + 1) fun _ => 0) v3 w2 w3) := ⟨HE2.out.later hb3, ho3⟩
      clear ho3 hb3 HZ
      have gg := HE3.out.s.x
      obtain ⟨g0, g1, g2, g3, g4, g5, g6, g7, g8, g9⟩ := ten_cells gg
      clear gg
      clear hw0
      obtain rfl := HV.out
      have halz : (a : Int) + 1 < (W.length : Int) := by omega
      have halz3 : (a : Int) < (W.length : Int) := by omega
      have htoz : (to_ : Int) <= (W.length : Int) := by omega
      obtain ⟨b8, o8, c8, hv8, hcy, hcz⟩ := HD.out _ HE3.out.s.t.wd
      obtain ⟨rfl, -, rfl⟩ := Value.slice.inj hv8
      have HCL : Hid (∀ w', IsW W (.slice (some ⟨b8, o8, none⟩) W.length cu) w' -> w'.cell? ⟨b8, o8 + a, none⟩ = some (.int .u8 (y : Int)) /\ w'.cell? ⟨b8, o8 + (a + 1), none⟩ = some (.int .u8 (z : Int)) /\ w'.cell? ⟨b8, o8 + a + 1, none⟩ = some (.int .u8 (z : Int))) := fun w' h => by
        obtain ⟨b, o, c', h1, h2, h3⟩ := HD.out w' h
        cases h1
        exact ⟨h2, h3, h3⟩
      clear hcy hcz hv8 HD
      go_upto_region 27 with (fail)
      clear g0 g1 g2 g3 g4 g5 g6 g7 g8 g9
      refine wp_region_stable (S := (EnO (some ⟨ba, oa, none⟩) l c (.slice (some ⟨b8, o8, none⟩) W.length cu) W w.heap.size ⟨9, (p : Int), nb, nlo, nhi, ncls, ntext⟩ (rowL (W.length + 1) fun _ => 0) v3 w2)) (hSt := fun _ _ h hb => h.later hb) (plan := [[(3, none)], [(165, some 0)], [(2, none)], [(3, none)], [(167, some 2), (168, some 3)], [(169, some 4)], [(170, some 5)], [(171, some 6)], [(166, some 1), (172, some 7)], [(2, none)], [(3, none)], [(175, some 10)], [(174, some 9), (176, some 11)], [(177, some 12)], [(178, some 13)], [(173, some 8), (179, some 14)], [(180, some 15)]]) (by kernel_rfl) (by kernel_rfl) (by kernel_rfl) ?hS ?_
      rotate_left
      iterate 17 first
        | (refine chain_skip (by rfl) (by rfl) ?_)
        | (apply chain_want (by rfl)
           · intro act wx hS hr
             simp at hr
             obtain ⟨hcy, hcz, hcz2⟩ := HCL.out _ hS.s.t.wd
             go_simp
             (try go_ints)
             first
               | exact Done.same
          )
      show ∀ w', _ -> _
      intro w4 hw4
      simp [Act.put]
      case hS => exact HE3.out
      clear HE3 HCL
      have HE3 := Lib.hid hw4
      clear hw4
      have gg := HE3.out.s.x
      obtain ⟨g0, g1, g2, g3, g4, g5, g6, g7, g8, g9⟩ := ten_cells gg
      clear gg
      clear HV HE2 hto
      have halz2 : (to_ : Int) < (W.length : Int) + 1 := by omega
      have hbb : (to_ : Int) < (to_ : Int) + 1 := by omega
      obtain ⟨gO, c8, hv8, hbg8, -, -, -, -⟩ := HE3.out.own.put (k := to_) (by rw [rowL_length]; omega) ((0 : Nat) : Int)
      rw [rowL_length] at hv8
      subst hv8
      clear hbg8
      have hn1 : (to_ : Int) <= (cu : Int) := by omega
      have HC : Hid (∀ w', EnO (some ⟨ba, oa, none⟩) l c (.slice (some ⟨b8, o8, none⟩) W.length cu) W w.heap.size ⟨9, (p : Int), nb, nlo, nhi, ncls, ntext⟩ (rowL (W.length + 1) fun _ => 0) (.slice (some ⟨gO, 0, none⟩) (W.length + 1) c8) w2 w' -> Calls Try.prog 27 #[.agg #[.slice (some ⟨ba, oa, none⟩) l.length c], .int .i64 (p : Int), .slice (some ⟨b8, o8, none⟩) to_ cu, .int .i64 ((a : Int) + 2)] w' (RwN (rowL (to_ + 1) (rowV l p (W.take to_) (a + 2))) w')) := fun w' h => by
        have hl : (W.take to_).length = to_ := by rw [List.length_take]; omega
        have := HEP.out (.slice (some ⟨b8, o8, none⟩) to_ cu) (W.take to_) (a + 2) w' h.s.t.row (h.s.t.wd.taken hto2) (by rw [hl]; have := HN.out; omega) (by rw [hl]; omega)
        rw [hl, show ((a + 2 : Nat) : Int) = (a : Int) + 2 by omega] at this
        exact this
      have HXV : Hid (rowV l p (W.take to_) (a + 2) to_ = xv) := by unfold Hid; rw [row_take (Nat.le_refl _)]; exact hxv
      have HTO2 := Lib.hid hto2
      have hxz : xv <= 2 := by rw [<- hxv]; exact rowV_le
      clear hxv hto2
      go_upto_region 29 with (fail)
      clear g0 g1 g2 g3 g4 g5 g6 g7 g8 g9
      refine wp_region_stable_last (S := (EnO (some ⟨ba, oa, none⟩) l c (.slice (some ⟨b8, o8, none⟩) W.length cu) W w.heap.size ⟨9, (p : Int), nb, nlo, nhi, ncls, ntext⟩ (rowL (W.length + 1) fun _ => 0) (.slice (some ⟨gO, 0, none⟩) (W.length + 1) c8) w2)) (hSt := fun _ _ h hb => h.later hb) (plan := [[(10, none)], [(12, none)], [(4, none)], [(9, none)], [(188, some 3)], [(2, none)], [(12, none)], [(190, some 5), (191, some 6)], [(3, none)], [(193, some 8)], [(187, some 2), (189, some 4), (192, some 7), (194, some 9)], [(12, none)], [(195, some 10), (196, some 11)], [(197, some 12)], [(185, some 0), (186, some 1)]]) rfl (by kernel_rfl) (by kernel_rfl) (by kernel_rfl) (by kernel_rfl) ?hS ?_
      rotate_left
      simp only [List.dropLast]
      iterate 10 first
        | (refine chain_skip (by rfl) (by rfl) ?_)
        | (apply chain_want (by rfl)
           · intro act wx hS hr
             simp at hr
             have gg := hS.s.x
             obtain ⟨g0, g1, g2, g3, g4, g5, g6, g7, g8, g9⟩ := ten_cells gg
             have d0 := hS.s.t.box.cell 0
             simp at d0
             clear gg
             go_simp
             (try go_ints)
             first
               | exact Done.same
          )
      (refine chain_rel (OwV w2.heap.size (rowL (to_ + 1) (rowV l p (W.take to_) (a + 2)))) (OwV.later w2.heap.size (rowL (to_ + 1) (rowV l p (W.take to_) (a + 2)))) (by rfl) ?_ ?_
       · intro act wx hS hr
         simp at hr
         have gg := hS.s.x
         obtain ⟨g0, g1, g2, g3, g4, g5, g6, g7, g8, g9⟩ := ten_cells gg
         have d0 := hS.s.t.box.cell 0
         simp at d0
         clear gg
         all_goals go_simp
         ((refine (HC.out _ hS).mono ?_); rintro e w5 ⟨x5, rfl, hx5, hb5⟩; exact Done.rel hb5 (OwnI.mono hx5 hS.s.bel.size))
      )
      iterate 1 first
        | (refine chain_skip (by rfl) (by rfl) ?_)
        | (apply chain_want (by rfl)
           · intro act wx hS hr
             simp at hr
             have gg := hS.s.x
             obtain ⟨g0, g1, g2, g3, g4, g5, g6, g7, g8, g9⟩ := ten_cells gg
             have d0 := hS.s.t.box.cell 0
             simp at d0
             clear gg
             go_simp
             (try go_ints)
             first
               | exact Done.same
          )
      (refine chain_rel (PtV xv) (PtV.later xv) (by rfl) ?_ ?_
       · intro act wx hS hr
         simp at hr
         have gg := hS.s.x
         obtain ⟨g0, g1, g2, g3, g4, g5, g6, g7, g8, g9⟩ := ten_cells gg
         have d0 := hS.s.t.box.cell 0
         simp at d0
         clear gg
         obtain ⟨⟨u5, hr2, hu5⟩, hr3⟩ := hr
         obtain ⟨A5, c5, rfl, hr5⟩ := OwnI.rd hu5
         obtain ⟨b5, o5, rfl, hlt5, hc5⟩ := hr5 to_ (by rw [rowL_length]; exact Nat.lt_succ_self _)
         rw [rowL_at (Nat.lt_succ_self _), HXV.out] at hc5
         simp only [rowL_length] at hr2
         all_goals go_simp
         exact Done.rel (p := PtV xv) (Below.refl _ _) ⟨_, _, rfl, hlt5, hc5⟩
      )
      (refine chain_rel (EqV xv) (EqV.later xv) (by rfl) ?_ ?_
       · intro act wx hS hr
         simp at hr
         have gg := hS.s.x
         obtain ⟨g0, g1, g2, g3, g4, g5, g6, g7, g8, g9⟩ := ten_cells gg
         have d0 := hS.s.t.box.cell 0
         simp at d0
         clear gg
         obtain ⟨u5, hr2, b5, o5, rfl, hlt5, hc5⟩ := hr
         all_goals go_simp
         exact Done.rel (Below.refl _ _) rfl
      )
      iterate 1 first
        | (refine chain_skip (by rfl) (by rfl) ?_)
        | (apply chain_want (by rfl)
           · intro act wx hS hr
             simp at hr
             have gg := hS.s.x
             obtain ⟨g0, g1, g2, g3, g4, g5, g6, g7, g8, g9⟩ := ten_cells gg
             have d0 := hS.s.t.box.cell 0
             simp at d0
             clear gg
             go_simp
             (try go_ints)
             first
               | exact Done.same
          )
      show ∀ w', _ -> _
      intro w9 hw9
      simp [Act.put]
      case hS => exact HE3.out
      intro v5 h5 v12 h12 v13 h13
      unfold EqV at h13
      subst h13
      obtain ⟨gP, c9, hv9, hbg9, -, hset9, hcl9, hfz9⟩ := hw9.own.put (k := to_) (by rw [rowL_length]; have := HTO2.out; omega) ((xv : Nat) : Int)
      rw [rowL_length] at hv9
      obtain ⟨e1, -, -⟩ := Value.slice.inj hv9
      cases e1
      have HPF : Hid (RwN ((rowL (W.length + 1) fun _ => 0).set to_ ((xv : Nat) : Int)) w (.returned (.slice (some ⟨gO, 0, none⟩) (W.length + 1) c8)) (w9.setCell ⟨gO, to_, none⟩ (.int .i64 ((xv : Nat) : Int)))) := ⟨_, rfl, hset9.mono HB3.out.size, HB3.out.trans ((hw9.s.bel.setCell (p := ⟨gO, to_, none⟩) hbg9 _).mono HB3.out.size)⟩
      clear h5 h12 hv9 hbg9 hset9 hw9 HE3 HC
      go_wp2
      go_ret
      exact HPF.out
    · rw [if_neg (fun h => hto2 h.2)]
      obtain ⟨ba, oa, rfl, -, -⟩ := hrow i hi
      have hb1 := (Below.refl w.heap.size w).alloc (Nat.le_refl _) (.cells #[.slice (some ⟨ba, oa, none⟩) l.length c] 24)
      have hz1 := Blk.new w #[.slice (some ⟨ba, oa, none⟩) l.length c] 24
      have hs1 : (w.alloc (.cells #[.slice (some ⟨ba, oa, none⟩) l.length c] 24)).heap.size = w.heap.size + 1 := World.size_alloc _ _
      have hrow1 := hrow.later hb1
      have hw1 := hw.later hb1
      have g := hrow1.at hi rfl
      have hil : (i : Int) < (l.length : Int) := by omega
      have hi0 : ¬ (i : Int) < 0 := by omega
      have hnz : (W.length : Int) <= 1000 := by omega
      have hbz : (a : Int) <= (W.length : Int) := by omega
      have hbz2 : (a : Int) < (W.length : Int) + 1 := by omega
      have hbz0 : ¬ (a : Int) < 0 := by omega
      have HN := Lib.hid hn
      have HA := Lib.hid ha
      obtain ⟨Au, cu, rfl, hcu⟩ := hw.sl
      have hn : atN l i = l.getD i nd0 := rfl
      rw [hn] at hk
      (try rw [hn] at HV)
      generalize l.getD i nd0 = nd at *
      clear hrow hw hn ha hi
      go_enter Try.func27, Try.ntmps27
      go_upto_region 1 with (fail)
      generalize w.alloc (.cells #[.slice (some ⟨ba, oa, none⟩) l.length c] 24) = w1 at *
      have hb2 := (Below.refl w1.heap.size w1).alloc (Nat.le_refl _) (.cells (ndC nd) 44)
      have hz2 := Blk.new w1 (ndC nd) 44
      rw [hs1] at hz2
      have HE2 : Hid (RnS (some ⟨ba, oa, none⟩) l c (.slice Au W.length cu) W w.heap.size nd (w1.alloc (.cells (ndC nd) 44)) (w1.alloc (.cells (ndC nd) 44))) := ⟨⟨hrow1.later hb2, hw1.later hb2, hz1.later hb2⟩, hz2, Below.refl _ _⟩
      have HB3 := Lib.hid (hb1.trans (hb2.mono hb1.size))
      have d0 := hz1.cell 0
      simp at d0
      clear hb1 hz1 hb2 hz2 hrow1 hw1
      obtain ⟨kk, na, nb, nlo, nhi, ncls, ntext⟩ := nd
      unfold At10 at g
      simp only at g hk HV
      subst hk
      obtain ⟨g0, g1, g2, g3, g4, g5, g6, g7, g8, g9⟩ := g
      have hndc : ndC ⟨9, na, nb, nlo, nhi, ncls, ntext⟩ = #[.int .i64 9, .int .i64 na, .int .i64 nb, .int .i64 nlo, .int .i64 nhi, .int .u64 (wd ncls 0), .int .u64 (wd ncls 1), .int .u64 (wd ncls 2), .int .u64 (wd ncls 3), .string (bs ntext)] := rfl
      rw [hndc] at HE2 HB3
      clear hndc
      go_upto_region 2 with (fail)
      clear g0 g1 g2 g3 g4 g5 g6 g7 g8 g9 d0
      generalize w1.alloc (.cells #[.int .i64 9, .int .i64 na, .int .i64 nb, .int .i64 nlo, .int .i64 nhi, .int .u64 (wd ncls 0), .int .u64 (wd ncls 1), .int .u64 (wd ncls 2), .int .u64 (wd ncls 3), .string (bs ntext)] 44) = w2 at *
      have HZ := Lib.hid (rzero_any (.slice Au W.length cu) W w2 HE2.out.t.wd HN.out)
      go_wp2_with fail
      refine HZ.out.mono ?_; rintro e w3 ⟨v3, rfl, ho3, hb3⟩
      have HE3 : Hid (EnO (some ⟨ba, oa, none⟩) l c (.slice Au W.length cu) W w.heap.size ⟨9, na, nb, nlo, nhi, ncls, ntext⟩ (rowL (W.length + 1) fun _ => 0) v3 w2 w3) := ⟨HE2.out.later hb3, ho3⟩
      clear ho3 hb3 HZ
      have gg := HE3.out.s.x
      obtain ⟨g0, g1, g2, g3, g4, g5, g6, g7, g8, g9⟩ := ten_cells gg
      clear gg
      clear hw0
      have halz : (a : Int) + 1 < (W.length : Int) := by omega
      have halz3 : (a : Int) < (W.length : Int) := by omega
      have htoz : ¬ (to_ : Int) <= (W.length : Int) := by omega
      obtain ⟨b8, o8, c8, hv8, hcy, hcz⟩ := HD.out _ HE3.out.s.t.wd
      obtain ⟨rfl, -, rfl⟩ := Value.slice.inj hv8
      have HCL : Hid (∀ w', IsW W (.slice (some ⟨b8, o8, none⟩) W.length cu) w' -> w'.cell? ⟨b8, o8 + a, none⟩ = some (.int .u8 (y : Int)) /\ w'.cell? ⟨b8, o8 + (a + 1), none⟩ = some (.int .u8 (z : Int)) /\ w'.cell? ⟨b8, o8 + a + 1, none⟩ = some (.int .u8 (z : Int))) := fun w' h => by
        obtain ⟨b, o, c', h1, h2, h3⟩ := HD.out w' h
        cases h1
        exact ⟨h2, h3, h3⟩
      clear hcy hcz hv8 HD
      go_upto_region 27 with (fail)
      clear g0 g1 g2 g3 g4 g5 g6 g7 g8 g9
      refine wp_region_stable (S := (EnO (some ⟨ba, oa, none⟩) l c (.slice (some ⟨b8, o8, none⟩) W.length cu) W w.heap.size ⟨9, na, nb, nlo, nhi, ncls, ntext⟩ (rowL (W.length + 1) fun _ => 0) v3 w2)) (hSt := fun _ _ h hb => h.later hb) (plan := [[(3, none)], [(165, some 0)], [(2, none)], [(3, none)], [(167, some 2), (168, some 3)], [(169, some 4)], [(170, some 5)], [(171, some 6)], [(166, some 1), (172, some 7)], [(2, none)], [(3, none)], [(175, some 10)], [(174, some 9), (176, some 11)], [(177, some 12)], [(178, some 13)], [(173, some 8), (179, some 14)], [(180, some 15)]]) (by kernel_rfl) (by kernel_rfl) (by kernel_rfl) ?hS ?_
      rotate_left
      iterate 17 first
        | (refine chain_skip (by rfl) (by rfl) ?_)
        | (apply chain_want (by rfl)
           · intro act wx hS hr
             simp at hr
             obtain ⟨hcy, hcz, hcz2⟩ := HCL.out _ hS.s.t.wd
             go_simp
             (try go_ints)
             first
               | exact Done.same
          )
      show ∀ w', _ -> _
      intro w4 hw4
      simp [Act.put]
      case hS => exact HE3.out
      clear HE3 HCL
      have HE3 := Lib.hid hw4
      clear hw4
      have gg := HE3.out.s.x
      obtain ⟨g0, g1, g2, g3, g4, g5, g6, g7, g8, g9⟩ := ten_cells gg
      clear gg
      have HOX := Lib.hid HE3.out.own
      have HBX := Lib.hid HE3.out.s.bel
      clear HV HE2 hto HE3
      have HPF : Hid (RwN (rowL (W.length + 1) fun _ => 0) w (.returned v3) w4) := ⟨_, rfl, HOX.out.mono HB3.out.size, HB3.out.trans (HBX.out.mono HB3.out.size)⟩
      clear HOX HBX
      go_wp2
      go_ret
      exact HPF.out
  · rw [if_neg (fun h => hal h.1)]
    obtain ⟨ba, oa, rfl, -, -⟩ := hrow i hi
    have hb1 := (Below.refl w.heap.size w).alloc (Nat.le_refl _) (.cells #[.slice (some ⟨ba, oa, none⟩) l.length c] 24)
    have hz1 := Blk.new w #[.slice (some ⟨ba, oa, none⟩) l.length c] 24
    have hs1 : (w.alloc (.cells #[.slice (some ⟨ba, oa, none⟩) l.length c] 24)).heap.size = w.heap.size + 1 := World.size_alloc _ _
    have hrow1 := hrow.later hb1
    have hw1 := hw.later hb1
    have g := hrow1.at hi rfl
    have hil : (i : Int) < (l.length : Int) := by omega
    have hi0 : ¬ (i : Int) < 0 := by omega
    have hnz : (W.length : Int) <= 1000 := by omega
    have hbz : (a : Int) <= (W.length : Int) := by omega
    have hbz2 : (a : Int) < (W.length : Int) + 1 := by omega
    have hbz0 : ¬ (a : Int) < 0 := by omega
    have HN := Lib.hid hn
    have HA := Lib.hid ha
    obtain ⟨Au, cu, rfl, hcu⟩ := hw.sl
    have hn : atN l i = l.getD i nd0 := rfl
    rw [hn] at hk
    (try rw [hn] at HV)
    generalize l.getD i nd0 = nd at *
    clear hrow hw hn ha hi
    go_enter Try.func27, Try.ntmps27
    go_upto_region 1 with (fail)
    generalize w.alloc (.cells #[.slice (some ⟨ba, oa, none⟩) l.length c] 24) = w1 at *
    have hb2 := (Below.refl w1.heap.size w1).alloc (Nat.le_refl _) (.cells (ndC nd) 44)
    have hz2 := Blk.new w1 (ndC nd) 44
    rw [hs1] at hz2
    have HE2 : Hid (RnS (some ⟨ba, oa, none⟩) l c (.slice Au W.length cu) W w.heap.size nd (w1.alloc (.cells (ndC nd) 44)) (w1.alloc (.cells (ndC nd) 44))) := ⟨⟨hrow1.later hb2, hw1.later hb2, hz1.later hb2⟩, hz2, Below.refl _ _⟩
    have HB3 := Lib.hid (hb1.trans (hb2.mono hb1.size))
    have d0 := hz1.cell 0
    simp at d0
    clear hb1 hz1 hb2 hz2 hrow1 hw1
    obtain ⟨kk, na, nb, nlo, nhi, ncls, ntext⟩ := nd
    unfold At10 at g
    simp only at g hk HV
    subst hk
    obtain ⟨g0, g1, g2, g3, g4, g5, g6, g7, g8, g9⟩ := g
    have hndc : ndC ⟨9, na, nb, nlo, nhi, ncls, ntext⟩ = #[.int .i64 9, .int .i64 na, .int .i64 nb, .int .i64 nlo, .int .i64 nhi, .int .u64 (wd ncls 0), .int .u64 (wd ncls 1), .int .u64 (wd ncls 2), .int .u64 (wd ncls 3), .string (bs ntext)] := rfl
    rw [hndc] at HE2 HB3
    clear hndc
    go_upto_region 2 with (fail)
    clear g0 g1 g2 g3 g4 g5 g6 g7 g8 g9 d0
    generalize w1.alloc (.cells #[.int .i64 9, .int .i64 na, .int .i64 nb, .int .i64 nlo, .int .i64 nhi, .int .u64 (wd ncls 0), .int .u64 (wd ncls 1), .int .u64 (wd ncls 2), .int .u64 (wd ncls 3), .string (bs ntext)] 44) = w2 at *
    have HZ := Lib.hid (rzero_any (.slice Au W.length cu) W w2 HE2.out.t.wd HN.out)
    go_wp2_with fail
    refine HZ.out.mono ?_; rintro e w3 ⟨v3, rfl, ho3, hb3⟩
    have HE3 : Hid (EnO (some ⟨ba, oa, none⟩) l c (.slice Au W.length cu) W w.heap.size ⟨9, na, nb, nlo, nhi, ncls, ntext⟩ (rowL (W.length + 1) fun _ => 0) v3 w2 w3) := ⟨HE2.out.later hb3, ho3⟩
    clear ho3 hb3 HZ
    have gg := HE3.out.s.x
    obtain ⟨g0, g1, g2, g3, g4, g5, g6, g7, g8, g9⟩ := ten_cells gg
    clear gg
    clear hw0
    have hz : ¬ (a : Int) + 1 < (W.length : Int) := by omega
    have HOX := Lib.hid HE3.out.own
    have HBX := Lib.hid HE3.out.s.bel
    clear HE3 HE2
    have HPF : Hid (RwN (rowL (W.length + 1) fun _ => 0) w (.returned v3) w3) := ⟨_, rfl, HOX.out.mono HB3.out.size, HB3.out.trans (HBX.out.mono HB3.out.size)⟩
    clear HOX HBX
    go_wp2
    go_ret
    exact HPF.out
theorem rends_all {A : Option Addr} {l : List Nd} {c : Nat} (hF : Form l) (hT : ∀ n ∈ l, n.text.length <= 1073741824) : ∀ i, i < l.length -> EndR A l c i := by
  intro i
  induction i using Nat.strongRecOn with
  | ind i ih =>
    intro hi
    have hE : ∀ j, j < i -> EndR A l c j := fun j hj => ih j hj (by omega)
    have ht : (atN l i).text.length <= 1073741824 := by
      have e : atN l i = l[i] := by unfold atN; rw [List.getD_eq_getElem?_getD, List.getElem?_eq_getElem hi]; rfl
      rw [e]; exact hT _ (List.getElem_mem hi)
    have h := (hF.2.1 i hi).2
    by_cases h1 : (atN l i).kind = 1
    · exact rends_k1 hF hi h1
    by_cases h2 : (atN l i).kind = 2
    · exact rends_k2 hF hi h2
    by_cases h3 : (atN l i).kind = 3
    · exact rends_k3 hF hi ht h3
    by_cases h4 : (atN l i).kind = 4
    · exact rends_k4 hF hi h4 hE
    by_cases h5 : (atN l i).kind = 5
    · exact rends_k5 hF hi h5 hE
    by_cases h6 : (atN l i).kind = 6
    · exact rends_k6 hF hi h6 hE
    by_cases h7 : (atN l i).kind = 7
    · exact rends_k7 hF hi h7 hE
    by_cases h8 : (atN l i).kind = 8
    · exact rends_k8 hF hi h8 hE
    · exact rends_k9 hF hi (by omega) hE
set_option maxHeartbeats 4000000 in
theorem rways12_any {A : Option Addr} {l : List Nd} {c : Nat} (hF : Form l) (hT : ∀ n ∈ l, n.text.length <= 1073741824) (hl : l.length <= 4096) (uw : Value) (W : Wd) (w : World) (hrow : NRow w A l) (hw : IsW W uw w) (hn : W.length <= 1000) :
    Calls Try.prog 12 #[.agg #[.slice A l.length c], uw] w (Ans w (.int .i64 ((rowV l (l.length - 1) W 0 W.length : Nat) : Int))) := by
  have hpos : 0 < l.length := hF.1
  have hb1 := (Below.refl w.heap.size w).alloc (Nat.le_refl _) (.cells #[.slice A l.length c] 24)
  have HC := Lib.hid (rends_all (A := A) (c := c) hF hT (l.length - 1) (by omega) uw W 0 _ (hrow.later hb1) (hw.later hb1) hn (Nat.zero_le _))
  have hz1 := Blk.new w #[.slice A l.length c] 24
  have HB1 := Lib.hid hb1
  rw [show ((l.length - 1 : Nat) : Int) = (l.length : Int) - 1 by omega] at HC
  have hlz : (l.length : Int) <= 4096 := by omega
  have hlz1 : (1 : Int) <= (l.length : Int) := by omega
  obtain ⟨Au, cu, rfl, hcu⟩ := hw.sl
  have hnz : (W.length : Int) <= 1000 := by omega
  clear hrow hw hF hT hb1
  go_enter Try.func12, Try.ntmps12
  go_upto_region 1 with (fail)
  generalize w.alloc (.cells #[.slice A l.length c] 24) = w1 at *
  have d0 := hz1.cell 0
  simp at d0
  clear hz1
  go_wp2_with fail
  refine HC.out.mono ?_; rintro e w2 ⟨v2, rfl, ho2, hb2⟩
  have h3 := OwnI.rd ho2
  rw [rowL_length] at h3
  obtain ⟨A2, c2, rfl, hr2⟩ := h3
  obtain ⟨b2, o2, rfl, -, hc2⟩ := hr2 W.length (by rw [rowL_length]; omega)
  rw [rowL_at (by omega)] at hc2
  have HP : Hid (Ans w (.int .i64 ((rowV l (l.length - 1) W 0 W.length : Nat) : Int)) (.returned (.int .i64 ((rowV l (l.length - 1) W 0 W.length : Nat) : Int))) w2) := ⟨rfl, HB1.out.trans (hb2.mono HB1.out.size)⟩
  have hbb : (W.length : Int) < (W.length : Int) + 1 := by omega
  clear ho2 hb2 HC hr2 d0
  generalize rowV l (l.length - 1) W 0 W.length = x at *
  go_wp2
  go_ret
  exact HP.out
structure Sc (l : List Nd) : Prop where
  form : Form l
  len : l.length <= 4096
  tx : ∀ n ∈ l, n.text.length <= 1073741824
theorem few_sc {l : List Nd} (h : fewB l = true) (hF : Form l) : Sc l := ⟨hF, by have := (few_txt h).1; omega, fun n hn => by have := (few_txt h).2 n hn; omega⟩
section
variable {l : List Nd} {x uw : Value} {W : Wd} {w : World} (h : IsD l x w) (hs : Sc l) (hw : IsW W uw w) (hn : W.length <= 900)
include h hs hw hn
theorem IsD.cways : Calls Try.prog 13 #[x, uw] w (Ans w (.int .i64 ((wyD l W : Nat) : Int))) := by
  obtain ⟨A, c, hc, rfl, hrow⟩ := h
  exact cWays_any hs.form hs.len hs.tx hn w hrow hw
theorem IsD.chas : Calls Try.prog 14 #[x, uw] w (Ans w (.bool (decide (0 < wyD l W)))) := by
  obtain ⟨A, c, hc, rfl, hrow⟩ := h
  exact cHas_any hs.form hs.len hs.tx hn w hrow hw
theorem IsD.cvals : Calls Try.prog 16 #[x, uw] w (VusP w ((EN l (l.length - 1) W).take 2)) := by
  obtain ⟨A, c, hc, rfl, hrow⟩ := h
  exact cvalues_any hs.form hs.len hs.tx hn w hrow hw
theorem IsD.rcways : Calls Try.prog 12 #[x, uw] w (Ans w (.int .i64 ((wyD l W : Nat) : Int))) := by
  obtain ⟨A, c, hc, rfl, hrow⟩ := h
  exact rways12_any hs.form hs.tx hs.len uw W w hrow hw (by omega)
end
def fitsB (n m : Nat) : Bool := decide (n <= 16) && decide (m <= 8)
set_option maxHeartbeats 4000000 in
theorem rfits_any (A Au : Option Addr) (n c m cu : Nat) (w : World) (hn : n <= 9223372036854775807) (hm : m <= 9223372036854775807) : Calls Try.prog 10 #[.agg #[.slice A n c], .slice Au m cu] w (Ans w (.bool (fitsB n m))) := by
  have hb1 := (Below.refl w.heap.size w).alloc (Nat.le_refl _) (.cells #[.slice A n c] 24)
  have hz1 := Blk.new w #[.slice A n c] 24
  have HB1 := Lib.hid hb1
  clear hb1
  unfold fitsB
  by_cases h1 : n <= 16
  · have h1z : (n : Int) <= 16 := by omega
    have hd1 : decide ((n : Int) <= 16) = true := decide_eq_true h1z
    by_cases h2 : m <= 8
    · have h2z : (m : Int) <= 8 := by omega
      have hd2 : decide ((m : Int) <= 8) = true := decide_eq_true h2z
      rw [decide_eq_true h1, decide_eq_true h2]
      go_enter Try.func10, Try.ntmps10
      go_upto_region 1 with (fail)
      generalize w.alloc (.cells #[.slice A n c] 24) = w1 at *
      have d0 := hz1.cell 0
      simp at d0
      go_wp2
      go_ret
      exact ⟨rfl, HB1.out⟩
    · have h2z : ¬ (m : Int) <= 8 := by omega
      have hd2 : decide ((m : Int) <= 8) = false := decide_eq_false h2z
      rw [decide_eq_true h1, decide_eq_false h2]
      go_enter Try.func10, Try.ntmps10
      go_upto_region 1 with (fail)
      generalize w.alloc (.cells #[.slice A n c] 24) = w1 at *
      have d0 := hz1.cell 0
      simp at d0
      go_wp2
      go_ret
      exact ⟨rfl, HB1.out⟩
  · have h1z : ¬ (n : Int) <= 16 := by omega
    have hd1 : decide ((n : Int) <= 16) = false := decide_eq_false h1z
    have hb3 : (decide (n <= 16) && decide (m <= 8)) = false := by rw [decide_eq_false h1]; rfl
    rw [hb3]
    go_enter Try.func10, Try.ntmps10
    go_upto_region 1 with (fail)
    generalize w.alloc (.cells #[.slice A n c] 24) = w1 at *
    have d0 := hz1.cell 0
    simp at d0
    go_wp2
    go_ret
    exact ⟨rfl, HB1.out⟩
end Go.Proofs.Ytpbbokdmoaadfaa
namespace Go.Proofs.Ytpbbokdmoaadfaa
open Go Go.RowKit
set_option linter.unusedVariables false
set_option linter.unusedSimpArgs false
def Awake12 : Prop := ∀ (w : World), Calls Try.prog 8 #[] w (Ans w (.bool true))
structure CwS (w0 : World) (A : Option Addr) (l : List Nd) (c : Nat) (Aw : Option Addr) (cw : Nat) (W : Wd) (w : World) : Prop where
  bel : Below w0.heap.size w0 w
  row : NRow w A l
  box : Blk w w0.heap.size #[.slice A l.length c] 24
  wd : W.length <= 8 -> IsW W (.slice Aw W.length cw) w
theorem CwS.later {w0 w w' : World} {A : Option Addr} {l : List Nd} {c : Nat} {Aw : Option Addr} {cw : Nat} {W : Wd} (h : CwS w0 A l c Aw cw W w) (hb : Below w.heap.size w w') : CwS w0 A l c Aw cw W w' := ⟨h.bel.trans (hb.mono h.bel.size), h.row.later hb, h.box.later hb, fun k => (h.wd k).later hb⟩
theorem CwS.isD {w0 w : World} {A : Option Addr} {l : List Nd} {c : Nat} {Aw : Option Addr} {cw : Nat} {W : Wd} (h : CwS w0 A l c Aw cw W w) (hc : l.length <= c) : IsD l (.agg #[.slice A l.length c]) w := ⟨A, c, hc, rfl, h.row⟩
set_option maxHeartbeats 64000000 in
set_option maxRecDepth 1000000 in
theorem counttells_walk (HAW : Awake12) (l : List Nd) (A : Option Addr) (c : Nat) (W : Wd) (Aw : Option Addr) (cw : Nat) (hc1 : l.length <= c) (hl : l.length <= 9223372036854775807) (htx : Txt l) (hwl : W.length <= 9223372036854775807) (w : World) (hrow : NRow w A l) (hwd : WdA w Aw cw W) :
    Calls Try.prog 3 #[.agg #[.slice A l.length c], .slice Aw W.length cw] w (Ans w (.bool true)) := by
  have HB := (Below.refl w.heap.size w).alloc (Nat.le_refl _) (.cells #[.slice A l.length c] 24)
  have HS0 : Hid (CwS w A l c Aw cw W (w.alloc (.cells #[.slice A l.length c] 24))) := ⟨HB, hrow.later HB, Blk.new _ _ _, fun k => (hwd.2 (by omega)).later HB⟩
  have HTX := Lib.hid htx
  have hn9 : (W.length : Int) <= 9223372036854775807 := by omega
  clear hrow HB htx hwd
  go_enter Try.func3, Try.ntmps3
  go_upto_region 1 with (fail)
  generalize w.alloc (.cells #[.slice A l.length c] 24) = w1 at *
  go_wp2_with fail
  refine (HAW _).mono ?_; rintro e w2 ⟨rfl, hb⟩
  have HS2 := Lib.hid (HS0.out.later hb)
  clear hb HS0
  have e0 := HS2.out.box.cell 0
  simp at e0
  have HF := Lib.hid (few_any l A c hl HTX.out _ HS2.out.row)
  cases hf : fewB l with
  | false =>
    rw [hf] at HF
    clear hf
    go_wp2_with fail
    refine HF.out.mono ?_; rintro e w3 ⟨rfl, hb⟩
    have HS3 := Lib.hid (HS2.out.later hb)
    clear hb e0 HF HS2
    go_wp2_with fail
    refine (HAW _).mono ?_; rintro e w4 ⟨rfl, hb⟩
    have HSY := Lib.hid (HS3.out.later hb)
    clear hb
    go_wp2
    go_ret
    exact ⟨rfl, HSY.out.bel⟩
  | true =>
    rw [hf] at HF
    have L1 := Lib.hid (few_txt hf).1
    have HFW := Lib.hid hf
    clear hf
    go_wp2_with fail
    refine HF.out.mono ?_; rintro e w3 ⟨rfl, hb⟩
    have HS3 := Lib.hid (HS2.out.later hb)
    clear hb e0 HF HS2
    have e0 := HS3.out.box.cell 0
    simp at e0
    have HF := Lib.hid (rfits_any A Aw l.length c W.length cw w3 hl hwl)
    cases hf : fitsB l.length W.length with
    | false =>
      rw [hf] at HF
      clear hf
      go_wp2_with fail
      refine HF.out.mono ?_; rintro e w4 ⟨rfl, hb⟩
      have HS4 := Lib.hid (HS3.out.later hb)
      clear hb e0 HF HS3
      go_wp2_with fail
      refine (HAW _).mono ?_; rintro e w5 ⟨rfl, hb⟩
      have HSY := Lib.hid (HS4.out.later hb)
      clear hb
      go_wp2
      go_ret
      exact ⟨rfl, HSY.out.bel⟩
    | true =>
      rw [hf] at HF
      have HW8 : Hid (W.length <= 8) := by
        unfold fitsB at hf
        simp at hf
        exact hf.2
      clear hf
      go_wp2_with fail
      refine HF.out.mono ?_; rintro e w4 ⟨rfl, hb⟩
      have HS4 := Lib.hid (HS3.out.later hb)
      clear hb e0 HF HS3
      have e0 := HS4.out.box.cell 0
      simp at e0
      have HF := Lib.hid (rright_any l A c hc1 (by have := L1.out; omega) HTX.out _ HS4.out.row)
      cases hf : rgB l with
      | false =>
        rw [hf] at HF
        clear hf
        go_wp2_with fail
        refine HF.out.mono ?_; rintro e w5 ⟨rfl, hb⟩
        have HS5 := Lib.hid (HS4.out.later hb)
        clear hb e0 HF HS4
        go_wp2_with fail
        refine (HAW _).mono ?_; rintro e w6 ⟨rfl, hb⟩
        have HSY := Lib.hid (HS5.out.later hb)
        clear hb
        go_wp2
        go_ret
        exact ⟨rfl, HSY.out.bel⟩
      | true =>
        rw [hf] at HF
        have hrg := (rgB_iff l).1 hf
        have HSC := Lib.hid (few_sc HFW.out hrg.1)
        clear hf hrg
        go_wp2_with fail
        refine HF.out.mono ?_; rintro e w5 ⟨rfl, hb⟩
        have HS5 := Lib.hid (HS4.out.later hb)
        clear hb e0 HF HS4
        have e0 := HS5.out.box.cell 0
        simp at e0
        have HR := Lib.hid ((HS5.out.isD hc1).rcways HSC.out (HS5.out.wd HW8.out) (by have := HW8.out; omega))
        have HWY : Hid (∀ w', CwS w A l c Aw cw W w' -> Calls Try.prog 13 #[.agg #[.slice A l.length c], .slice Aw W.length cw] w' (Ans w' (.int .i64 ((wyD l W : Nat) : Int)))) := fun w' h => (h.isD hc1).cways HSC.out (h.wd HW8.out) (by have := HW8.out; omega)
        have HHS : Hid (∀ w', CwS w A l c Aw cw W w' -> Calls Try.prog 14 #[.agg #[.slice A l.length c], .slice Aw W.length cw] w' (Ans w' (.bool (decide (0 < wyD l W))))) := fun w' h => (h.isD hc1).chas HSC.out (h.wd HW8.out) (by have := HW8.out; omega)
        have hdd : decide (((wyD l W : Nat) : Int) > 0) = decide (0 < wyD l W) := by rw [decide_eq_decide]; omega
        generalize wyD l W = n at *
        go_wp2_with fail
        refine HR.out.mono ?_; rintro e w6 ⟨rfl, hb⟩
        have HS6 := Lib.hid (HS5.out.later hb)
        clear hb e0 HR HS5
        have e0 := HS6.out.box.cell 0
        simp at e0
        go_upto_region 4 with (fail)
        clear e0
        refine wp_region_stable (S := (CwS w A l c Aw cw W)) (hSt := fun _ _ h hb => h.later hb) (plan := [[(2, none)], [(1, none)], [(28, some 0), (29, some 1)], [(5, none)], [(30, some 2), (31, some 3)], [(32, some 4)], [(2, none)], [(1, none)], [(34, some 6), (35, some 7)], [(5, none)], [(37, some 9)], [(36, some 8), (38, some 10)], [(33, some 5), (39, some 11)], [(40, some 12)]]) (by kernel_rfl) (by kernel_rfl) (by kernel_rfl) ?hS ?_
        rotate_left
        iterate 14 first
          | (refine chain_skip (by rfl) (by rfl) ?_)
          | (apply chain_want (by rfl)
             · intro act wx hS hr
               simp at hr
               have e0 := hS.box.cell 0
               simp at e0
               go_simp
               (try go_ints)
               first
                 | ((refine (HWY.out _ hS).mono ?_); rintro e w5 ⟨rfl, hb5⟩; exact Done.mk hb5)
                 | ((refine (HHS.out _ hS).mono ?_); rintro e w5 ⟨rfl, hb5⟩; exact Done.mk hb5)
                 | exact Done.same
            )
        show ∀ w', _ -> _
        intro w9 hw9
        simp [Act.put]
        case hS => exact HS6.out
        go_wp2
        go_ret
        exact ⟨by simp, hw9.bel⟩
structure Dx (b : Nat) (A : Option Addr) (l : List Nd) (n c : Nat) (w : World) : Prop where
  cap : l.length <= c
  len : l.length = n
  box : Blk w b #[.slice A n c] 24
  row : NRow w A l
theorem Dx.later {b : Nat} {A : Option Addr} {l : List Nd} {n c : Nat} {w w' : World} (h : Dx b A l n c w) (hb : Below w.heap.size w w') : Dx b A l n c w' := ⟨h.cap, h.len, h.box.later hb, h.row.later hb⟩
theorem Dx.isD {b : Nat} {A : Option Addr} {l : List Nd} {n c : Nat} {w : World} (h : Dx b A l n c w) : IsD l (.agg #[.slice A n c]) w := ⟨A, c, h.cap, by rw [h.len], h.row⟩
theorem Dx.load {b : Nat} {A : Option Addr} {l : List Nd} {n c : Nat} {w : World} (h : Dx b A l n c w) : w.cell? ⟨b, 0, none⟩ = some (.slice A n c) := by
  have := h.box.cell 0; simpa using this
theorem nrow_one {n : Nd} {b : Nat} {w : World} (h : Blk w b (ndC n) 44) : NRow w (some ⟨b, 0, none⟩) [n] := fun i hi => by
  obtain rfl : i = 0 := by simpa using hi
  exact ⟨b, 0, rfl, h.lt, fun j _ => by rw [h.cell]; simp⟩
theorem dx_one (n : Nd) (w : World) {cs : Array Value} (hc : ndC n = cs) : Dx (w.heap.size + 1) (some ⟨w.heap.size, 0, none⟩) [n] 1 1 ((w.alloc (.cells cs 44)).alloc (.cells #[.slice (some ⟨w.heap.size, 0, none⟩) 1 1] 24)) /\ Below w.heap.size w ((w.alloc (.cells cs 44)).alloc (.cells #[.slice (some ⟨w.heap.size, 0, none⟩) 1 1] 24)) := by
  subst hc
  exact ⟨⟨by simp, rfl, Blk.new' (by simp) _ _, nrow_one ((Blk.new w _ _).alloc _)⟩, ((Below.refl w.heap.size w).alloc (Nat.le_refl _) _).alloc (by simp) _⟩
theorem dx_of {l : List Nd} {w : World} {A : Option Addr} {n c : Nat} (hr : NRow w A l) (hl : l.length = n) (hc : n <= c) : Dx w.heap.size A l n c (w.alloc (.cells #[.slice A n c] 24)) :=
  ⟨by omega, hl, Blk.new w _ _, hr.later ((Below.refl w.heap.size w).alloc (Nat.le_refl _) _)⟩
set_option maxRecDepth 100000
def cwDn : Nd := { kind := 2, cls := rowB 0 255 }
def cwTn : Nd := { kind := 3, text := [97] }
def cwD : List Nd := [cwDn]
def cwT : List Nd := [cwTn]
def cwO : List Nd := pairL 5 cwD cwT
def cwS : List Nd := wrapL 6 0 0 cwO
def cwF : List Nd := wrapL 8 0 0 cwS
theorem cwO_a : wyD cwO [97] = 2 := by kernel_rfl
theorem cwO_b : wyD cwO [98] = 1 := by kernel_rfl
theorem cwO_e : wyD cwO [] = 0 := by kernel_rfl
theorem cwS_e : decide (0 < wyD cwS []) = true := by kernel_rfl
theorem cwS_ba : wyD cwS [98, 97] = 2 := by kernel_rfl
theorem cwF_1 : wyD cwF [1, 98] = 1 := by kernel_rfl
theorem cwF_2 : wyD cwF [2, 98] = 0 := by kernel_rfl
theorem cwD_sp : Sp cwD := sp_one ⟨rfl, .inr (.inl rfl)⟩ (.inr (.inl rfl)) (by decide)
theorem cwT_sp : Sp cwT := sp_one ⟨rfl, .inr (.inr (.inl ⟨rfl, by decide⟩))⟩ (.inr (.inr rfl)) (by decide)
theorem cwO_sp : Sp cwO := cwD_sp.pair cwT_sp (by decide) (.inr rfl)
theorem cwS_sp : Sp cwS := cwO_sp.wrap (by decide) (.inl rfl)
theorem cwF_sp : Sp cwF := cwS_sp.wrap (by decide) (.inr (.inl rfl))
theorem cwO_sc : Sc cwO := ⟨cwO_sp.sm.form, by decide, by decide⟩
theorem cwS_sc : Sc cwS := ⟨cwS_sp.sm.form, by decide, by decide⟩
theorem cwF_sc : Sc cwF := ⟨cwF_sp.sm.form, by decide, by decide⟩
def cwV1 : Vl := ⟨5, 0, [], 0, Vs.of [⟨2, 97, [], 0, .nil⟩]⟩
def cwV2 : Vl := ⟨5, 0, [], 1, Vs.of [⟨3, 0, [97], 0, .nil⟩]⟩
theorem cw_e0 : EN cwO 0 [97] = [⟨2, 97, [], 0, .nil⟩] := by
  unfold EN
  rw [if_neg (by decide), if_pos (by decide), if_pos ⟨rfl, by kernel_rfl⟩]
  rfl
theorem cw_e1 : EN cwO 1 [97] = [⟨3, 0, [97], 0, .nil⟩] := by
  unfold EN
  rw [if_neg (by decide), if_neg (by decide), if_pos (by decide), if_pos (by decide)]
  rfl
theorem cw_n0 : EN cwO 0 [] = [] := by
  unfold EN
  rw [if_neg (by decide), if_pos (by decide), if_neg (fun h => by cases h.1)]
theorem cw_n1 : EN cwO 1 [] = [] := by
  unfold EN
  rw [if_neg (by decide), if_neg (by decide), if_pos (by decide), if_neg (by decide)]
theorem cwO_v : (EN cwO (cwO.length - 1) [97]).take 2 = [cwV1, cwV2] := by
  rw [show cwO.length - 1 = 2 from rfl, EN_k5 cwO_sp.sm.form (show 2 < cwO.length by decide) (by decide)]
  show (((EN cwO 0 [97]).map fun x => (⟨5, 0, [], 0, Vs.of [x]⟩ : Vl)) ++ (EN cwO 1 [97]).map fun x => (⟨5, 0, [], 1, Vs.of [x]⟩ : Vl)).take 2 = _
  rw [cw_e0, cw_e1]
  rfl
theorem cwO_v0 : (EN cwO (cwO.length - 1) []).take 2 = [] := by
  rw [show cwO.length - 1 = 2 from rfl, EN_k5 cwO_sp.sm.form (show 2 < cwO.length by decide) (by decide)]
  show (((EN cwO 0 []).map fun x => (⟨5, 0, [], 0, Vs.of [x]⟩ : Vl)) ++ (EN cwO 1 []).map fun x => (⟨5, 0, [], 1, Vs.of [x]⟩ : Vl)).take 2 = _
  rw [cw_n0, cw_n1]
  rfl
theorem cwV_ne : sameV cwV1 cwV2 = false := sameV_f (fun h => by injection h with h1 h2 h3 h4 h5; cases h4)
end Go.Proofs.Ytpbbokdmoaadfaa
