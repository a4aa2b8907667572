/- The document's ways of words: a text's. Walked. -/
import Derived.Test.YtidoofdofdhjpaaM39
import Derived.Test.YtidoofdofdhjpaaM38
namespace Go.Proofs.Ytidoofdofdhjpaa
open Go Go.RowKit
set_option linter.unusedVariables false
set_option linter.unusedSimpArgs false
set_option maxRecDepth 100000
theorem row3_val {l : List Nd} {i : Nat} {W : Wd} {a : Nat} (hk : (atN l i).kind = 3) (ha : a <= W.length) : rowL (W.length + 1) (rowV l i W a) = if a + (atN l i).text.length <= W.length /\ sgW W a (a + (atN l i).text.length) = (atN l i).text then (rowL (W.length + 1) fun _ => 0).set (a + (atN l i).text.length) ((1 : Nat) : Int) else rowL (W.length + 1) fun _ => 0 := by
 by_cases h : a + (atN l i).text.length <= W.length /\ sgW W a (a + (atN l i).text.length) = (atN l i).text
 ·rw [if_pos h, rowL_set (by omega)]
  refine rowL_congr fun b hb => ?_
  rw [row_k3 (by omega) hk]
  by_cases e : b = a + (atN l i).text.length
  ·subst e; rw [if_pos ⟨rfl, h.2⟩, if_pos rfl]
  ·rw [if_neg (fun h' => e h'.1), if_neg e]
 ·rw [if_neg h]
  refine rowL_congr fun b hb => ?_
  rw [row_k3 (by omega) hk, if_neg (fun h' => h ⟨by omega, by rw [<- h'.1]; exact h'.2⟩)]
theorem IsW.part {W : Wd} {b off cap a n : Nat} {w : World} (h : IsW W (.slice (some ⟨b, off, none⟩) W.length cap) w) (hn : a + n <= W.length) : IsW (sgW W a (a + n)) (.slice (some ⟨b, off + a, none⟩) n (cap - a)) w := by
 have h1 := h.dropped (k := a) (by omega)
 have hl : (W.drop a).length = W.length - a := List.length_drop
 rw [<- hl] at h1
 have h2 := h1.taken (k := n) (by omega)
 have e : (W.drop a).take n = sgW W a (a + n) := by unfold sgW; rw [List.drop_take]; congr 1; omega
 rwa [e] at h2
set_option maxHeartbeats 16000000 in
theorem rends_k3 {A : Option Addr} {l : List Nd} {c i : Nat} (hF : Form l) (hi : i < l.length) (htl : (atN l i).text.length <= 1073741824) (hk : (atN l i).kind = 3) : EndR A l c i := fun uw W a w hrow hw hn ha => by
 rw [row3_val hk ha]
 have htx : 0 < (atN l i).text.length := by
  have h := (hF.2.1 i hi).2
  have : textOk (atN l i).text = true := by
   rcases h with h | h | h | h | h | h
   ·omega
   ·omega
   ·exact h.2
   ·omega
   ·omega
   ·omega
  unfold textOk at this
  simp at this
  exact List.length_pos_iff.2 this.1.1
 clear hF
 have hw0 := hw
 obtain ⟨fr, hfr⟩ : ∃ fr, a + (atN l i).text.length = fr := ⟨_, rfl⟩
 by_cases hal : a + (atN l i).text.length <= W.length
 ·have HD : Hid (∀ w', IsW W uw w' -> ∃ b o c', uw = .slice (some ⟨b, o, none⟩) W.length c') := fun w' h => by
   rcases h with ⟨h1, h2⟩ | ⟨b, off, cap, h1, h2, h5, h3, h4⟩
   ·subst h2; simp only [List.length_nil] at hal; omega
   ·exact ⟨b, off, cap, h1⟩
  by_cases hh : sgW W a (a + (atN l i).text.length) = (atN l i).text
  ·rw [if_pos ⟨hal, hh⟩]
   have HV : Hid (a + (atN l i).text.length = fr /\ fr <= W.length /\ decide (sgW W a (a + (atN l i).text.length) = (atN l i).text) = true /\ 0 < (atN l i).text.length) := ⟨hfr, by omega, decide_eq_true hh, htx⟩
   rw [hfr]
   clear hh hal htx htl hfr
   obtain ⟨ba, oa, rfl, -, -⟩ := hrow i hi
   have hb1 := (Below.refl w.heap.size w).alloc (Nat.le_refl _) (.cells #[.slice (some ⟨ba, oa, none⟩) l.length c] 24)
   have hz1 := Blk.new w #[.slice (some ⟨ba, oa, none⟩) l.length c] 24
   have hs1 : (w.alloc (.cells #[.slice (some ⟨ba, oa, none⟩) l.length c] 24)).heap.size = w.heap.size + 1 := World.size_alloc _ _
   have hrow1 := hrow.later hb1
   have hw1 := hw.later hb1
   have g := hrow1.at hi rfl
   have hil : (i : Int) < (l.length : Int) := by omega
   have hi0 : ¬ (i : Int) < 0 := by omega
   have hnz : (W.length : Int) <= 1000 := by omega
   have hbz : (a : Int) <= (W.length : Int) := by omega
   have hbz2 : (a : Int) < (W.length : Int) + 1 := by omega
   have hbz0 : ¬ (a : Int) < 0 := by omega
   have HN := Lib.hid hn
   have HA := Lib.hid ha
   obtain ⟨Au, cu, rfl, hcu⟩ := hw.sl
   have hn : atN l i = l.getD i nd0 := rfl
   rw [hn] at hk
   (try rw [hn] at HV)
   generalize l.getD i nd0 = nd at *
   clear hrow hw hn ha hi
   go_enter Try.func39, Try.ntmps39
   go_upto_region 1 with (fail)
   generalize w.alloc (.cells #[.slice (some ⟨ba, oa, none⟩) l.length c] 24) = w1 at *
   have hb2 := (Below.refl w1.heap.size w1).alloc (Nat.le_refl _) (.cells (ndC nd) 58)
   have hz2 := Blk.new w1 (ndC nd) 58
   rw [hs1] at hz2
   have HE2 : Hid (RnS (some ⟨ba, oa, none⟩) l c (.slice Au W.length cu) W w.heap.size nd (w1.alloc (.cells (ndC nd) 58)) (w1.alloc (.cells (ndC nd) 58))) := ⟨⟨hrow1.later hb2, hw1.later hb2, hz1.later hb2⟩, hz2, Below.refl _ _⟩
   have HB3 := Lib.hid (hb1.trans (hb2.mono hb1.size))
   have d0 := hz1.cell 0
   simp at d0
   clear hb1 hz1 hb2 hz2 hrow1 hw1
   obtain ⟨kk, na, nb, nlo, nhi, ncls, ntext⟩ := nd
   unfold At10 at g
   simp only at g hk HV
   subst hk
   obtain ⟨g0, g1, g2, g3, g4, g5, g6, g7, g8, g9⟩ := g
   have hndc : ndC ⟨3, na, nb, nlo, nhi, ncls, ntext⟩ = #[.int .i64 3, .int .i64 na, .int .i64 nb, .int .i64 nlo, .int .i64 nhi, .int .u64 (wd ncls 0), .int .u64 (wd ncls 1), .int .u64 (wd ncls 2), .int .u64 (wd ncls 3), .string (bs ntext)] := rfl
   rw [hndc] at HE2 HB3
   clear hndc
   go_upto_region 2 with (fail)
   clear g0 g1 g2 g3 g4 g5 g6 g7 g8 g9 d0
   generalize w1.alloc (.cells #[.int .i64 3, .int .i64 na, .int .i64 nb, .int .i64 nlo, .int .i64 nhi, .int .u64 (wd ncls 0), .int .u64 (wd ncls 1), .int .u64 (wd ncls 2), .int .u64 (wd ncls 3), .string (bs ntext)] 58) = w2 at *
   have HZ := Lib.hid (rzero_any (.slice Au W.length cu) W w2 HE2.out.t.wd HN.out)
   go_wp2_with fail
   refine HZ.out.mono ?_; rintro e w3 ⟨v3, rfl, ho3, hb3⟩
   have HE3 : Hid (EnO (some ⟨ba, oa, none⟩) l c (.slice Au W.length cu) W w.heap.size ⟨3, na, nb, nlo, nhi, ncls, ntext⟩ (rowL (W.length + 1) fun _ => 0) v3 w2 w3) := ⟨HE2.out.later hb3, ho3⟩
   clear ho3 hb3 HZ
   have gg := HE3.out.s.x
   obtain ⟨g0, g1, g2, g3, g4, g5, g6, g7, g8, g9⟩ := ten_cells gg
   clear gg
   clear hw0
   have hsz : (bs ntext).size = ntext.length := bs_size _
   obtain ⟨b8, o8, c8, hv8⟩ := HD.out _ HE3.out.s.t.wd
   obtain ⟨rfl, -, rfl⟩ := Value.slice.inj hv8
   have HT : Hid (∀ w', IsW W (.slice (some ⟨b8, o8, none⟩) W.length cu) w' -> (convert 48 9 (.slice (some ⟨b8, o8 + a, none⟩) ntext.length (cu - a))).run Try.prog w' = .ok (.string (bs (sgW W a (a + ntext.length)))) w') := fun w' h => conv_word (IsW.part h (by have := HV.out.1; have := HV.out.2.1; omega))
   have HB : Hid (((bs (sgW W a (a + ntext.length))).toList == (bs ntext).toList) = true) := by
    unfold Hid
    rw [tl_bs, tl_bs, beqd]
    exact HV.out.2.2.1
   have hbq := HB.out
   have hpos := HV.out.2.2.2
   have hfr := HV.out.1
   have hfl := HV.out.2.1
   have hfz : (a : Int) + (ntext.length : Int) = (fr : Int) := by omega
   have halz : (fr : Int) <= (W.length : Int) := by omega
   have hd : decide ((fr : Int) <= (W.length : Int)) = true := decide_eq_true halz
   have hd2 : decide (fr <= W.length) = true := decide_eq_true hfl
   have hn1 : (fr : Int) <= (cu : Int) := by omega
   have hn2 : (a : Int) <= (fr : Int) := by omega
   have hsub0 : fr - a = ntext.length := by omega
   have hca : ¬ cu = a := by omega
   generalize sgW W a (a + ntext.length) = Y at *
   clear hfr hpos hfl HB
   clear hv8 HD HV
   go_upto_region 10 with (fail)
   clear g0 g1 g2 g3 g4 g5 g6 g7 g8 g9
   refine wp_region_stable (S := (EnO (some ⟨ba, oa, none⟩) l c (.slice (some ⟨b8, o8, none⟩) W.length cu) W w.heap.size ⟨3, na, nb, nlo, nhi, ncls, ntext⟩ (rowL (W.length + 1) fun _ => 0) v3 w2)) (hSt := fun _ _ h hb => h.later hb) (plan := [[(3, none)], [(9, none)], [(49, some 1)], [(50, some 2)], [(48, some 0), (51, some 3)], [(2, none)], [(53, some 5)], [(52, some 4), (54, some 6)], [(55, some 7)], [(2, none)], [(3, none)], [(3, none)], [(9, none)], [(60, some 12)], [(61, some 13)], [(59, some 11), (62, some 14)], [(57, some 9), (58, some 10), (63, some 15)], [(64, some 16)], [(9, none)], [(66, some 18)], [(65, some 17), (67, some 19)], [(56, some 8), (68, some 20)]]) (by kernel_rfl) (by kernel_rfl) (by kernel_rfl) ?hS ?_
   rotate_left
   iterate 22 first
    | (refine chain_skip (by rfl) (by rfl) ?_)
    | (apply chain_want (by rfl)
       ·intro act wx hS hr
        simp at hr
        have gg := hS.s.x
        obtain ⟨g0, g1, g2, g3, g4, g5, g6, g7, g8, g9⟩ := ten_cells gg
        clear gg
        have hc := HT.out _ hS.s.t.wd
        go_simp
        (try go_ints)
        first
         | exact Done.same
      )
   show ∀ w', _ -> _
   intro w9 hw9
   simp [Act.put]
   case hS => exact HE3.out
   have HOX := Lib.hid hw9.own
   have HBX := Lib.hid hw9.s.bel
   have gg := hw9.s.x
   obtain ⟨g0, g1, g2, g3, g4, g5, g6, g7, g8, g9⟩ := ten_cells gg
   clear gg hw9 HE3 HE2 HT
   have halz2 : (fr : Int) < (W.length : Int) + 1 := by omega
   have HA : Hid (fr <= W.length) := by unfold Hid; omega
   obtain ⟨g8, c8, hv8, hbg8, -, hset8, hcl8, hfz8⟩ := HOX.out.put (k := fr) (by rw [rowL_length]; have := HA.out; omega) ((1 : Nat) : Int)
   rw [rowL_length] at hv8
   subst hv8
   have HPF : Hid (RwN ((rowL (W.length + 1) fun _ => 0).set fr ((1 : Nat) : Int)) w (.returned (.slice (some ⟨g8, 0, none⟩) (W.length + 1) c8)) (w9.setCell ⟨g8, fr, none⟩ (.int .i64 ((1 : Nat) : Int)))) := ⟨_, rfl, hset8.mono HB3.out.size, HB3.out.trans ((HBX.out.setCell (p := ⟨g8, fr, none⟩) hbg8 _).mono HB3.out.size)⟩
   clear hbg8 hset8 HOX HBX
   go_wp2
   go_ret
   exact HPF.out
  ·rw [if_neg (fun h => hh h.2)]
   have HV : Hid (a + (atN l i).text.length = fr /\ fr <= W.length /\ decide (sgW W a (a + (atN l i).text.length) = (atN l i).text) = false /\ 0 < (atN l i).text.length) := ⟨hfr, by omega, decide_eq_false hh, htx⟩
   clear hh hal htx htl hfr
   obtain ⟨ba, oa, rfl, -, -⟩ := hrow i hi
   have hb1 := (Below.refl w.heap.size w).alloc (Nat.le_refl _) (.cells #[.slice (some ⟨ba, oa, none⟩) l.length c] 24)
   have hz1 := Blk.new w #[.slice (some ⟨ba, oa, none⟩) l.length c] 24
   have hs1 : (w.alloc (.cells #[.slice (some ⟨ba, oa, none⟩) l.length c] 24)).heap.size = w.heap.size + 1 := World.size_alloc _ _
   have hrow1 := hrow.later hb1
   have hw1 := hw.later hb1
   have g := hrow1.at hi rfl
   have hil : (i : Int) < (l.length : Int) := by omega
   have hi0 : ¬ (i : Int) < 0 := by omega
   have hnz : (W.length : Int) <= 1000 := by omega
   have hbz : (a : Int) <= (W.length : Int) := by omega
   have hbz2 : (a : Int) < (W.length : Int) + 1 := by omega
   have hbz0 : ¬ (a : Int) < 0 := by omega
   have HN := Lib.hid hn
   have HA := Lib.hid ha
   obtain ⟨Au, cu, rfl, hcu⟩ := hw.sl
   have hn : atN l i = l.getD i nd0 := rfl
   rw [hn] at hk
   (try rw [hn] at HV)
   generalize l.getD i nd0 = nd at *
   clear hrow hw hn ha hi
   go_enter Try.func39, Try.ntmps39
   go_upto_region 1 with (fail)
   generalize w.alloc (.cells #[.slice (some ⟨ba, oa, none⟩) l.length c] 24) = w1 at *
   have hb2 := (Below.refl w1.heap.size w1).alloc (Nat.le_refl _) (.cells (ndC nd) 58)
   have hz2 := Blk.new w1 (ndC nd) 58
   rw [hs1] at hz2
   have HE2 : Hid (RnS (some ⟨ba, oa, none⟩) l c (.slice Au W.length cu) W w.heap.size nd (w1.alloc (.cells (ndC nd) 58)) (w1.alloc (.cells (ndC nd) 58))) := ⟨⟨hrow1.later hb2, hw1.later hb2, hz1.later hb2⟩, hz2, Below.refl _ _⟩
   have HB3 := Lib.hid (hb1.trans (hb2.mono hb1.size))
   have d0 := hz1.cell 0
   simp at d0
   clear hb1 hz1 hb2 hz2 hrow1 hw1
   obtain ⟨kk, na, nb, nlo, nhi, ncls, ntext⟩ := nd
   unfold At10 at g
   simp only at g hk HV
   subst hk
   obtain ⟨g0, g1, g2, g3, g4, g5, g6, g7, g8, g9⟩ := g
   have hndc : ndC ⟨3, na, nb, nlo, nhi, ncls, ntext⟩ = #[.int .i64 3, .int .i64 na, .int .i64 nb, .int .i64 nlo, .int .i64 nhi, .int .u64 (wd ncls 0), .int .u64 (wd ncls 1), .int .u64 (wd ncls 2), .int .u64 (wd ncls 3), .string (bs ntext)] := rfl
   rw [hndc] at HE2 HB3
   clear hndc
   go_upto_region 2 with (fail)
   clear g0 g1 g2 g3 g4 g5 g6 g7 g8 g9 d0
   generalize w1.alloc (.cells #[.int .i64 3, .int .i64 na, .int .i64 nb, .int .i64 nlo, .int .i64 nhi, .int .u64 (wd ncls 0), .int .u64 (wd ncls 1), .int .u64 (wd ncls 2), .int .u64 (wd ncls 3), .string (bs ntext)] 58) = w2 at *
   have HZ := Lib.hid (rzero_any (.slice Au W.length cu) W w2 HE2.out.t.wd HN.out)
   go_wp2_with fail
   refine HZ.out.mono ?_; rintro e w3 ⟨v3, rfl, ho3, hb3⟩
   have HE3 : Hid (EnO (some ⟨ba, oa, none⟩) l c (.slice Au W.length cu) W w.heap.size ⟨3, na, nb, nlo, nhi, ncls, ntext⟩ (rowL (W.length + 1) fun _ => 0) v3 w2 w3) := ⟨HE2.out.later hb3, ho3⟩
   clear ho3 hb3 HZ
   have gg := HE3.out.s.x
   obtain ⟨g0, g1, g2, g3, g4, g5, g6, g7, g8, g9⟩ := ten_cells gg
   clear gg
   clear hw0
   have hsz : (bs ntext).size = ntext.length := bs_size _
   obtain ⟨b8, o8, c8, hv8⟩ := HD.out _ HE3.out.s.t.wd
   obtain ⟨rfl, -, rfl⟩ := Value.slice.inj hv8
   have HT : Hid (∀ w', IsW W (.slice (some ⟨b8, o8, none⟩) W.length cu) w' -> (convert 48 9 (.slice (some ⟨b8, o8 + a, none⟩) ntext.length (cu - a))).run Try.prog w' = .ok (.string (bs (sgW W a (a + ntext.length)))) w') := fun w' h => conv_word (IsW.part h (by have := HV.out.1; have := HV.out.2.1; omega))
   have HB : Hid (((bs (sgW W a (a + ntext.length))).toList == (bs ntext).toList) = false) := by
    unfold Hid
    rw [tl_bs, tl_bs, beqd]
    exact HV.out.2.2.1
   have hbq := HB.out
   have hpos := HV.out.2.2.2
   have hfr := HV.out.1
   have hfl := HV.out.2.1
   have hfz : (a : Int) + (ntext.length : Int) = (fr : Int) := by omega
   have halz : (fr : Int) <= (W.length : Int) := by omega
   have hd : decide ((fr : Int) <= (W.length : Int)) = true := decide_eq_true halz
   have hd2 : decide (fr <= W.length) = true := decide_eq_true hfl
   have hn1 : (fr : Int) <= (cu : Int) := by omega
   have hn2 : (a : Int) <= (fr : Int) := by omega
   have hsub0 : fr - a = ntext.length := by omega
   have hca : ¬ cu = a := by omega
   generalize sgW W a (a + ntext.length) = Y at *
   clear hfr hpos hfl HB
   clear hv8 HD HV
   go_upto_region 10 with (fail)
   clear g0 g1 g2 g3 g4 g5 g6 g7 g8 g9
   refine wp_region_stable (S := (EnO (some ⟨ba, oa, none⟩) l c (.slice (some ⟨b8, o8, none⟩) W.length cu) W w.heap.size ⟨3, na, nb, nlo, nhi, ncls, ntext⟩ (rowL (W.length + 1) fun _ => 0) v3 w2)) (hSt := fun _ _ h hb => h.later hb) (plan := [[(3, none)], [(9, none)], [(49, some 1)], [(50, some 2)], [(48, some 0), (51, some 3)], [(2, none)], [(53, some 5)], [(52, some 4), (54, some 6)], [(55, some 7)], [(2, none)], [(3, none)], [(3, none)], [(9, none)], [(60, some 12)], [(61, some 13)], [(59, some 11), (62, some 14)], [(57, some 9), (58, some 10), (63, some 15)], [(64, some 16)], [(9, none)], [(66, some 18)], [(65, some 17), (67, some 19)], [(56, some 8), (68, some 20)]]) (by kernel_rfl) (by kernel_rfl) (by kernel_rfl) ?hS ?_
   rotate_left
   iterate 22 first
    | (refine chain_skip (by rfl) (by rfl) ?_)
    | (apply chain_want (by rfl)
       ·intro act wx hS hr
        simp at hr
        have gg := hS.s.x
        obtain ⟨g0, g1, g2, g3, g4, g5, g6, g7, g8, g9⟩ := ten_cells gg
        clear gg
        have hc := HT.out _ hS.s.t.wd
        go_simp
        (try go_ints)
        first
         | exact Done.same
      )
   show ∀ w', _ -> _
   intro w9 hw9
   simp [Act.put]
   case hS => exact HE3.out
   have HOX := Lib.hid hw9.own
   have HBX := Lib.hid hw9.s.bel
   have gg := hw9.s.x
   obtain ⟨g0, g1, g2, g3, g4, g5, g6, g7, g8, g9⟩ := ten_cells gg
   clear gg hw9 HE3 HE2 HT
   have HPF : Hid (RwN (rowL (W.length + 1) fun _ => 0) w (.returned v3) w9) := ⟨_, rfl, HOX.out.mono HB3.out.size, HB3.out.trans (HBX.out.mono HB3.out.size)⟩
   clear HOX HBX
   go_wp2
   go_ret
   exact HPF.out
 ·rw [if_neg (fun h => hal h.1)]
  have HV : Hid (¬ a + (atN l i).text.length <= W.length /\ (atN l i).text.length <= 1073741824) := ⟨hal, htl⟩
  clear hal htx htl hfr
  obtain ⟨ba, oa, rfl, -, -⟩ := hrow i hi
  have hb1 := (Below.refl w.heap.size w).alloc (Nat.le_refl _) (.cells #[.slice (some ⟨ba, oa, none⟩) l.length c] 24)
  have hz1 := Blk.new w #[.slice (some ⟨ba, oa, none⟩) l.length c] 24
  have hs1 : (w.alloc (.cells #[.slice (some ⟨ba, oa, none⟩) l.length c] 24)).heap.size = w.heap.size + 1 := World.size_alloc _ _
  have hrow1 := hrow.later hb1
  have hw1 := hw.later hb1
  have g := hrow1.at hi rfl
  have hil : (i : Int) < (l.length : Int) := by omega
  have hi0 : ¬ (i : Int) < 0 := by omega
  have hnz : (W.length : Int) <= 1000 := by omega
  have hbz : (a : Int) <= (W.length : Int) := by omega
  have hbz2 : (a : Int) < (W.length : Int) + 1 := by omega
  have hbz0 : ¬ (a : Int) < 0 := by omega
  have HN := Lib.hid hn
  have HA := Lib.hid ha
  obtain ⟨Au, cu, rfl, hcu⟩ := hw.sl
  have hn : atN l i = l.getD i nd0 := rfl
  rw [hn] at hk
  (try rw [hn] at HV)
  generalize l.getD i nd0 = nd at *
  clear hrow hw hn ha hi
  go_enter Try.func39, Try.ntmps39
  go_upto_region 1 with (fail)
  generalize w.alloc (.cells #[.slice (some ⟨ba, oa, none⟩) l.length c] 24) = w1 at *
  have hb2 := (Below.refl w1.heap.size w1).alloc (Nat.le_refl _) (.cells (ndC nd) 58)
  have hz2 := Blk.new w1 (ndC nd) 58
  rw [hs1] at hz2
  have HE2 : Hid (RnS (some ⟨ba, oa, none⟩) l c (.slice Au W.length cu) W w.heap.size nd (w1.alloc (.cells (ndC nd) 58)) (w1.alloc (.cells (ndC nd) 58))) := ⟨⟨hrow1.later hb2, hw1.later hb2, hz1.later hb2⟩, hz2, Below.refl _ _⟩
  have HB3 := Lib.hid (hb1.trans (hb2.mono hb1.size))
  have d0 := hz1.cell 0
  simp at d0
  clear hb1 hz1 hb2 hz2 hrow1 hw1
  obtain ⟨kk, na, nb, nlo, nhi, ncls, ntext⟩ := nd
  unfold At10 at g
  simp only at g hk HV
  subst hk
  obtain ⟨g0, g1, g2, g3, g4, g5, g6, g7, g8, g9⟩ := g
  have hndc : ndC ⟨3, na, nb, nlo, nhi, ncls, ntext⟩ = #[.int .i64 3, .int .i64 na, .int .i64 nb, .int .i64 nlo, .int .i64 nhi, .int .u64 (wd ncls 0), .int .u64 (wd ncls 1), .int .u64 (wd ncls 2), .int .u64 (wd ncls 3), .string (bs ntext)] := rfl
  rw [hndc] at HE2 HB3
  clear hndc
  go_upto_region 2 with (fail)
  clear g0 g1 g2 g3 g4 g5 g6 g7 g8 g9 d0
  generalize w1.alloc (.cells #[.int .i64 3, .int .i64 na, .int .i64 nb, .int .i64 nlo, .int .i64 nhi, .int .u64 (wd ncls 0), .int .u64 (wd ncls 1), .int .u64 (wd ncls 2), .int .u64 (wd ncls 3), .string (bs ntext)] 58) = w2 at *
  have HZ := Lib.hid (rzero_any (.slice Au W.length cu) W w2 HE2.out.t.wd HN.out)
  go_wp2_with fail
  refine HZ.out.mono ?_; rintro e w3 ⟨v3, rfl, ho3, hb3⟩
  have HE3 : Hid (EnO (some ⟨ba, oa, none⟩) l c (.slice Au W.length cu) W w.heap.size ⟨3, na, nb, nlo, nhi, ncls, ntext⟩ (rowL (W.length + 1) fun _ => 0) v3 w2 w3) := ⟨HE2.out.later hb3, ho3⟩
  clear ho3 hb3 HZ
  have gg := HE3.out.s.x
  obtain ⟨g0, g1, g2, g3, g4, g5, g6, g7, g8, g9⟩ := ten_cells gg
  clear gg
  clear hw0
  have hsz : (bs ntext).size = ntext.length := bs_size _
  have hal := HV.out.1
  have htl : (ntext.length : Int) <= 1073741824 := by have := HV.out.2; omega
  have hz : ¬ (a : Int) + (ntext.length : Int) <= (W.length : Int) := by omega
  have hd : decide ((a : Int) + (ntext.length : Int) <= (W.length : Int)) = false := decide_eq_false hz
  have hd2 : decide (a + ntext.length <= W.length) = false := decide_eq_false hal
  have hd3 : decide ((W.length : Int) < (a : Int) + (ntext.length : Int)) = true := decide_eq_true (by omega)
  go_upto_region 10 with (fail)
  clear g0 g1 g2 g3 g4 g5 g6 g7 g8 g9
  refine wp_region_stable (S := (EnO (some ⟨ba, oa, none⟩) l c (.slice Au W.length cu) W w.heap.size ⟨3, na, nb, nlo, nhi, ncls, ntext⟩ (rowL (W.length + 1) fun _ => 0) v3 w2)) (hSt := fun _ _ h hb => h.later hb) (plan := [[(3, none)], [(9, none)], [(49, some 1)], [(50, some 2)], [(48, some 0), (51, some 3)], [(2, none)], [(53, some 5)], [(52, some 4), (54, some 6)], [(55, some 7)], [(2, none)], [(3, none)], [(3, none)], [(9, none)], [(60, some 12)], [(61, some 13)], [(59, some 11), (62, some 14)], [(57, some 9), (58, some 10), (63, some 15)], [(64, some 16)], [(9, none)], [(66, some 18)], [(65, some 17), (67, some 19)], [(56, some 8), (68, some 20)]]) (by kernel_rfl) (by kernel_rfl) (by kernel_rfl) ?hS ?_
  rotate_left
  iterate 22 first
   | (refine chain_skip (by rfl) (by rfl) ?_)
   | (apply chain_want (by rfl)
      ·intro act wx hS hr
       simp at hr
       have gg := hS.s.x
       obtain ⟨g0, g1, g2, g3, g4, g5, g6, g7, g8, g9⟩ := ten_cells gg
       clear gg
       go_simp
       (try go_ints)
       first
        | exact Done.same
     )
  show ∀ w', _ -> _
  intro w9 hw9
  simp [Act.put]
  case hS => exact HE3.out
  have HOX := Lib.hid hw9.own
  have HBX := Lib.hid hw9.s.bel
  clear hw9 HE3 HE2
  have HPF : Hid (RwN (rowL (W.length + 1) fun _ => 0) w (.returned v3) w9) := ⟨_, rfl, HOX.out.mono HB3.out.size, HB3.out.trans (HBX.out.mono HB3.out.size)⟩
  clear HOX HBX
  go_wp2
  go_ret
  exact HPF.out
end Go.Proofs.Ytidoofdofdhjpaa
namespace Go.Proofs.Ytidoofdofdhjpaa
open Go
set_option linter.unusedVariables false
set_option linter.unusedSimpArgs false
set_option linter.unusedSectionVars false
theorem rep_lo {l : List Nd} (hF : Form l) {i : Nat} (hi : i < l.length) (hk : (atN l i).kind = 7) : 0 <= (atN l i).lo /\ (atN l i).lo <= (atN l i).hi /\ (atN l i).hi <= 255 := by
 have hcs := (hF.2.1 i hi).cs rfl
 cases hcs with
 | leaf h1 hf => unfold leafK at h1; omega
 | one h1 hi0 ha hb h7 hr hcl hf => exact hr hk
 | two h1 hi0 hb ha hf0 hl hcl hf => omega
section
variable {l : List Nd} {i : Nat} {u : Wd} (hF : Form l)
include hF
omit hF in
omit hF in
omit hF in
end
end Go.Proofs.Ytidoofdofdhjpaa
namespace Go.Proofs.Ytidoofdofdhjpaa
open Go Go.RowKit
set_option linter.unusedVariables false
set_option linter.unusedSimpArgs false
set_option maxRecDepth 100000
theorem rparts {l : List Nd} {i : Nat} (hF : Form l) (hi : i < l.length) (hk : 4 <= (atN l i).kind /\ (atN l i).kind <= 9) : ∃ p q : Nat, p < i /\ (atN l i).a = (p : Int) /\ (atN l i).a.toNat = p /\ (atN l i).b = (q : Int) /\ (atN l i).b.toNat = q /\ ((atN l i).kind = 4 \/ (atN l i).kind = 5 -> q < i) := by
 have hcs := (hF.2.1 i hi).cs rfl
 cases hcs with
 | leaf h1 hf => unfold leafK at h1; omega
 | one h1 hi0 ha hb h7 hr hcl hf => exact ⟨(atN l i).a.toNat, (atN l i).b.toNat, by omega, by omega, rfl, by omega, rfl, fun h => by omega⟩
 | two h1 hi0 hb ha hf0 hl hcl hf =>
  have hle := firstP_le l (i - 1)
  exact ⟨(atN l i).a.toNat, (atN l i).b.toNat, by omega, by omega, rfl, by omega, rfl, fun h => by omega⟩
set_option maxHeartbeats 16000000 in
theorem rends_k4 {A : Option Addr} {l : List Nd} {c i : Nat} (hF : Form l) (hi : i < l.length) (hk : (atN l i).kind = 4) (hE : ∀ j, j < i -> EndR A l c j) : EndR A l c i := fun uw W a w hrow hw hn ha => by
 obtain ⟨p, q, hp, hp1, hp2, hq1, hq2, hq⟩ := rparts hF hi (by omega)
 have HR : Hid (rowL (W.length + 1) (rowV l i W a) = rowL (W.length + 1) (thrF (rowV l p W a) (rowV l q W) (W.length + 1))) := rowL_congr fun b hb => by
  have := thr_k4 hF hi (a := a) (show b <= W.length by omega) hk
  rw [<- this, hp2, hq2]
 rw [HR.out]
 have HEP := Lib.hid (hE p hp)
 have HEQ := Lib.hid (hE q (hq (.inl hk)))
 have HV : Hid ((atN l i).a = (p : Int) /\ (atN l i).b = (q : Int)) := ⟨hp1, hq1⟩
 clear hp hp1 hp2 hq1 hq2 hq hE hF HR
 obtain ⟨ba, oa, rfl, -, -⟩ := hrow i hi
 have hb1 := (Below.refl w.heap.size w).alloc (Nat.le_refl _) (.cells #[.slice (some ⟨ba, oa, none⟩) l.length c] 24)
 have hz1 := Blk.new w #[.slice (some ⟨ba, oa, none⟩) l.length c] 24
 have hs1 : (w.alloc (.cells #[.slice (some ⟨ba, oa, none⟩) l.length c] 24)).heap.size = w.heap.size + 1 := World.size_alloc _ _
 have hrow1 := hrow.later hb1
 have hw1 := hw.later hb1
 have g := hrow1.at hi rfl
 have hil : (i : Int) < (l.length : Int) := by omega
 have hi0 : ¬ (i : Int) < 0 := by omega
 have hnz : (W.length : Int) <= 1000 := by omega
 have hbz : (a : Int) <= (W.length : Int) := by omega
 have hbz2 : (a : Int) < (W.length : Int) + 1 := by omega
 have hbz0 : ¬ (a : Int) < 0 := by omega
 have HN := Lib.hid hn
 have HA := Lib.hid ha
 obtain ⟨Au, cu, rfl, hcu⟩ := hw.sl
 have hn : atN l i = l.getD i nd0 := rfl
 rw [hn] at hk
 (try rw [hn] at HV)
 generalize l.getD i nd0 = nd at *
 clear hrow hw hn ha hi
 go_enter Try.func39, Try.ntmps39
 go_upto_region 1 with (fail)
 generalize w.alloc (.cells #[.slice (some ⟨ba, oa, none⟩) l.length c] 24) = w1 at *
 have hb2 := (Below.refl w1.heap.size w1).alloc (Nat.le_refl _) (.cells (ndC nd) 58)
 have hz2 := Blk.new w1 (ndC nd) 58
 rw [hs1] at hz2
 have HE2 : Hid (RnS (some ⟨ba, oa, none⟩) l c (.slice Au W.length cu) W w.heap.size nd (w1.alloc (.cells (ndC nd) 58)) (w1.alloc (.cells (ndC nd) 58))) := ⟨⟨hrow1.later hb2, hw1.later hb2, hz1.later hb2⟩, hz2, Below.refl _ _⟩
 have HB3 := Lib.hid (hb1.trans (hb2.mono hb1.size))
 have d0 := hz1.cell 0
 simp at d0
 clear hb1 hz1 hb2 hz2 hrow1 hw1
 obtain ⟨kk, na, nb, nlo, nhi, ncls, ntext⟩ := nd
 unfold At10 at g
 simp only at g hk HV
 subst hk
 obtain ⟨g0, g1, g2, g3, g4, g5, g6, g7, g8, g9⟩ := g
 have hndc : ndC ⟨4, na, nb, nlo, nhi, ncls, ntext⟩ = #[.int .i64 4, .int .i64 na, .int .i64 nb, .int .i64 nlo, .int .i64 nhi, .int .u64 (wd ncls 0), .int .u64 (wd ncls 1), .int .u64 (wd ncls 2), .int .u64 (wd ncls 3), .string (bs ntext)] := rfl
 rw [hndc] at HE2 HB3
 clear hndc
 go_upto_region 2 with (fail)
 clear g0 g1 g2 g3 g4 g5 g6 g7 g8 g9 d0
 generalize w1.alloc (.cells #[.int .i64 4, .int .i64 na, .int .i64 nb, .int .i64 nlo, .int .i64 nhi, .int .u64 (wd ncls 0), .int .u64 (wd ncls 1), .int .u64 (wd ncls 2), .int .u64 (wd ncls 3), .string (bs ntext)] 58) = w2 at *
 have HZ := Lib.hid (rzero_any (.slice Au W.length cu) W w2 HE2.out.t.wd HN.out)
 go_wp2_with fail
 refine HZ.out.mono ?_; rintro e w3 ⟨v3, rfl, ho3, hb3⟩
 have HE3 : Hid (EnO (some ⟨ba, oa, none⟩) l c (.slice Au W.length cu) W w.heap.size ⟨4, na, nb, nlo, nhi, ncls, ntext⟩ (rowL (W.length + 1) fun _ => 0) v3 w2 w3) := ⟨HE2.out.later hb3, ho3⟩
 clear ho3 hb3 HZ
 have gg := HE3.out.s.x
 obtain ⟨g0, g1, g2, g3, g4, g5, g6, g7, g8, g9⟩ := ten_cells gg
 clear gg
 obtain ⟨rfl, rfl⟩ := HV.out
 have HS3 := Lib.hid HE3.out.s
 clear HE3 HE2 HV
 have HC1 : Hid (∀ w', RnS (some ⟨ba, oa, none⟩) l c (.slice Au W.length cu) W w.heap.size ⟨4, (p : Int), (q : Int), nlo, nhi, ncls, ntext⟩ w2 w' -> Calls Try.prog 39 #[.agg #[.slice (some ⟨ba, oa, none⟩) l.length c], .int .i64 (p : Int), .slice Au W.length cu, .int .i64 (a : Int)] w' (RwN (rowL (W.length + 1) (rowV l p W a)) w')) := fun w' h => HEP.out _ W a w' h.t.row h.t.wd HN.out HA.out
 have HC2 : Hid (∀ w' u, RnS (some ⟨ba, oa, none⟩) l c (.slice Au W.length cu) W w.heap.size ⟨4, (p : Int), (q : Int), nlo, nhi, ncls, ntext⟩ w2 w' -> OwV w2.heap.size (rowL (W.length + 1) (rowV l p W a)) u w' -> Calls Try.prog 60 #[.agg #[.slice (some ⟨ba, oa, none⟩) l.length c], .int .i64 (q : Int), .slice Au W.length cu, u] w' (RwN (rowL (W.length + 1) (thrF (rowV l p W a) (rowV l q W) (W.length + 1))) w')) := fun w' u h hu => by
  have h3 := OwnI.rd hu
  rw [rowL_length] at h3
  exact rthrough_any HEQ.out _ W (rowV l p W a) u w' h.t.row h.t.wd HN.out (fun b => rowV_le) h3
 go_upto_region 13 with (fail)
 clear g0 g1 g2 g3 g4 g5 g6 g7 g8 g9
 refine wp_region_stable (S := (RnS (some ⟨ba, oa, none⟩) l c (.slice Au W.length cu) W w.heap.size ⟨4, (p : Int), (q : Int), nlo, nhi, ncls, ntext⟩ w2)) (hSt := fun _ _ h hb => h.later hb) (plan := [[(4, none)], [(9, none)], [(80, some 1)], [(2, none)], [(4, none)], [(9, none)], [(84, some 5)], [(2, none)], [(3, none)], [(83, some 4), (85, some 6), (86, some 7), (87, some 8)], [(79, some 0), (81, some 2), (82, some 3), (88, some 9)], [(89, some 10)]]) (by kernel_rfl) (by kernel_rfl) (by kernel_rfl) ?hS ?_
 rotate_left
 iterate 9 first
  | (refine chain_skip (by rfl) (by rfl) ?_)
  | (apply chain_want (by rfl)
     ·intro act wx hS hr
      simp at hr
      have gg := hS.x
      obtain ⟨g0, g1, g2, g3, g4, g5, g6, g7, g8, g9⟩ := ten_cells gg
      have d0 := hS.t.box.cell 0
      simp at d0
      clear gg
      go_simp
      (try go_ints)
      first
       | exact Done.same
    )
 (refine chain_rel (OwV w2.heap.size (rowL (W.length + 1) (rowV l p W a))) (OwV.later w2.heap.size (rowL (W.length + 1) (rowV l p W a))) (by rfl) ?_ ?_
  ·intro act wx hS hr
   simp at hr
   have gg := hS.x
   obtain ⟨g0, g1, g2, g3, g4, g5, g6, g7, g8, g9⟩ := ten_cells gg
   have d0 := hS.t.box.cell 0
   simp at d0
   clear gg
   all_goals go_simp
   ((refine (HC1.out _ hS).mono ?_); rintro e w5 ⟨x5, rfl, hx5, hb5⟩; exact Done.rel hb5 (OwnI.mono hx5 hS.bel.size))
 )
 (refine chain_rel (OwV w2.heap.size (rowL (W.length + 1) (thrF (rowV l p W a) (rowV l q W) (W.length + 1)))) (OwV.later w2.heap.size (rowL (W.length + 1) (thrF (rowV l p W a) (rowV l q W) (W.length + 1)))) (by rfl) ?_ ?_
  ·intro act wx hS hr
   simp at hr
   have gg := hS.x
   obtain ⟨g0, g1, g2, g3, g4, g5, g6, g7, g8, g9⟩ := ten_cells gg
   have d0 := hS.t.box.cell 0
   simp at d0
   clear gg
   obtain ⟨hr1, hr4, hr5, u5, hr2, hu5⟩ := hr
   all_goals go_simp
   ((refine (HC2.out _ u5 hS hu5).mono ?_); rintro e w5 ⟨x5, rfl, hx5, hb5⟩; exact Done.rel hb5 (OwnI.mono hx5 hS.bel.size))
 )
 (refine chain_rel (OwV w2.heap.size (rowL (W.length + 1) (thrF (rowV l p W a) (rowV l q W) (W.length + 1)))) (OwV.later w2.heap.size (rowL (W.length + 1) (thrF (rowV l p W a) (rowV l q W) (W.length + 1)))) (by rfl) ?_ ?_
  ·intro act wx hS hr
   simp at hr
   have gg := hS.x
   obtain ⟨g0, g1, g2, g3, g4, g5, g6, g7, g8, g9⟩ := ten_cells gg
   have d0 := hS.t.box.cell 0
   simp at d0
   clear gg
   obtain ⟨u5, hr2, hu5⟩ := hr
   all_goals go_simp
   exact Done.rel (Below.refl _ _) hu5
 )
 show ∀ w', _ -> _
 intro w9 hw9
 simp [Act.put]
 case hS => exact HS3.out
 intro v5 h5 v10 h10 v11 h11
 have HPF : Hid (RwN (rowL (W.length + 1) (thrF (rowV l p W a) (rowV l q W) (W.length + 1))) w (.returned v11) w9) := ⟨_, rfl, OwnI.mono h11 HB3.out.size, HB3.out.trans (hw9.bel.mono HB3.out.size)⟩
 clear h5 h10 h11 hw9 HS3 HC1 HC2
 go_wp2
 go_ret
 exact HPF.out
set_option maxHeartbeats 16000000 in
theorem rends_k5 {A : Option Addr} {l : List Nd} {c i : Nat} (hF : Form l) (hi : i < l.length) (hk : (atN l i).kind = 5) (hE : ∀ j, j < i -> EndR A l c j) : EndR A l c i := fun uw W a w hrow hw hn ha => by
 obtain ⟨p, q, hp, hp1, hp2, hq1, hq2, hq⟩ := rparts hF hi (by omega)
 have HR : Hid (rowL (W.length + 1) (rowV l i W a) = rowL (W.length + 1) (plusF (rowV l p W a) (rowV l q W a) 1)) := rowL_congr fun b hb => by
  have := plus_k5 hF hi (a := a) (show b <= W.length by omega) hk
  rw [<- this, hp2, hq2]
 rw [HR.out]
 have HEP := Lib.hid (hE p hp)
 have HEQ := Lib.hid (hE q (hq (.inr hk)))
 have HV : Hid ((atN l i).a = (p : Int) /\ (atN l i).b = (q : Int)) := ⟨hp1, hq1⟩
 clear hp hp1 hp2 hq1 hq2 hq hE hF HR
 obtain ⟨ba, oa, rfl, -, -⟩ := hrow i hi
 have hb1 := (Below.refl w.heap.size w).alloc (Nat.le_refl _) (.cells #[.slice (some ⟨ba, oa, none⟩) l.length c] 24)
 have hz1 := Blk.new w #[.slice (some ⟨ba, oa, none⟩) l.length c] 24
 have hs1 : (w.alloc (.cells #[.slice (some ⟨ba, oa, none⟩) l.length c] 24)).heap.size = w.heap.size + 1 := World.size_alloc _ _
 have hrow1 := hrow.later hb1
 have hw1 := hw.later hb1
 have g := hrow1.at hi rfl
 have hil : (i : Int) < (l.length : Int) := by omega
 have hi0 : ¬ (i : Int) < 0 := by omega
 have hnz : (W.length : Int) <= 1000 := by omega
 have hbz : (a : Int) <= (W.length : Int) := by omega
 have hbz2 : (a : Int) < (W.length : Int) + 1 := by omega
 have hbz0 : ¬ (a : Int) < 0 := by omega
 have HN := Lib.hid hn
 have HA := Lib.hid ha
 obtain ⟨Au, cu, rfl, hcu⟩ := hw.sl
 have hn : atN l i = l.getD i nd0 := rfl
 rw [hn] at hk
 (try rw [hn] at HV)
 generalize l.getD i nd0 = nd at *
 clear hrow hw hn ha hi
 go_enter Try.func39, Try.ntmps39
 go_upto_region 1 with (fail)
 generalize w.alloc (.cells #[.slice (some ⟨ba, oa, none⟩) l.length c] 24) = w1 at *
 have hb2 := (Below.refl w1.heap.size w1).alloc (Nat.le_refl _) (.cells (ndC nd) 58)
 have hz2 := Blk.new w1 (ndC nd) 58
 rw [hs1] at hz2
 have HE2 : Hid (RnS (some ⟨ba, oa, none⟩) l c (.slice Au W.length cu) W w.heap.size nd (w1.alloc (.cells (ndC nd) 58)) (w1.alloc (.cells (ndC nd) 58))) := ⟨⟨hrow1.later hb2, hw1.later hb2, hz1.later hb2⟩, hz2, Below.refl _ _⟩
 have HB3 := Lib.hid (hb1.trans (hb2.mono hb1.size))
 have d0 := hz1.cell 0
 simp at d0
 clear hb1 hz1 hb2 hz2 hrow1 hw1
 obtain ⟨kk, na, nb, nlo, nhi, ncls, ntext⟩ := nd
 unfold At10 at g
 simp only at g hk HV
 subst hk
 obtain ⟨g0, g1, g2, g3, g4, g5, g6, g7, g8, g9⟩ := g
 have hndc : ndC ⟨5, na, nb, nlo, nhi, ncls, ntext⟩ = #[.int .i64 5, .int .i64 na, .int .i64 nb, .int .i64 nlo, .int .i64 nhi, .int .u64 (wd ncls 0), .int .u64 (wd ncls 1), .int .u64 (wd ncls 2), .int .u64 (wd ncls 3), .string (bs ntext)] := rfl
 rw [hndc] at HE2 HB3
 clear hndc
 go_upto_region 2 with (fail)
 clear g0 g1 g2 g3 g4 g5 g6 g7 g8 g9 d0
 generalize w1.alloc (.cells #[.int .i64 5, .int .i64 na, .int .i64 nb, .int .i64 nlo, .int .i64 nhi, .int .u64 (wd ncls 0), .int .u64 (wd ncls 1), .int .u64 (wd ncls 2), .int .u64 (wd ncls 3), .string (bs ntext)] 58) = w2 at *
 have HZ := Lib.hid (rzero_any (.slice Au W.length cu) W w2 HE2.out.t.wd HN.out)
 go_wp2_with fail
 refine HZ.out.mono ?_; rintro e w3 ⟨v3, rfl, ho3, hb3⟩
 have HE3 : Hid (EnO (some ⟨ba, oa, none⟩) l c (.slice Au W.length cu) W w.heap.size ⟨5, na, nb, nlo, nhi, ncls, ntext⟩ (rowL (W.length + 1) fun _ => 0) v3 w2 w3) := ⟨HE2.out.later hb3, ho3⟩
 clear ho3 hb3 HZ
 have gg := HE3.out.s.x
 obtain ⟨g0, g1, g2, g3, g4, g5, g6, g7, g8, g9⟩ := ten_cells gg
 clear gg
 obtain ⟨rfl, rfl⟩ := HV.out
 have HS3 := Lib.hid HE3.out.s
 clear HE3 HE2 HV
 have HC1 : Hid (∀ w', RnS (some ⟨ba, oa, none⟩) l c (.slice Au W.length cu) W w.heap.size ⟨5, (p : Int), (q : Int), nlo, nhi, ncls, ntext⟩ w2 w' -> Calls Try.prog 39 #[.agg #[.slice (some ⟨ba, oa, none⟩) l.length c], .int .i64 (p : Int), .slice Au W.length cu, .int .i64 (a : Int)] w' (RwN (rowL (W.length + 1) (rowV l p W a)) w')) := fun w' h => HEP.out _ W a w' h.t.row h.t.wd HN.out HA.out
 have HC3 : Hid (∀ w', RnS (some ⟨ba, oa, none⟩) l c (.slice Au W.length cu) W w.heap.size ⟨5, (p : Int), (q : Int), nlo, nhi, ncls, ntext⟩ w2 w' -> Calls Try.prog 39 #[.agg #[.slice (some ⟨ba, oa, none⟩) l.length c], .int .i64 (q : Int), .slice Au W.length cu, .int .i64 (a : Int)] w' (RwN (rowL (W.length + 1) (rowV l q W a)) w')) := fun w' h => HEQ.out _ W a w' h.t.row h.t.wd HN.out HA.out
 have HC2 : Hid (∀ w' u v, OwV w2.heap.size (rowL (W.length + 1) (rowV l p W a)) u w' -> OwV w2.heap.size (rowL (W.length + 1) (rowV l q W a)) v w' -> Calls Try.prog 61 #[u, v, .int .i64 1] w' (RwN (rowL (W.length + 1) (plusF (rowV l p W a) (rowV l q W a) 1)) w')) := fun w' u v hu hv => by
  have h3 := OwnI.rd hu
  have h4 := OwnI.rd hv
  rw [rowL_length] at h3 h4
  exact rplus_any (W.length + 1) 1 (rowV l p W a) (rowV l q W a) u v w' (by omega) (by have := HN.out; omega) (fun b => rowV_le) (fun b => rowV_le) (by omega) h3 h4
 go_upto_region 15 with (fail)
 clear g0 g1 g2 g3 g4 g5 g6 g7 g8 g9
 refine wp_region_stable (S := (RnS (some ⟨ba, oa, none⟩) l c (.slice Au W.length cu) W w.heap.size ⟨5, (p : Int), (q : Int), nlo, nhi, ncls, ntext⟩ w2)) (hSt := fun _ _ h hb => h.later hb) (plan := [[(4, none)], [(9, none)], [(93, some 1)], [(2, none)], [(3, none)], [(92, some 0), (94, some 2), (95, some 3), (96, some 4)], [(4, none)], [(9, none)], [(99, some 7)], [(2, none)], [(3, none)], [(98, some 6), (100, some 8), (101, some 9), (102, some 10)], [(97, some 5), (103, some 11)], [(104, some 12)]]) (by kernel_rfl) (by kernel_rfl) (by kernel_rfl) ?hS ?_
 rotate_left
 iterate 5 first
  | (refine chain_skip (by rfl) (by rfl) ?_)
  | (apply chain_want (by rfl)
     ·intro act wx hS hr
      simp at hr
      have gg := hS.x
      obtain ⟨g0, g1, g2, g3, g4, g5, g6, g7, g8, g9⟩ := ten_cells gg
      have d0 := hS.t.box.cell 0
      simp at d0
      clear gg
      go_simp
      (try go_ints)
      first
       | exact Done.same
    )
 (refine chain_rel (OwV w2.heap.size (rowL (W.length + 1) (rowV l p W a))) (OwV.later w2.heap.size (rowL (W.length + 1) (rowV l p W a))) (by rfl) ?_ ?_
  ·intro act wx hS hr
   simp at hr
   have gg := hS.x
   obtain ⟨g0, g1, g2, g3, g4, g5, g6, g7, g8, g9⟩ := ten_cells gg
   have d0 := hS.t.box.cell 0
   simp at d0
   clear gg
   all_goals go_simp
   ((refine (HC1.out _ hS).mono ?_); rintro e w5 ⟨x5, rfl, hx5, hb5⟩; exact Done.rel hb5 (OwnI.mono hx5 hS.bel.size))
 )
 iterate 5 first
  | (refine chain_skip (by rfl) (by rfl) ?_)
  | (apply chain_want (by rfl)
     ·intro act wx hS hr
      simp at hr
      have gg := hS.x
      obtain ⟨g0, g1, g2, g3, g4, g5, g6, g7, g8, g9⟩ := ten_cells gg
      have d0 := hS.t.box.cell 0
      simp at d0
      clear gg
      go_simp
      (try go_ints)
      first
       | exact Done.same
    )
 (refine chain_rel (OwV w2.heap.size (rowL (W.length + 1) (rowV l q W a))) (OwV.later w2.heap.size (rowL (W.length + 1) (rowV l q W a))) (by rfl) ?_ ?_
  ·intro act wx hS hr
   simp at hr
   have gg := hS.x
   obtain ⟨g0, g1, g2, g3, g4, g5, g6, g7, g8, g9⟩ := ten_cells gg
   have d0 := hS.t.box.cell 0
   simp at d0
   clear gg
   all_goals go_simp
   ((refine (HC3.out _ hS).mono ?_); rintro e w5 ⟨x5, rfl, hx5, hb5⟩; exact Done.rel hb5 (OwnI.mono hx5 hS.bel.size))
 )
 (refine chain_rel (OwV w2.heap.size (rowL (W.length + 1) (plusF (rowV l p W a) (rowV l q W a) 1))) (OwV.later w2.heap.size (rowL (W.length + 1) (plusF (rowV l p W a) (rowV l q W a) 1))) (by rfl) ?_ ?_
  ·intro act wx hS hr
   simp at hr
   have gg := hS.x
   obtain ⟨g0, g1, g2, g3, g4, g5, g6, g7, g8, g9⟩ := ten_cells gg
   have d0 := hS.t.box.cell 0
   simp at d0
   clear gg
   obtain ⟨⟨u4, hr1, hu4⟩, u5, hr2, hu5⟩ := hr
   all_goals go_simp
   ((refine (HC2.out _ u4 u5 hu4 hu5).mono ?_); rintro e w5 ⟨x5, rfl, hx5, hb5⟩; exact Done.rel hb5 (OwnI.mono hx5 hS.bel.size))
 )
 (refine chain_rel (OwV w2.heap.size (rowL (W.length + 1) (plusF (rowV l p W a) (rowV l q W a) 1))) (OwV.later w2.heap.size (rowL (W.length + 1) (plusF (rowV l p W a) (rowV l q W a) 1))) (by rfl) ?_ ?_
  ·intro act wx hS hr
   simp at hr
   have gg := hS.x
   obtain ⟨g0, g1, g2, g3, g4, g5, g6, g7, g8, g9⟩ := ten_cells gg
   have d0 := hS.t.box.cell 0
   simp at d0
   clear gg
   obtain ⟨u5, hr2, hu5⟩ := hr
   all_goals go_simp
   exact Done.rel (Below.refl _ _) hu5
 )
 show ∀ w', _ -> _
 intro w9 hw9
 simp [Act.put]
 case hS => exact HS3.out
 intro v5 h5 v10 h10 v11 h11 v12 h12
 have HPF : Hid (RwN (rowL (W.length + 1) (plusF (rowV l p W a) (rowV l q W a) 1)) w (.returned v12) w9) := ⟨_, rfl, OwnI.mono h12 HB3.out.size, HB3.out.trans (hw9.bel.mono HB3.out.size)⟩
 clear h5 h10 h11 h12 hw9 HS3 HC1 HC2 HC3
 go_wp2
 go_ret
 exact HPF.out
set_option maxHeartbeats 16000000 in
theorem rends_k6 {A : Option Addr} {l : List Nd} {c i : Nat} (hF : Form l) (hi : i < l.length) (hk : (atN l i).kind = 6) (hE : ∀ j, j < i -> EndR A l c j) : EndR A l c i := fun uw W a w hrow hw hn ha => by
 obtain ⟨p, q, hp, hp1, hp2, hq1, hq2, hq⟩ := rparts hF hi (by omega)
 have HR : Hid (rowL (W.length + 1) (rowV l i W a) = rowL (W.length + 1) (tmF (nowV l p W a) 0 (tmT (-1) W.length))) := rowL_congr fun b hb => by
  have := tm_k6 hF hi (a := a) (show b <= W.length by omega) hk
  rw [<- this, hp2]
  rfl
 rw [HR.out]
 have HEP := Lib.hid (hE p hp)
 have HV : Hid ((atN l i).a = (p : Int)) := hp1
 have HFP : Hid (Form l /\ p < l.length) := ⟨hF, by omega⟩
 clear hp hp1 hp2 hq1 hq2 hq hE hF HR
 obtain ⟨ba, oa, rfl, -, -⟩ := hrow i hi
 have hb1 := (Below.refl w.heap.size w).alloc (Nat.le_refl _) (.cells #[.slice (some ⟨ba, oa, none⟩) l.length c] 24)
 have hz1 := Blk.new w #[.slice (some ⟨ba, oa, none⟩) l.length c] 24
 have hs1 : (w.alloc (.cells #[.slice (some ⟨ba, oa, none⟩) l.length c] 24)).heap.size = w.heap.size + 1 := World.size_alloc _ _
 have hrow1 := hrow.later hb1
 have hw1 := hw.later hb1
 have g := hrow1.at hi rfl
 have hil : (i : Int) < (l.length : Int) := by omega
 have hi0 : ¬ (i : Int) < 0 := by omega
 have hnz : (W.length : Int) <= 1000 := by omega
 have hbz : (a : Int) <= (W.length : Int) := by omega
 have hbz2 : (a : Int) < (W.length : Int) + 1 := by omega
 have hbz0 : ¬ (a : Int) < 0 := by omega
 have HN := Lib.hid hn
 have HA := Lib.hid ha
 obtain ⟨Au, cu, rfl, hcu⟩ := hw.sl
 have hn : atN l i = l.getD i nd0 := rfl
 rw [hn] at hk
 (try rw [hn] at HV)
 generalize l.getD i nd0 = nd at *
 clear hrow hw hn ha hi
 go_enter Try.func39, Try.ntmps39
 go_upto_region 1 with (fail)
 generalize w.alloc (.cells #[.slice (some ⟨ba, oa, none⟩) l.length c] 24) = w1 at *
 have hb2 := (Below.refl w1.heap.size w1).alloc (Nat.le_refl _) (.cells (ndC nd) 58)
 have hz2 := Blk.new w1 (ndC nd) 58
 rw [hs1] at hz2
 have HE2 : Hid (RnS (some ⟨ba, oa, none⟩) l c (.slice Au W.length cu) W w.heap.size nd (w1.alloc (.cells (ndC nd) 58)) (w1.alloc (.cells (ndC nd) 58))) := ⟨⟨hrow1.later hb2, hw1.later hb2, hz1.later hb2⟩, hz2, Below.refl _ _⟩
 have HB3 := Lib.hid (hb1.trans (hb2.mono hb1.size))
 have d0 := hz1.cell 0
 simp at d0
 clear hb1 hz1 hb2 hz2 hrow1 hw1
 obtain ⟨kk, na, nb, nlo, nhi, ncls, ntext⟩ := nd
 unfold At10 at g
 simp only at g hk HV
 subst hk
 obtain ⟨g0, g1, g2, g3, g4, g5, g6, g7, g8, g9⟩ := g
 have hndc : ndC ⟨6, na, nb, nlo, nhi, ncls, ntext⟩ = #[.int .i64 6, .int .i64 na, .int .i64 nb, .int .i64 nlo, .int .i64 nhi, .int .u64 (wd ncls 0), .int .u64 (wd ncls 1), .int .u64 (wd ncls 2), .int .u64 (wd ncls 3), .string (bs ntext)] := rfl
 rw [hndc] at HE2 HB3
 clear hndc
 go_upto_region 2 with (fail)
 clear g0 g1 g2 g3 g4 g5 g6 g7 g8 g9 d0
 generalize w1.alloc (.cells #[.int .i64 6, .int .i64 na, .int .i64 nb, .int .i64 nlo, .int .i64 nhi, .int .u64 (wd ncls 0), .int .u64 (wd ncls 1), .int .u64 (wd ncls 2), .int .u64 (wd ncls 3), .string (bs ntext)] 58) = w2 at *
 have HZ := Lib.hid (rzero_any (.slice Au W.length cu) W w2 HE2.out.t.wd HN.out)
 go_wp2_with fail
 refine HZ.out.mono ?_; rintro e w3 ⟨v3, rfl, ho3, hb3⟩
 have HE3 : Hid (EnO (some ⟨ba, oa, none⟩) l c (.slice Au W.length cu) W w.heap.size ⟨6, na, nb, nlo, nhi, ncls, ntext⟩ (rowL (W.length + 1) fun _ => 0) v3 w2 w3) := ⟨HE2.out.later hb3, ho3⟩
 clear ho3 hb3 HZ
 have gg := HE3.out.s.x
 obtain ⟨g0, g1, g2, g3, g4, g5, g6, g7, g8, g9⟩ := ten_cells gg
 clear gg
 obtain rfl := HV.out
 have HS3 := Lib.hid HE3.out.s
 have HC := Lib.hid (rtimes_any HFP.out.1 HFP.out.2 HEP.out _ W a 0 (-1) w3 HS3.out.t.row HS3.out.t.wd HN.out HA.out (by omega) (.inl rfl))
 have d0 := HS3.out.t.box.cell 0
 simp at d0
 clear HE3 HE2 HV
 go_wp2_with fail
 refine HC.out.mono ?_; rintro e w9 ⟨v9, rfl, ho9, hb9⟩
 have HPF : Hid (RwN (rowL (W.length + 1) (tmF (nowV l p W a) 0 (tmT (-1) W.length))) w (.returned v9) w9) := ⟨_, rfl, ho9.mono (Nat.le_trans HB3.out.size HS3.out.bel.size), HB3.out.trans ((HS3.out.bel.trans (hb9.mono HS3.out.bel.size)).mono HB3.out.size)⟩
 clear ho9 hb9 HC HS3
 go_wp2
 go_ret
 exact HPF.out
set_option maxHeartbeats 16000000 in
theorem rends_k7 {A : Option Addr} {l : List Nd} {c i : Nat} (hF : Form l) (hi : i < l.length) (hk : (atN l i).kind = 7) (hE : ∀ j, j < i -> EndR A l c j) : EndR A l c i := fun uw W a w hrow hw hn ha => by
 obtain ⟨p, q, hp, hp1, hp2, hq1, hq2, hq⟩ := rparts hF hi (by omega)
 have h0b := rep_lo hF hi hk
 have HR : Hid (rowL (W.length + 1) (rowV l i W a) = rowL (W.length + 1) (tmF (nowV l p W a) (atN l i).lo (tmT (atN l i).hi W.length))) := rowL_congr fun b hb => by
  have hT : tmT (atN l i).hi W.length = W.length + 2 /\ (W.length : Int) + 2 <= (atN l i).hi + 1 \/ ((tmT (atN l i).hi W.length : Nat) : Int) = (atN l i).hi + 1 /\ tmT (atN l i).hi W.length <= W.length + 2 := by
   unfold tmT
   rw [if_neg (by omega)]
   omega
  have := tm_k7 hF hi (a := a) (show b <= W.length by omega) hk hT
  rw [<- this, hp2]
 rw [HR.out]
 have HEP := Lib.hid (hE p hp)
 have HV : Hid ((atN l i).a = (p : Int) /\ 0 <= (atN l i).lo /\ (atN l i).lo <= (atN l i).hi /\ (atN l i).hi <= 255) := ⟨hp1, h0b⟩
 have HFP : Hid (Form l /\ p < l.length) := ⟨hF, by omega⟩
 clear hp hp1 hp2 hq1 hq2 hq hE hF HR h0b
 have hn0 : atN l i = l.getD i nd0 := rfl
 rw [hn0]
 clear hn0
 obtain ⟨ba, oa, rfl, -, -⟩ := hrow i hi
 have hb1 := (Below.refl w.heap.size w).alloc (Nat.le_refl _) (.cells #[.slice (some ⟨ba, oa, none⟩) l.length c] 24)
 have hz1 := Blk.new w #[.slice (some ⟨ba, oa, none⟩) l.length c] 24
 have hs1 : (w.alloc (.cells #[.slice (some ⟨ba, oa, none⟩) l.length c] 24)).heap.size = w.heap.size + 1 := World.size_alloc _ _
 have hrow1 := hrow.later hb1
 have hw1 := hw.later hb1
 have g := hrow1.at hi rfl
 have hil : (i : Int) < (l.length : Int) := by omega
 have hi0 : ¬ (i : Int) < 0 := by omega
 have hnz : (W.length : Int) <= 1000 := by omega
 have hbz : (a : Int) <= (W.length : Int) := by omega
 have hbz2 : (a : Int) < (W.length : Int) + 1 := by omega
 have hbz0 : ¬ (a : Int) < 0 := by omega
 have HN := Lib.hid hn
 have HA := Lib.hid ha
 obtain ⟨Au, cu, rfl, hcu⟩ := hw.sl
 have hn : atN l i = l.getD i nd0 := rfl
 rw [hn] at hk
 (try rw [hn] at HV)
 generalize l.getD i nd0 = nd at *
 clear hrow hw hn ha hi
 go_enter Try.func39, Try.ntmps39
 go_upto_region 1 with (fail)
 generalize w.alloc (.cells #[.slice (some ⟨ba, oa, none⟩) l.length c] 24) = w1 at *
 have hb2 := (Below.refl w1.heap.size w1).alloc (Nat.le_refl _) (.cells (ndC nd) 58)
 have hz2 := Blk.new w1 (ndC nd) 58
 rw [hs1] at hz2
 have HE2 : Hid (RnS (some ⟨ba, oa, none⟩) l c (.slice Au W.length cu) W w.heap.size nd (w1.alloc (.cells (ndC nd) 58)) (w1.alloc (.cells (ndC nd) 58))) := ⟨⟨hrow1.later hb2, hw1.later hb2, hz1.later hb2⟩, hz2, Below.refl _ _⟩
 have HB3 := Lib.hid (hb1.trans (hb2.mono hb1.size))
 have d0 := hz1.cell 0
 simp at d0
 clear hb1 hz1 hb2 hz2 hrow1 hw1
 obtain ⟨kk, na, nb, nlo, nhi, ncls, ntext⟩ := nd
 unfold At10 at g
 simp only at g hk HV
 subst hk
 obtain ⟨g0, g1, g2, g3, g4, g5, g6, g7, g8, g9⟩ := g
 have hndc : ndC ⟨7, na, nb, nlo, nhi, ncls, ntext⟩ = #[.int .i64 7, .int .i64 na, .int .i64 nb, .int .i64 nlo, .int .i64 nhi, .int .u64 (wd ncls 0), .int .u64 (wd ncls 1), .int .u64 (wd ncls 2), .int .u64 (wd ncls 3), .string (bs ntext)] := rfl
 rw [hndc] at HE2 HB3
 clear hndc
 go_upto_region 2 with (fail)
 clear g0 g1 g2 g3 g4 g5 g6 g7 g8 g9 d0
 generalize w1.alloc (.cells #[.int .i64 7, .int .i64 na, .int .i64 nb, .int .i64 nlo, .int .i64 nhi, .int .u64 (wd ncls 0), .int .u64 (wd ncls 1), .int .u64 (wd ncls 2), .int .u64 (wd ncls 3), .string (bs ntext)] 58) = w2 at *
 have HZ := Lib.hid (rzero_any (.slice Au W.length cu) W w2 HE2.out.t.wd HN.out)
 go_wp2_with fail
 refine HZ.out.mono ?_; rintro e w3 ⟨v3, rfl, ho3, hb3⟩
 have HE3 : Hid (EnO (some ⟨ba, oa, none⟩) l c (.slice Au W.length cu) W w.heap.size ⟨7, na, nb, nlo, nhi, ncls, ntext⟩ (rowL (W.length + 1) fun _ => 0) v3 w2 w3) := ⟨HE2.out.later hb3, ho3⟩
 clear ho3 hb3 HZ
 have gg := HE3.out.s.x
 obtain ⟨g0, g1, g2, g3, g4, g5, g6, g7, g8, g9⟩ := ten_cells gg
 clear gg
 obtain ⟨rfl, hl1, hl2, hl3⟩ := HV.out
 have HS3 := Lib.hid HE3.out.s
 have HC := Lib.hid (rtimes_any HFP.out.1 HFP.out.2 HEP.out _ W a nlo nhi w3 HS3.out.t.row HS3.out.t.wd HN.out HA.out (by omega) (.inr (by omega)))
 have d0 := HS3.out.t.box.cell 0
 simp at d0
 clear HE3 HE2 HV
 go_wp2_with fail
 refine HC.out.mono ?_; rintro e w9 ⟨v9, rfl, ho9, hb9⟩
 have HPF : Hid (RwN (rowL (W.length + 1) (tmF (nowV l p W a) nlo (tmT nhi W.length))) w (.returned v9) w9) := ⟨_, rfl, ho9.mono (Nat.le_trans HB3.out.size HS3.out.bel.size), HB3.out.trans ((HS3.out.bel.trans (hb9.mono HS3.out.bel.size)).mono HB3.out.size)⟩
 clear ho9 hb9 HC HS3
 go_wp2
 go_ret
 exact HPF.out
end Go.Proofs.Ytidoofdofdhjpaa
