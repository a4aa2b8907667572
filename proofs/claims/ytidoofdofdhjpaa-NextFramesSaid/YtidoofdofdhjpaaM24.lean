/- What an item opens to: walked. -/
import Derived.Test.YtidoofdofdhjpaaM23
import Derived.Test.YtidoofdofdhjpaaM15
namespace Go.Proofs.Ytidoofdofdhjpaa
open Go Go.RowKit
set_option linter.unusedVariables false
set_option linter.unusedSimpArgs false
set_option maxRecDepth 100000
set_option maxHeartbeats 16000000
structure HonS (w0 : World) (g : Nat) (L : List (List Itm)) (n : Nd) (x : Itm) (w : World) : Prop where
 gr : w0.grownBy w (some g)
 blk : Blk w g (rwsC L) 113
 bn : Blk w w0.heap.size (ndC n) 58
 bx : Blk w (w0.heap.size + 1) (itV x) 44
theorem grown_below {a b c : World} {ro : Option Nat} (h : a.grownBy b ro) (k : Below b.heap.size b c) : a.grownBy c ro := grown_trans h ⟨k.os, k.tape, k.output, k.size, fun j hj _ => k.block j hj⟩
theorem HonS.later {w0 w w' : World} {g : Nat} {L : List (List Itm)} {n : Nd} {x : Itm} (h : HonS w0 g L n x w) (hb : Below w.heap.size w w') : HonS w0 g L n x w' := ⟨grown_below h.gr hb, h.blk.later hb, h.bn.later hb, h.bx.later hb⟩
theorem HonS.new {w : World} {g : Nat} {L : List (List Itm)} (n : Nd) (x : Itm) (hg : Blk w g (rwsC L) 113) : HonS w g L n x ((w.alloc (.cells (ndC n) 58)).alloc (.cells (itV x) 44)) := by
 have hb1 := (Below.refl w.heap.size w).alloc (Nat.le_refl _) (.cells (ndC n) 58)
 have hb2 := hb1.alloc (hb1.size) (.cells (itV x) 44)
 refine ⟨grown_below (World.grownBy.refl _ _) hb2, hg.later hb2, (Blk.new w _ _).later ((Below.refl _ _).alloc (Nat.le_refl _) _), ?_⟩
 have := Blk.new (w.alloc (.cells (ndC n) 58)) (itV x) 44
 rwa [World.size_alloc] at this
theorem HonS.add {w0 w w' : World} {g : Nat} {L M : List (List Itm)} {n : Nd} {x : Itm} {e : Ending} (h : HonS w0 g L n x w) (hlt : g < w0.heap.size) (k : HaddP w g M e w') : HonS w0 g M n x w' :=
 ⟨grown_trans h.gr k.2.2, k.2.1, (k.2.2.block _ h.bn.lt (by intro e; cases e; omega)).trans h.bn, (k.2.2.block _ h.bx.lt (by intro e; cases e; omega)).trans h.bx⟩
def HonP (w0 : World) (g : Nat) (L : List (List Itm)) (e : Ending) (w : World) : Prop := e = .returned (.tuple #[]) /\ Blk w g (rwsC L) 113 /\ w0.grownBy w (some g)
theorem rw_ok0 : RwOk [] := ⟨by simp, fun r hr => by cases hr⟩
theorem rw_ok1 {r : List Itm} (h : r.length <= 2) : RwOk [r] := ⟨by simp, fun q hq => by rw [List.mem_singleton.1 hq]; exact h⟩
theorem ItRow.two {w : World} {b : Nat} {p q : Itm} (h : Blk w b #[.int .i64 p.kind, .int .i64 p.node, .int .i64 p.lo, .int .i64 p.hi, .int .i64 q.kind, .int .i64 q.node, .int .i64 q.lo, .int .i64 q.hi] 44) : ItRow w (some ⟨b, 0, none⟩) [p, q] := fun i hi => by
 have hi : i < 2 := hi
 refine ⟨b, 0, rfl, h.lt, fun j hj => ?_⟩
 rw [h.cell]
 rcases (by omega : i = 0 \/ i = 1) with rfl | rfl <;> rcases (by omega : j = 0 \/ j = 1 \/ j = 2 \/ j = 3) with rfl | rfl | rfl | rfl <;> rfl
def New2 (p q : Itm) (v : Value) (w : World) : Prop := ∃ b, v = .slice (some ⟨b, 0, none⟩) 2 2 /\ Blk w b #[.int .i64 p.kind, .int .i64 p.node, .int .i64 p.lo, .int .i64 p.hi, .int .i64 q.kind, .int .i64 q.node, .int .i64 q.lo, .int .i64 q.hi] 44
theorem New2.later (p q : Itm) (v : Value) (w w' : World) (h : New2 p q v w) (hb : Below w.heap.size w w') : New2 p q v w' := by
 obtain ⟨b, h1, h2⟩ := h
 exact ⟨b, h1, h2.later hb⟩
def nodR (n : Nd) (x : Itm) : List (List Itm) :=
 if n.kind = 1 then [[]]
 else if n.kind = 3 then [[⟨3, x.node, 0, 0⟩]]
 else if n.kind = 4 then [[⟨1, n.a, 0, 0⟩, ⟨1, n.b, 0, 0⟩]]
 else if n.kind = 5 then [[⟨1, n.a, 0, 0⟩], [⟨1, n.b, 0, 0⟩]]
 else if n.kind = 6 then [[], [⟨1, n.a, 0, 0⟩, x]]
 else if n.kind = 7 then [[⟨2, x.node, n.lo, n.hi⟩]]
 else []
set_option maxHeartbeats 32000000 in
theorem hdOpenNode_any (n : Nd) (x : Itm) (g : Nat) (w : World) (hg : Blk w g (rwsC []) 113) :
 Calls Try.prog 88 #[.pointer (some ⟨g, 0, none⟩), .agg (ndC n), .agg (itV x)] w (HonP w g (nodR n x)) := by
 have HS := Lib.hid (HonS.new n x hg)
 have HLT := Lib.hid hg.lt
 obtain ⟨nk, na, nb, nlo, nhi, ncls, ntext⟩ := n
 obtain ⟨kk, nn, lo, hi⟩ := x
 obtain ⟨T, hT⟩ : ∃ T, nodR ⟨nk, na, nb, nlo, nhi, ncls, ntext⟩ ⟨kk, nn, lo, hi⟩ = T := ⟨_, rfl⟩
 have HT0 := Lib.hid hT
 rw [hT]
 clear hT hg
 go_enter Try.func88, Try.ntmps88
 go_upto_region 1 with (fail)
 generalize (w.alloc (.cells (ndC ⟨nk, na, nb, nlo, nhi, ncls, ntext⟩) 58)).alloc (.cells (itV ⟨kk, nn, lo, hi⟩) 44) = w1 at HS ⊢
 have SS := HS
 by_cases k1 : nk = 1
 ·subst k1
  have HT : Hid (T = [[]]) := by unfold Hid; rw [<- HT0.out]; rfl
  clear HT0
  have g := SS.out.bn
  unfold ndC at g
  obtain ⟨g0, g1, g2, g3, g4, g5, g6, g7, g8, g9⟩ := ten_cells g
  have hit := SS.out.bx
  unfold itV at hit
  simp only at hit
  have x0 := hit.cell 0
  have x1 := hit.cell 1
  have x2 := hit.cell 2
  have x3 := hit.cell 3
  simp at x0 x1 x2 x3
  clear g hit
  go_wp2_with fail
  refine (hdAdd_any [] (by simp) rw_ok0 [] (by simp) g none 0 _ HS.out.blk (ItRow.nil _ _)).mono ?_
  intro e w2 hadd
  obtain rfl := hadd.1
  have HZZ := Lib.hid (HS.out.add (M := [[]]) HLT.out hadd)
  clear hadd g0 g1 g2 g3 g4 g5 g6 g7 g8 g9 x0 x1 x2 x3
  go_wp2
  go_end0
  exact ⟨rfl, by rw [HT.out]; exact HZZ.out.blk, HZZ.out.gr⟩
 ·have e1 : (nk == 1) = false := by simpa using k1
  by_cases k3 : nk = 3
  ·subst k3
   have HT : Hid (T = [[⟨3, nn, 0, 0⟩]]) := by unfold Hid; rw [<- HT0.out]; rfl
   clear HT0
   have g := SS.out.bn
   unfold ndC at g
   obtain ⟨g0, g1, g2, g3, g4, g5, g6, g7, g8, g9⟩ := ten_cells g
   have hit := SS.out.bx
   unfold itV at hit
   simp only at hit
   have x0 := hit.cell 0
   have x1 := hit.cell 1
   have x2 := hit.cell 2
   have x3 := hit.cell 3
   simp at x0 x1 x2 x3
   clear g hit
   go_wp2_with fail
   have hb2 := (Below.refl w1.heap.size w1).alloc (Nat.le_refl _) (.cells (itV ⟨3, nn, 0, 0⟩) 44)
   refine (hdAdd_any [] (by simp) rw_ok0 [⟨3, nn, 0, 0⟩] (by simp) g (some ⟨w1.heap.size, 0, none⟩) 1 _ (HS.out.later hb2).blk (ItRow.one (Blk.new _ _ _))).mono ?_
   intro e w2 hadd
   obtain rfl := hadd.1
   have HZZ := Lib.hid ((HS.out.later hb2).add (M := [[⟨3, nn, 0, 0⟩]]) HLT.out hadd)
   clear hadd hb2 g0 g1 g2 g3 g4 g5 g6 g7 g8 g9 x0 x1 x2 x3
   go_wp2
   go_end0
   exact ⟨rfl, by rw [HT.out]; exact HZZ.out.blk, HZZ.out.gr⟩
  ·have e3 : (nk == 3) = false := by simpa using k3
   by_cases k4 : nk = 4
   ·subst k4
    have HT : Hid (T = [[⟨1, na, 0, 0⟩, ⟨1, nb, 0, 0⟩]]) := by unfold Hid; rw [<- HT0.out]; rfl
    clear HT0
    have g := SS.out.bn
    unfold ndC at g
    obtain ⟨g0, g1, g2, g3, g4, g5, g6, g7, g8, g9⟩ := ten_cells g
    have hit := SS.out.bx
    unfold itV at hit
    simp only at hit
    have x0 := hit.cell 0
    have x1 := hit.cell 1
    have x2 := hit.cell 2
    have x3 := hit.cell 3
    simp at x0 x1 x2 x3
    clear g hit
    go_upto_region 7 with (fail)
    clear g0 g1 g2 g3 g4 g5 g6 g7 g8 g9 x0 x1 x2 x3
    refine wp_region_stable_tail 8 (S := (HonS w g [] ⟨4, na, nb, nlo, nhi, ncls, ntext⟩ ⟨kk, nn, lo, hi⟩)) (hSt := fun _ _ h hb => h.later hb) (plan := [[(0, none)], [(4, none)], [(23, some 1)], [(24, some 2)], [(4, none)], [(26, some 4)], [(27, some 5)], [(25, some 3), (28, some 6)]]) rfl rfl (by kernel_rfl) (by kernel_rfl) (by kernel_rfl) (by kernel_rfl) ?hS ?_
    rotate_left
    iterate 7 first
     | (refine chain_skip (by rfl) (by rfl) ?_)
     | (apply chain_want (by rfl)
        ·intro act wx hS hr
         simp at hr
         have SS := Lib.hid hS
         have g := SS.out.bn
         unfold ndC at g
         obtain ⟨g0, g1, g2, g3, g4, g5, g6, g7, g8, g9⟩ := ten_cells g
         have hit := SS.out.bx
         unfold itV at hit
         simp only at hit
         have x0 := hit.cell 0
         have x1 := hit.cell 1
         have x2 := hit.cell 2
         have x3 := hit.cell 3
         simp at x0 x1 x2 x3
         clear g hit
         go_simp
         (try go_ints)
         first
          | ((with_reducible refine (hdWhole_any _ _).mono ?_); rintro e w' ⟨rfl, hb⟩; exact Done.mk hb)
          | exact Done.same
       )
    (refine chain_rel (New2 ⟨1, na, 0, 0⟩ ⟨1, nb, 0, 0⟩) (New2.later ⟨1, na, 0, 0⟩ ⟨1, nb, 0, 0⟩) (by rfl) ?_ ?_
     ·intro act wx hS hr
      simp at hr
      have SS := Lib.hid hS
      have g := SS.out.bn
      unfold ndC at g
      obtain ⟨g0, g1, g2, g3, g4, g5, g6, g7, g8, g9⟩ := ten_cells g
      have hit := SS.out.bx
      unfold itV at hit
      simp only at hit
      have x0 := hit.cell 0
      have x1 := hit.cell 1
      have x2 := hit.cell 2
      have x3 := hit.cell 3
      simp at x0 x1 x2 x3
      clear g hit
      all_goals go_simp
      exact Done.rel ((Below.refl _ _).alloc (Nat.le_refl _) _) ⟨_, rfl, Blk.new _ _ _⟩
    )
    show ∀ w', _ -> _
    intro wz hz
    simp [Act.put]
    case hS => exact HS.out
    intro v7 hv7
    obtain ⟨b7, rfl, hk7⟩ := hv7
    have HZ := Lib.hid hz
    have HK7 := Lib.hid hk7
    clear hz SS HS hk7
    go_wp2_with fail
    refine (hdAdd_any [] (by simp) rw_ok0 [⟨1, na, 0, 0⟩, ⟨1, nb, 0, 0⟩] (by simp) g (some ⟨b7, 0, none⟩) 2 _ HZ.out.blk (ItRow.two (p := ⟨1, na, 0, 0⟩) (q := ⟨1, nb, 0, 0⟩) HK7.out)).mono ?_
    intro e w2 hadd
    obtain rfl := hadd.1
    have HZZ := Lib.hid (HZ.out.add (M := [[⟨1, na, 0, 0⟩, ⟨1, nb, 0, 0⟩]]) HLT.out hadd)
    clear hadd
    go_wp2
    go_end0
    exact ⟨rfl, by rw [HT.out]; exact HZZ.out.blk, HZZ.out.gr⟩
   ·have e4 : (nk == 4) = false := by simpa using k4
    by_cases k5 : nk = 5
    ·subst k5
     have HT : Hid (T = [[⟨1, na, 0, 0⟩], [⟨1, nb, 0, 0⟩]]) := by unfold Hid; rw [<- HT0.out]; rfl
     clear HT0
     have g := SS.out.bn
     unfold ndC at g
     obtain ⟨g0, g1, g2, g3, g4, g5, g6, g7, g8, g9⟩ := ten_cells g
     have hit := SS.out.bx
     unfold itV at hit
     simp only at hit
     have x0 := hit.cell 0
     have x1 := hit.cell 1
     have x2 := hit.cell 2
     have x3 := hit.cell 3
     simp at x0 x1 x2 x3
     clear g hit
     go_wp2_with fail
     refine (hdWhole_any _ _).mono ?_
     rintro e w2 ⟨rfl, hb⟩
     have HZ := Lib.hid (HS.out.later hb)
     clear hb g0 g1 g2 g3 g4 g5 g6 g7 g8 g9 x0 x1 x2 x3
     go_wp2_with fail
     have hb2 := (Below.refl w2.heap.size w2).alloc (Nat.le_refl _) (.cells (itV ⟨1, na, 0, 0⟩) 44)
     refine (hdAdd_any [] (by simp) rw_ok0 [⟨1, na, 0, 0⟩] (by simp) g (some ⟨w2.heap.size, 0, none⟩) 1 _ (HZ.out.later hb2).blk (ItRow.one (Blk.new _ _ _))).mono ?_
     intro e w3 hadd
     obtain rfl := hadd.1
     have HZ3 := Lib.hid ((HZ.out.later hb2).add (M := [[⟨1, na, 0, 0⟩]]) HLT.out hadd)
     clear hadd hb2 HZ SS
     have SS := HZ3
     have g := SS.out.bn
     unfold ndC at g
     obtain ⟨g0, g1, g2, g3, g4, g5, g6, g7, g8, g9⟩ := ten_cells g
     have hit := SS.out.bx
     unfold itV at hit
     simp only at hit
     have x0 := hit.cell 0
     have x1 := hit.cell 1
     have x2 := hit.cell 2
     have x3 := hit.cell 3
     simp at x0 x1 x2 x3
     clear g hit
     go_wp2_with fail
     refine (hdWhole_any _ _).mono ?_
     rintro e w4 ⟨rfl, hb⟩
     have HZ4 := Lib.hid (HZ3.out.later hb)
     clear hb g0 g1 g2 g3 g4 g5 g6 g7 g8 g9 x0 x1 x2 x3
     go_wp2_with fail
     have hb2 := (Below.refl w4.heap.size w4).alloc (Nat.le_refl _) (.cells (itV ⟨1, nb, 0, 0⟩) 44)
     refine (hdAdd_any [[⟨1, na, 0, 0⟩]] (by simp) (rw_ok1 (by simp)) [⟨1, nb, 0, 0⟩] (by simp) g (some ⟨w4.heap.size, 0, none⟩) 1 _ (HZ4.out.later hb2).blk (ItRow.one (Blk.new _ _ _))).mono ?_
     intro e w5 hadd
     obtain rfl := hadd.1
     have HZZ := Lib.hid ((HZ4.out.later hb2).add (M := [[⟨1, na, 0, 0⟩], [⟨1, nb, 0, 0⟩]]) HLT.out hadd)
     clear hadd hb2
     go_wp2
     go_end0
     exact ⟨rfl, by rw [HT.out]; exact HZZ.out.blk, HZZ.out.gr⟩
    ·have e5 : (nk == 5) = false := by simpa using k5
     by_cases k6 : nk = 6
     ·subst k6
      have HT : Hid (T = [[], [⟨1, na, 0, 0⟩, ⟨kk, nn, lo, hi⟩]]) := by unfold Hid; rw [<- HT0.out]; rfl
      clear HT0
      have g := SS.out.bn
      unfold ndC at g
      obtain ⟨g0, g1, g2, g3, g4, g5, g6, g7, g8, g9⟩ := ten_cells g
      have hit := SS.out.bx
      unfold itV at hit
      simp only at hit
      have x0 := hit.cell 0
      have x1 := hit.cell 1
      have x2 := hit.cell 2
      have x3 := hit.cell 3
      simp at x0 x1 x2 x3
      clear g hit
      go_wp2_with fail
      refine (hdAdd_any [] (by simp) rw_ok0 [] (by simp) g none 0 _ HS.out.blk (ItRow.nil _ _)).mono ?_
      intro e w2 hadd
      obtain rfl := hadd.1
      have HZ2 := Lib.hid (HS.out.add (M := [[]]) HLT.out hadd)
      clear hadd g0 g1 g2 g3 g4 g5 g6 g7 g8 g9 x0 x1 x2 x3 SS HS
      go_upto_region 13 with (fail)
      refine wp_region_stable_tail 6 (S := (HonS w g [[]] ⟨6, na, nb, nlo, nhi, ncls, ntext⟩ ⟨kk, nn, lo, hi⟩)) (hSt := fun _ _ h hb => h.later hb) (plan := [[(0, none)], [(4, none)], [(50, some 1)], [(51, some 2)], [(5, none)], [(52, some 3), (53, some 4)]]) rfl rfl (by kernel_rfl) (by kernel_rfl) (by kernel_rfl) (by kernel_rfl) ?hS ?_
      rotate_left
      iterate 5 first
       | (refine chain_skip (by rfl) (by rfl) ?_)
       | (apply chain_want (by rfl)
          ·intro act wx hS hr
           simp at hr
           have SS := Lib.hid hS
           have g := SS.out.bn
           unfold ndC at g
           obtain ⟨g0, g1, g2, g3, g4, g5, g6, g7, g8, g9⟩ := ten_cells g
           have hit := SS.out.bx
           unfold itV at hit
           simp only at hit
           have x0 := hit.cell 0
           have x1 := hit.cell 1
           have x2 := hit.cell 2
           have x3 := hit.cell 3
           simp at x0 x1 x2 x3
           clear g hit
           go_simp
           (try go_ints)
           first
            | ((with_reducible refine (hdWhole_any _ _).mono ?_); rintro e w' ⟨rfl, hb⟩; exact Done.mk hb)
            | exact Done.same
         )
      (refine chain_rel (New2 ⟨1, na, 0, 0⟩ ⟨kk, nn, lo, hi⟩) (New2.later ⟨1, na, 0, 0⟩ ⟨kk, nn, lo, hi⟩) (by rfl) ?_ ?_
       ·intro act wx hS hr
        simp at hr
        have SS := Lib.hid hS
        have g := SS.out.bn
        unfold ndC at g
        obtain ⟨g0, g1, g2, g3, g4, g5, g6, g7, g8, g9⟩ := ten_cells g
        have hit := SS.out.bx
        unfold itV at hit
        simp only at hit
        have x0 := hit.cell 0
        have x1 := hit.cell 1
        have x2 := hit.cell 2
        have x3 := hit.cell 3
        simp at x0 x1 x2 x3
        clear g hit
        all_goals go_simp
        exact Done.rel ((Below.refl _ _).alloc (Nat.le_refl _) _) ⟨_, rfl, Blk.new _ _ _⟩
      )
      show ∀ w', _ -> _
      intro wz hz
      simp [Act.put]
      case hS => exact HZ2.out
      intro v7 hv7
      obtain ⟨b7, rfl, hk7⟩ := hv7
      have HZ := Lib.hid hz
      have HK7 := Lib.hid hk7
      clear hz HZ2 hk7
      go_wp2_with fail
      refine (hdAdd_any [[]] (by simp) (rw_ok1 (by simp)) [⟨1, na, 0, 0⟩, ⟨kk, nn, lo, hi⟩] (by simp) g (some ⟨b7, 0, none⟩) 2 _ HZ.out.blk (ItRow.two (p := ⟨1, na, 0, 0⟩) (q := ⟨kk, nn, lo, hi⟩) HK7.out)).mono ?_
      intro e w3 hadd
      obtain rfl := hadd.1
      have HZZ := Lib.hid (HZ.out.add (M := [[], [⟨1, na, 0, 0⟩, ⟨kk, nn, lo, hi⟩]]) HLT.out hadd)
      clear hadd
      go_wp2
      go_end0
      exact ⟨rfl, by rw [HT.out]; exact HZZ.out.blk, HZZ.out.gr⟩
     ·have e6 : (nk == 6) = false := by simpa using k6
      by_cases k7 : nk = 7
      ·subst k7
       have HT : Hid (T = [[⟨2, nn, nlo, nhi⟩]]) := by unfold Hid; rw [<- HT0.out]; rfl
       clear HT0
       have g := SS.out.bn
       unfold ndC at g
       obtain ⟨g0, g1, g2, g3, g4, g5, g6, g7, g8, g9⟩ := ten_cells g
       have hit := SS.out.bx
       unfold itV at hit
       simp only at hit
       have x0 := hit.cell 0
       have x1 := hit.cell 1
       have x2 := hit.cell 2
       have x3 := hit.cell 3
       simp at x0 x1 x2 x3
       clear g hit
       go_wp2_with fail
       have hb2 := (Below.refl w1.heap.size w1).alloc (Nat.le_refl _) (.cells (itV ⟨2, nn, nlo, nhi⟩) 44)
       refine (hdAdd_any [] (by simp) rw_ok0 [⟨2, nn, nlo, nhi⟩] (by simp) g (some ⟨w1.heap.size, 0, none⟩) 1 _ (HS.out.later hb2).blk (ItRow.one (Blk.new _ _ _))).mono ?_
       intro e w2 hadd
       obtain rfl := hadd.1
       have HZZ := Lib.hid ((HS.out.later hb2).add (M := [[⟨2, nn, nlo, nhi⟩]]) HLT.out hadd)
       clear hadd hb2 g0 g1 g2 g3 g4 g5 g6 g7 g8 g9 x0 x1 x2 x3
       go_wp2
       go_end0
       exact ⟨rfl, by rw [HT.out]; exact HZZ.out.blk, HZZ.out.gr⟩
      ·have e7 : (nk == 7) = false := by simpa using k7
       have HT : Hid (T = []) := by unfold Hid; rw [<- HT0.out]; unfold nodR; simp only; rw [if_neg k1, if_neg k3, if_neg k4, if_neg k5, if_neg k6, if_neg k7]
       clear HT0 k1 k3 k4 k5 k6 k7
       have g := SS.out.bn
       unfold ndC at g
       obtain ⟨g0, g1, g2, g3, g4, g5, g6, g7, g8, g9⟩ := ten_cells g
       have hit := SS.out.bx
       unfold itV at hit
       simp only at hit
       have x0 := hit.cell 0
       have x1 := hit.cell 1
       have x2 := hit.cell 2
       have x3 := hit.cell 3
       simp at x0 x1 x2 x3
       clear g hit
       have HZZ := HS
       go_wp2
       go_end0
       exact ⟨rfl, by rw [HT.out]; exact HZZ.out.blk, HZZ.out.gr⟩
theorem blk_typ {w : World} {b c : Nat} {vs us : Array Value} {t u : TypeId} (h : Blk w b vs t) (k : Blk w c us u) (hne : t ≠ u) : b ≠ c := by
 rintro rfl
 unfold Blk at h k
 rw [h] at k
 cases k
 exact hne rfl
theorem bel_grown {B : Nat} {a b c : World} {g : Nat} (h : Below B a b) (hB : B <= b.heap.size) (k : b.grownBy c (some g)) (hg : B <= g) : Below B a c :=
 h.trans ⟨k.os, k.tape, k.output, k.size, fun j hj => k.block j (by omega) (by intro e; cases e; omega)⟩
structure HopS (w0 : World) (A : Option Addr) (l : List Nd) (c : Nat) (x : Itm) (L : List (List Itm)) (bn : Nat) (n : Nd) (w : World) : Prop where
 bel : Below w0.heap.size w0 w
 row : NRow w A l
 bd : Blk w w0.heap.size #[.slice A l.length c] 24
 bx : Blk w (w0.heap.size + 1) (itV x) 44
 br : Blk w (w0.heap.size + 2) (rwsC []) 113
 bg : Blk w (w0.heap.size + 3) (rwsC L) 113
 bn : Blk w bn (ndC n) 58
theorem HopS.later {w0 w w' : World} {A : Option Addr} {l : List Nd} {c : Nat} {x : Itm} {L : List (List Itm)} {bn : Nat} {n : Nd} (h : HopS w0 A l c x L bn n w) (hb : Below w.heap.size w w') : HopS w0 A l c x L bn n w' :=
 ⟨h.bel.trans (hb.mono h.bel.size), h.row.later hb, h.bd.later hb, h.bx.later hb, h.br.later hb, h.bg.later hb, h.bn.later hb⟩
theorem HopS.turn {w0 w w' : World} {A : Option Addr} {l : List Nd} {c : Nat} {x : Itm} {L M : List (List Itm)} {bn : Nat} {n : Nd} (h : HopS w0 A l c x L bn n w) (hr : NRow w0 A l) (k : Blk w' (w0.heap.size + 3) (rwsC M) 113) (kg : w.grownBy w' (some (w0.heap.size + 3))) : HopS w0 A l c x M bn n w' := by
 have hb := bel_grown h.bel h.bel.size kg (by omega)
 have hk : ∀ (b : Nat) (cs : Array Value) (t : TypeId), Blk w b cs t -> b ≠ w0.heap.size + 3 -> Blk w' b cs t := fun b cs t hb hne => (kg.block b hb.lt (by intro e; cases e; exact hne rfl)).trans hb
 exact ⟨hb, hr.later hb, hk _ _ _ h.bd (by omega), hk _ _ _ h.bx (by omega), hk _ _ _ h.br (by omega), k, hk _ _ _ h.bn (blk_typ h.bn h.bg (by decide))⟩
structure Hop0 (w0 : World) (A : Option Addr) (l : List Nd) (c : Nat) (x : Itm) (w : World) : Prop where
 bel : Below w0.heap.size w0 w
 row : NRow w A l
 bd : Blk w w0.heap.size #[.slice A l.length c] 24
 bx : Blk w (w0.heap.size + 1) (itV x) 44
 br : Blk w (w0.heap.size + 2) (rwsC []) 113
 bg : Blk w (w0.heap.size + 3) (rwsC []) 113
theorem Hop0.later {w0 w w' : World} {A : Option Addr} {l : List Nd} {c : Nat} {x : Itm} (h : Hop0 w0 A l c x w) (hb : Below w.heap.size w w') : Hop0 w0 A l c x w' :=
 ⟨h.bel.trans (hb.mono h.bel.size), h.row.later hb, h.bd.later hb, h.bx.later hb, h.br.later hb, h.bg.later hb⟩
theorem Hop0.new {w : World} {A : Option Addr} {l : List Nd} (c : Nat) (x : Itm) (hr : NRow w A l) : Hop0 w A l c x ((((w.alloc (.cells #[.slice A l.length c] 24)).alloc (.cells (itV x) 44)).alloc (.cells (rwsC []) 113)).alloc (.cells (rwsC []) 113)) := by
 have hb : ∀ (w : World) (o : Obj), Below w.heap.size w (w.alloc o) := fun w o => (Below.refl _ _).alloc (Nat.le_refl _) _
 have h1 := Blk.new w #[.slice A l.length c] 24
 have e1 : (w.alloc (.cells #[.slice A l.length c] 24)).heap.size = w.heap.size + 1 := World.size_alloc _ _
 have hB1 := hb w (.cells #[.slice A l.length c] 24)
 generalize w.alloc (.cells #[.slice A l.length c] 24) = w1 at *
 have h2 := Blk.new' e1.symm (itV x) 44
 have e2 : (w1.alloc (.cells (itV x) 44)).heap.size = w.heap.size + 2 := by rw [World.size_alloc, e1]
 have hB2 := hb w1 (.cells (itV x) 44)
 generalize w1.alloc (.cells (itV x) 44) = w2 at *
 have h3 := Blk.new' e2.symm (rwsC []) 113
 have e3 : (w2.alloc (.cells (rwsC []) 113)).heap.size = w.heap.size + 3 := by rw [World.size_alloc, e2]
 have hB3 := hb w2 (.cells (rwsC []) 113)
 generalize w2.alloc (.cells (rwsC []) 113) = w3 at *
 have h4 := Blk.new' e3.symm (rwsC []) 113
 have hB4 := hb w3 (.cells (rwsC []) 113)
 generalize w3.alloc (.cells (rwsC []) 113) = w4 at *
 have hBB : Below w.heap.size w w4 := ((hB1.trans (hB2.mono (by omega))).trans (hB3.mono (by omega))).trans (hB4.mono (by omega))
 exact ⟨hBB, hr.later hBB, ((h1.later hB2).later hB3).later hB4, (h2.later hB3).later hB4, h3.later hB4, h4⟩
theorem rwI_one {l : List Nd} {x : Itm} {i : Nat} (h1 : x.kind = 1) (hx : x.node = (i : Int)) : rwI l x = nodR (atN l i) x := by
 unfold rwI opnS nodR
 simp only [h1, hx, Int.toNat_natCast]
 rw [if_neg (by omega), if_neg (by omega)]
theorem opens_zero : rwsC [] = #[Value.int .i64 0, .int .i64 0, .int .i64 0, .int .i64 0, .int .i64 0, .int .i64 0, .int .i64 0, .int .i64 0, .int .i64 0, .int .i64 0, .int .i64 0, .int .i64 0, .int .i64 0, .int .i64 0, .int .i64 0, .int .i64 0, .int .i64 0, .int .i64 0, .int .i64 0] := rfl
theorem rwsC_ones {L : List (List Itm)} : (rwsC L).all (·.oneCell') = true := by
 rw [Array.all_eq_true_iff_forall_mem]
 intro v hv
 unfold rwsC at hv
 rw [List.mem_toArray, List.mem_append, List.mem_append] at hv
 have h : ∀ r, v ∈ rowC r -> v.oneCell' = true := fun r hr => by
  unfold rowC at hr
  rcases List.mem_append.1 hr with h | h
  ·exact flatIt_ones _ v h
  ·rw [List.mem_singleton.1 h]; rfl
 rcases hv with (h1 | h1) | h1
 ·exact h _ h1
 ·exact h _ h1
 ·rw [List.mem_singleton.1 h1]; rfl
theorem rwsC_info {L : List (List Itm)} (h : RwOk L) : (Try.prog.info? 113).map (·.size) = some (rwsC L).size := by
 rw [rwsC_size h]; kernel_rfl
theorem setRow_blk {w : World} {g : Nat} {cs cs' : Array Value} {t : TypeId} (h : Blk w g cs t) : Blk (w.setRow g cs') g cs' t := setRow_heap _ _ _ _ _ _ h
theorem hdOpens_any (l : List Nd) (A : Option Addr) (c : Nat) (x : Itm) (hF : Form l) (h0 : 0 < l.length) (hx : HdF l x) (hrd : rdyS l [x] = false) (hlen : l.length <= 1073741824) (w : World) (hrow : NRow w A l) :
 Calls Try.prog 66 #[.agg #[.slice A l.length c], .agg (itV x)] w (Ans w (.agg (rwsC (rwI l x)))) := by
 obtain ⟨i, hil, hin⟩ := hx.inl h0
 have hkd := hx.kind
 have hr1 := rwI_one (l := l) (x := x) (i := i)
 have hRI : ∀ T, rwI l x = T -> Hid (rwI l x = T) := fun T h => h
 obtain ⟨kk, nn, lo, hi'⟩ := x
 simp only at hin hkd hr1
 subst hin
 have HS := Lib.hid (Hop0.new c ⟨kk, (i : Int), lo, hi'⟩ hrow)
 have HN := Lib.hid (fun (w' : World) (h : NRow w' A l) => hdNode_any l A c ⟨kk, (i : Int), lo, hi'⟩ i hil rfl hlen w' h)
 have HR := Lib.hid hrow
 obtain ⟨T, hT⟩ : ∃ T, rwI l ⟨kk, (i : Int), lo, hi'⟩ = T := ⟨_, rfl⟩
 have HT0 := Lib.hid hT
 have HOK : Hid (RwOk T) := by unfold Hid; rw [<- hT]; exact rw_len _ _
 rw [hT]
 clear hT hrow
 rw [opens_zero] at HS
 go_enter Try.func66, Try.ntmps66
 go_upto_region 2 with (fail)
 unfold itV at HS HN ⊢
 simp only at HS HN ⊢
 generalize (((w.alloc (.cells #[.slice A l.length c] 24)).alloc (.cells #[.int .i64 kk, .int .i64 (i : Int), .int .i64 lo, .int .i64 hi'] 44)).alloc (.cells #[Value.int .i64 0, .int .i64 0, .int .i64 0, .int .i64 0, .int .i64 0, .int .i64 0, .int .i64 0, .int .i64 0, .int .i64 0, .int .i64 0, .int .i64 0, .int .i64 0, .int .i64 0, .int .i64 0, .int .i64 0, .int .i64 0, .int .i64 0, .int .i64 0, .int .i64 0] 113)).alloc (.cells #[Value.int .i64 0, .int .i64 0, .int .i64 0, .int .i64 0, .int .i64 0, .int .i64 0, .int .i64 0, .int .i64 0, .int .i64 0, .int .i64 0, .int .i64 0, .int .i64 0, .int .i64 0, .int .i64 0, .int .i64 0, .int .i64 0, .int .i64 0, .int .i64 0, .int .i64 0] 113) = w1 at HS ⊢
 have e0 := HS.out.bd.cell 0
 have hit := HS.out.bx
 unfold itV at hit
 simp only at hit
 have x0 := hit.cell 0
 have x1 := hit.cell 1
 have x2 := hit.cell 2
 have x3 := hit.cell 3
 simp at x0 x1 x2 x3 e0
 clear hit
 go_wp2_with fail
 refine (HN.out _ HS.out.row).mono ?_
 rintro e w2 ⟨rfl, hb⟩
 generalize hn : atN l i = n at *
 obtain ⟨nk, na, nb, nlo, nhi, ncls, ntext⟩ := n
 have HS2 := Lib.hid (HS.out.later hb)
 clear hb x0 x1 x2 x3 e0 HN HS
 unfold ndC
 simp only
 go_upto_region 3 with (fail)
 have hb3 := (Below.refl w2.heap.size w2).alloc (Nat.le_refl _) (.cells (ndC ⟨nk, na, nb, nlo, nhi, ncls, ntext⟩) 58)
 have HBN := Lib.hid (Blk.new w2 (ndC ⟨nk, na, nb, nlo, nhi, ncls, ntext⟩) 58)
 have HS3 := HS2.out.later hb3
 have HS4 : HopS w A l c ⟨kk, (i : Int), lo, hi'⟩ [] w2.heap.size ⟨nk, na, nb, nlo, nhi, ncls, ntext⟩ (w2.alloc (.cells (ndC ⟨nk, na, nb, nlo, nhi, ncls, ntext⟩) 58)) := ⟨HS3.bel, HS3.row, HS3.bd, HS3.bx, HS3.br, HS3.bg, HBN.out⟩
 clear HS3 HS2 HBN hb3
 have HS : Hid _ := HS4
 clear HS4
 unfold ndC at HS
 simp only at HS
 generalize (w2.alloc (.cells #[.int .i64 nk, .int .i64 na, .int .i64 nb, .int .i64 nlo, .int .i64 nhi, .int .u64 (wd ncls 0), .int .u64 (wd ncls 1), .int .u64 (wd ncls 2), .int .u64 (wd ncls 3), .string (bs ntext)] 58)) = w3 at HS ⊢
 generalize w2.heap.size = bn at HS ⊢
 have SS := HS
 by_cases k5 : kk = 5
 ·have HT5 : Hid (T = if lo = 0 then [[]] else []) := by
   unfold Hid; rw [<- HT0.out]; unfold rwI opnS; simp only; rw [if_pos k5]
  have hk5 : (kk == 5) = true := by simpa using k5
  clear hr1 HT0 hRI k5
  have g := SS.out.bn
  unfold ndC at g
  obtain ⟨g0, g1, g2, g3, g4, g5, g6, g7, g8, g9⟩ := ten_cells g
  have hit := SS.out.bx
  unfold itV at hit
  simp only at hit
  have x0 := hit.cell 0
  have x1 := hit.cell 1
  have x2 := hit.cell 2
  have x3 := hit.cell 3
  have e0 := SS.out.bd.cell 0
  simp at x0 x1 x2 x3 e0
  clear g hit
  by_cases hl0 : lo = 0
  ·have HT : Hid (T = [[]]) := by unfold Hid; rw [HT5.out, if_pos hl0]
   have e1 : (lo == 0) = true := by simpa using hl0
   clear HT5 hl0
   go_wp2_with fail
   refine (hdAdd_any [] (by simp) rw_ok0 [] (by simp) _ none 0 _ HS.out.bg (ItRow.nil _ _)).mono ?_
   intro e w4 hadd
   obtain rfl := hadd.1
   have HZ := Lib.hid (HS.out.turn (M := [[]]) HR.out hadd.2.1 hadd.2.2)
   clear hadd x0 x1 x2 x3 e0 g0 g1 g2 g3 g4 g5 g6 g7 g8 g9
   have HZT := HZ.out
   rw [<- HT.out] at HZT
   have HZU := Lib.hid HZT
   clear HZT
   go_upto_region 14 with (fail)
   go_wp2_with (refine wpList_load_row rfl 113 _ rfl (w.heap.size + 3) rfl 113 (rwsC T) (0, 0) _ HZU.out.bg Try.underlying113 rfl (rwsC_info HOK.out) ?_; refine wpList_store_row rfl 113 _ _ rfl (w.heap.size + 2) (rwsC T) rfl rfl 113 (rwsC []) HZU.out.br (rwsC_info HOK.out) (by rw [rwsC_size HOK.out]; rfl) rwsC_ones ?_)
   refine bodyPost_ret (results_cell_row rfl _ _ (w.heap.size + 2) 113 (rwsC T) (0, 0) _ rfl (setRow_blk HZU.out.br) Try.underlying113 rfl (rwsC_info HOK.out)) rfl ⟨rfl, ?_⟩
   exact bel_grown HZU.out.bel HZU.out.bel.size (setRow_grown _ _ _) (by omega)
  ·have HT : Hid (T = []) := by unfold Hid; rw [HT5.out, if_neg hl0]
   have e1 : (lo == 0) = false := by simpa using hl0
   have HZ := HS
   clear HT5 hl0
   have HZT := HZ.out
   rw [<- HT.out] at HZT
   have HZU := Lib.hid HZT
   clear HZT
   go_upto_region 14 with (fail)
   go_wp2_with (refine wpList_load_row rfl 113 _ rfl (w.heap.size + 3) rfl 113 (rwsC T) (0, 0) _ HZU.out.bg Try.underlying113 rfl (rwsC_info HOK.out) ?_; refine wpList_store_row rfl 113 _ _ rfl (w.heap.size + 2) (rwsC T) rfl rfl 113 (rwsC []) HZU.out.br (rwsC_info HOK.out) (by rw [rwsC_size HOK.out]; rfl) rwsC_ones ?_)
   refine bodyPost_ret (results_cell_row rfl _ _ (w.heap.size + 2) 113 (rwsC T) (0, 0) _ rfl (setRow_blk HZU.out.br) Try.underlying113 rfl (rwsC_info HOK.out)) rfl ⟨rfl, ?_⟩
   exact bel_grown HZU.out.bel HZU.out.bel.size (setRow_grown _ _ _) (by omega)
 ·have hk5 : (kk == 5) = false := by simpa using k5
  by_cases k2 : kk = 2
  ·have HT2 : Hid (T = (if lo = 0 then [[]] else []) ++ (if 0 < hi' then [[⟨1, na, 0, 0⟩, ⟨2, (i : Int), max lo 1 - 1, hi' - 1⟩]] else [])) := by
    unfold Hid; rw [<- HT0.out]; unfold rwI opnS; simp only
    rw [if_neg k5, if_pos k2, Int.toNat_natCast, hn, show max 0 (lo - 1) = max lo 1 - 1 by omega]
   have hk2 : (kk == 2) = true := by simpa using k2
   obtain ⟨q0, q1, q2, q3⟩ := hx.two k2
   simp only [Int.toNat_natCast] at q0 q1 q2 q3
   rw [hn] at q0 q3
   simp only at q0 q3
   have hb1 : hi' <= 255 := by
    have := hd_cs hF hil
    rw [hn] at this
    cases this with
    | leaf h1 hf => unfold leafK at h1; simp only at h1; omega
    | one h1 hi0 ha hb h7 hr hcl hf => have := hr q0; simp only at this; omega
    | two h1 hi0 hb ha hf0 hl hcl hf => simp only at h1; omega
   clear hr1 HT0 hRI k5 hn hx hrd q0 q3
   subst k2
   have g := SS.out.bn
   unfold ndC at g
   obtain ⟨g0, g1, g2, g3, g4, g5, g6, g7, g8, g9⟩ := ten_cells g
   have hit := SS.out.bx
   unfold itV at hit
   simp only at hit
   have x0 := hit.cell 0
   have x1 := hit.cell 1
   have x2 := hit.cell 2
   have x3 := hit.cell 3
   have e0 := SS.out.bd.cell 0
   simp at x0 x1 x2 x3 e0
   clear g hit
   by_cases hl0 : lo = 0
   ·have e1 : (lo == 0) = true := by simpa using hl0
    by_cases hh0 : hi' = 0
    ·have HT : Hid (T = [[]]) := by unfold Hid; rw [HT2.out, if_pos hl0, if_neg (by omega)]; rfl
     have e2 : (hi' != 0) = false := by simpa using hh0
     clear HT2 hl0 hh0 q1 q2 hb1
     go_wp2_with fail
     refine (hdAdd_any [] (by simp) rw_ok0 [] (by simp) _ none 0 _ HS.out.bg (ItRow.nil _ _)).mono ?_
     intro e w4 hadd
     obtain rfl := hadd.1
     have HZ := Lib.hid (HS.out.turn (M := [[]]) HR.out hadd.2.1 hadd.2.2)
     clear hadd x0 x1 x2 x3 e0 g0 g1 g2 g3 g4 g5 g6 g7 g8 g9 SS
     have SS := HZ
     have g := SS.out.bn
     unfold ndC at g
     obtain ⟨g0, g1, g2, g3, g4, g5, g6, g7, g8, g9⟩ := ten_cells g
     have hit := SS.out.bx
     unfold itV at hit
     simp only at hit
     have x0 := hit.cell 0
     have x1 := hit.cell 1
     have x2 := hit.cell 2
     have x3 := hit.cell 3
     have e0 := SS.out.bd.cell 0
     simp at x0 x1 x2 x3 e0
     clear g hit
     have HZT := HZ.out
     rw [<- HT.out] at HZT
     have HZU := Lib.hid HZT
     clear HZT
     go_upto_region 14 with (fail)
     go_wp2_with (refine wpList_load_row rfl 113 _ rfl (w.heap.size + 3) rfl 113 (rwsC T) (0, 0) _ HZU.out.bg Try.underlying113 rfl (rwsC_info HOK.out) ?_; refine wpList_store_row rfl 113 _ _ rfl (w.heap.size + 2) (rwsC T) rfl rfl 113 (rwsC []) HZU.out.br (rwsC_info HOK.out) (by rw [rwsC_size HOK.out]; rfl) rwsC_ones ?_)
     refine bodyPost_ret (results_cell_row rfl _ _ (w.heap.size + 2) 113 (rwsC T) (0, 0) _ rfl (setRow_blk HZU.out.br) Try.underlying113 rfl (rwsC_info HOK.out)) rfl ⟨rfl, ?_⟩
     exact bel_grown HZU.out.bel HZU.out.bel.size (setRow_grown _ _ _) (by omega)
    ·have HT : Hid (T = [[], [⟨1, na, 0, 0⟩, ⟨2, (i : Int), max lo 1 - 1, hi' - 1⟩]]) := by unfold Hid; rw [HT2.out, if_pos hl0, if_pos (by omega)]; rfl
     have e2 : (hi' != 0) = true := by simpa using hh0
     clear HT2 hl0 hh0
     go_wp2_with fail
     refine (hdAdd_any [] (by simp) rw_ok0 [] (by simp) _ none 0 _ HS.out.bg (ItRow.nil _ _)).mono ?_
     intro e w4 hadd
     obtain rfl := hadd.1
     have HZ := Lib.hid (HS.out.turn (M := [[]]) HR.out hadd.2.1 hadd.2.2)
     clear hadd x0 x1 x2 x3 e0 g0 g1 g2 g3 g4 g5 g6 g7 g8 g9 SS
     have SS := HZ
     have g := SS.out.bn
     unfold ndC at g
     obtain ⟨g0, g1, g2, g3, g4, g5, g6, g7, g8, g9⟩ := ten_cells g
     have hit := SS.out.bx
     unfold itV at hit
     simp only at hit
     have x0 := hit.cell 0
     have x1 := hit.cell 1
     have x2 := hit.cell 2
     have x3 := hit.cell 3
     have e0 := SS.out.bd.cell 0
     simp at x0 x1 x2 x3 e0
     clear g hit
     go_upto_region 11 with (fail)
     clear x0 x1 x2 x3 e0 g0 g1 g2 g3 g4 g5 g6 g7 g8 g9 SS
     refine wp_region_stable_tail 14 (S := (HopS w A l c ⟨2, (i : Int), lo, hi'⟩ [[]] bn ⟨nk, na, nb, nlo, nhi, ncls, ntext⟩)) (hSt := fun _ _ h hb => h.later hb) (plan := [[(6, none)], [(27, some 0)], [(28, some 1)], [(3, none)], [(30, some 3)], [(3, none)], [(32, some 5)], [(33, some 6)], [(34, some 7)], [(3, none)], [(36, some 9)], [(37, some 10)], [(31, some 4), (35, some 8), (38, some 11)], [(29, some 2), (39, some 12)]]) rfl rfl (by kernel_rfl) (by kernel_rfl) (by kernel_rfl) (by kernel_rfl) ?hS ?_
     rotate_left
     iterate 13 first
      | (refine chain_skip (by rfl) (by rfl) ?_)
      | (apply chain_want (by rfl)
         ·intro act wx hS hr
          simp at hr
          have SS := Lib.hid hS
          have g := SS.out.bn
          unfold ndC at g
          obtain ⟨g0, g1, g2, g3, g4, g5, g6, g7, g8, g9⟩ := ten_cells g
          have hit := SS.out.bx
          unfold itV at hit
          simp only at hit
          have x0 := hit.cell 0
          have x1 := hit.cell 1
          have x2 := hit.cell 2
          have x3 := hit.cell 3
          have e0 := SS.out.bd.cell 0
          simp at x0 x1 x2 x3 e0
          clear g hit
          go_simp
          (try go_ints)
          first
           | ((with_reducible refine (hdWhole_any _ _).mono ?_); rintro e w' ⟨rfl, hb⟩; exact Done.mk hb)
           | exact Done.same
        )
     (refine chain_rel (New2 ⟨1, na, 0, 0⟩ ⟨2, (i : Int), max lo 1 - 1, hi' - 1⟩) (New2.later ⟨1, na, 0, 0⟩ ⟨2, (i : Int), max lo 1 - 1, hi' - 1⟩) (by rfl) ?_ ?_
      ·intro act wx hS hr
       simp at hr
       have SS := Lib.hid hS
       have g := SS.out.bn
       unfold ndC at g
       obtain ⟨g0, g1, g2, g3, g4, g5, g6, g7, g8, g9⟩ := ten_cells g
       have hit := SS.out.bx
       unfold itV at hit
       simp only at hit
       have x0 := hit.cell 0
       have x1 := hit.cell 1
       have x2 := hit.cell 2
       have x3 := hit.cell 3
       have e0 := SS.out.bd.cell 0
       simp at x0 x1 x2 x3 e0
       clear g hit
       all_goals go_simp
       exact Done.rel ((Below.refl _ _).alloc (Nat.le_refl _) _) ⟨_, rfl, Blk.new _ _ _⟩
     )
     show ∀ w', _ -> _
     intro wz hz
     simp [Act.put]
     case hS => exact HZ.out
     intro v7 hv7
     obtain ⟨b7, rfl, hk7⟩ := hv7
     have HZ2 := Lib.hid hz
     have HK7 := Lib.hid hk7
     clear hz hk7 HZ
     go_wp2_with fail
     refine (hdAdd_any [[]] (by simp) (rw_ok1 (by simp)) [⟨1, na, 0, 0⟩, ⟨2, (i : Int), max lo 1 - 1, hi' - 1⟩] (by simp) _ (some ⟨b7, 0, none⟩) 2 _ HZ2.out.bg (ItRow.two (p := ⟨1, na, 0, 0⟩) (q := ⟨2, (i : Int), max lo 1 - 1, hi' - 1⟩) HK7.out)).mono ?_
     intro e w5 hadd
     obtain rfl := hadd.1
     have HZ := Lib.hid (HZ2.out.turn (M := [[], [⟨1, na, 0, 0⟩, ⟨2, (i : Int), max lo 1 - 1, hi' - 1⟩]]) HR.out hadd.2.1 hadd.2.2)
     clear hadd
     have HZT := HZ.out
     rw [<- HT.out] at HZT
     have HZU := Lib.hid HZT
     clear HZT
     go_upto_region 14 with (fail)
     go_wp2_with (refine wpList_load_row rfl 113 _ rfl (w.heap.size + 3) rfl 113 (rwsC T) (0, 0) _ HZU.out.bg Try.underlying113 rfl (rwsC_info HOK.out) ?_; refine wpList_store_row rfl 113 _ _ rfl (w.heap.size + 2) (rwsC T) rfl rfl 113 (rwsC []) HZU.out.br (rwsC_info HOK.out) (by rw [rwsC_size HOK.out]; rfl) rwsC_ones ?_)
     refine bodyPost_ret (results_cell_row rfl _ _ (w.heap.size + 2) 113 (rwsC T) (0, 0) _ rfl (setRow_blk HZU.out.br) Try.underlying113 rfl (rwsC_info HOK.out)) rfl ⟨rfl, ?_⟩
     exact bel_grown HZU.out.bel HZU.out.bel.size (setRow_grown _ _ _) (by omega)
   ·have e1 : (lo == 0) = false := by simpa using hl0
    have HT : Hid (T = [[⟨1, na, 0, 0⟩, ⟨2, (i : Int), max lo 1 - 1, hi' - 1⟩]]) := by unfold Hid; rw [HT2.out, if_neg hl0, if_pos (by omega)]; rfl
    have e2 : (hi' != 0) = true := by
     have : hi' ≠ 0 := by omega
     simpa using this
    clear HT2 hl0
    go_upto_region 11 with (fail)
    clear x0 x1 x2 x3 e0 g0 g1 g2 g3 g4 g5 g6 g7 g8 g9 SS
    refine wp_region_stable_tail 14 (S := (HopS w A l c ⟨2, (i : Int), lo, hi'⟩ [] bn ⟨nk, na, nb, nlo, nhi, ncls, ntext⟩)) (hSt := fun _ _ h hb => h.later hb) (plan := [[(6, none)], [(27, some 0)], [(28, some 1)], [(3, none)], [(30, some 3)], [(3, none)], [(32, some 5)], [(33, some 6)], [(34, some 7)], [(3, none)], [(36, some 9)], [(37, some 10)], [(31, some 4), (35, some 8), (38, some 11)], [(29, some 2), (39, some 12)]]) rfl rfl (by kernel_rfl) (by kernel_rfl) (by kernel_rfl) (by kernel_rfl) ?hS ?_
    rotate_left
    iterate 13 first
     | (refine chain_skip (by rfl) (by rfl) ?_)
     | (apply chain_want (by rfl)
        ·intro act wx hS hr
         simp at hr
         have SS := Lib.hid hS
         have g := SS.out.bn
         unfold ndC at g
         obtain ⟨g0, g1, g2, g3, g4, g5, g6, g7, g8, g9⟩ := ten_cells g
         have hit := SS.out.bx
         unfold itV at hit
         simp only at hit
         have x0 := hit.cell 0
         have x1 := hit.cell 1
         have x2 := hit.cell 2
         have x3 := hit.cell 3
         have e0 := SS.out.bd.cell 0
         simp at x0 x1 x2 x3 e0
         clear g hit
         go_simp
         (try go_ints)
         first
          | ((with_reducible refine (hdWhole_any _ _).mono ?_); rintro e w' ⟨rfl, hb⟩; exact Done.mk hb)
          | exact Done.same
       )
    (refine chain_rel (New2 ⟨1, na, 0, 0⟩ ⟨2, (i : Int), max lo 1 - 1, hi' - 1⟩) (New2.later ⟨1, na, 0, 0⟩ ⟨2, (i : Int), max lo 1 - 1, hi' - 1⟩) (by rfl) ?_ ?_
     ·intro act wx hS hr
      simp at hr
      have SS := Lib.hid hS
      have g := SS.out.bn
      unfold ndC at g
      obtain ⟨g0, g1, g2, g3, g4, g5, g6, g7, g8, g9⟩ := ten_cells g
      have hit := SS.out.bx
      unfold itV at hit
      simp only at hit
      have x0 := hit.cell 0
      have x1 := hit.cell 1
      have x2 := hit.cell 2
      have x3 := hit.cell 3
      have e0 := SS.out.bd.cell 0
      simp at x0 x1 x2 x3 e0
      clear g hit
      all_goals go_simp
      exact Done.rel ((Below.refl _ _).alloc (Nat.le_refl _) _) ⟨_, rfl, Blk.new _ _ _⟩
    )
    show ∀ w', _ -> _
    intro wz hz
    simp [Act.put]
    case hS => exact HS.out
    intro v7 hv7
    obtain ⟨b7, rfl, hk7⟩ := hv7
    have HZ2 := Lib.hid hz
    have HK7 := Lib.hid hk7
    clear hz hk7 HS
    go_wp2_with fail
    refine (hdAdd_any [] (by simp) rw_ok0 [⟨1, na, 0, 0⟩, ⟨2, (i : Int), max lo 1 - 1, hi' - 1⟩] (by simp) _ (some ⟨b7, 0, none⟩) 2 _ HZ2.out.bg (ItRow.two (p := ⟨1, na, 0, 0⟩) (q := ⟨2, (i : Int), max lo 1 - 1, hi' - 1⟩) HK7.out)).mono ?_
    intro e w5 hadd
    obtain rfl := hadd.1
    have HZ := Lib.hid (HZ2.out.turn (M := [[⟨1, na, 0, 0⟩, ⟨2, (i : Int), max lo 1 - 1, hi' - 1⟩]]) HR.out hadd.2.1 hadd.2.2)
    clear hadd
    have HZT := HZ.out
    rw [<- HT.out] at HZT
    have HZU := Lib.hid HZT
    clear HZT
    go_upto_region 14 with (fail)
    go_wp2_with (refine wpList_load_row rfl 113 _ rfl (w.heap.size + 3) rfl 113 (rwsC T) (0, 0) _ HZU.out.bg Try.underlying113 rfl (rwsC_info HOK.out) ?_; refine wpList_store_row rfl 113 _ _ rfl (w.heap.size + 2) (rwsC T) rfl rfl 113 (rwsC []) HZU.out.br (rwsC_info HOK.out) (by rw [rwsC_size HOK.out]; rfl) rwsC_ones ?_)
    refine bodyPost_ret (results_cell_row rfl _ _ (w.heap.size + 2) 113 (rwsC T) (0, 0) _ rfl (setRow_blk HZU.out.br) Try.underlying113 rfl (rwsC_info HOK.out)) rfl ⟨rfl, ?_⟩
    exact bel_grown HZU.out.bel HZU.out.bel.size (setRow_grown _ _ _) (by omega)
  ·have k1 : kk = 1 := by
    have := hrd
    unfold rdyS at this
    simp only [Bool.or_eq_false_iff, decide_eq_false_iff_not] at this
    omega
   have HT : Hid (T = nodR ⟨nk, na, nb, nlo, nhi, ncls, ntext⟩ ⟨kk, (i : Int), lo, hi'⟩) := by unfold Hid; rw [<- HT0.out]; exact hr1 k1 trivial
   subst k1
   clear hr1 HT0 hRI k5 k2 hn hx hrd
   have g := SS.out.bn
   unfold ndC at g
   obtain ⟨g0, g1, g2, g3, g4, g5, g6, g7, g8, g9⟩ := ten_cells g
   have hit := SS.out.bx
   unfold itV at hit
   simp only at hit
   have x0 := hit.cell 0
   have x1 := hit.cell 1
   have x2 := hit.cell 2
   have x3 := hit.cell 3
   have e0 := SS.out.bd.cell 0
   simp at x0 x1 x2 x3 e0
   clear g hit
   have HON := Lib.hid (hdOpenNode_any ⟨nk, na, nb, nlo, nhi, ncls, ntext⟩ ⟨1, (i : Int), lo, hi'⟩ (w.heap.size + 1 + 1 + 1) w3 HS.out.bg)
   unfold ndC itV at HON
   simp only at HON
   go_wp2_with fail
   refine HON.out.mono ?_
   intro e w4 hadd
   obtain rfl := hadd.1
   have HZ := Lib.hid (HS.out.turn HR.out hadd.2.1 hadd.2.2)
   clear hadd HON x0 x1 x2 x3 e0 g0 g1 g2 g3 g4 g5 g6 g7 g8 g9
   have HZT := HZ.out
   rw [<- HT.out] at HZT
   have HZU := Lib.hid HZT
   clear HZT
   go_upto_region 14 with (fail)
   go_wp2_with (refine wpList_load_row rfl 113 _ rfl (w.heap.size + 3) rfl 113 (rwsC T) (0, 0) _ HZU.out.bg Try.underlying113 rfl (rwsC_info HOK.out) ?_; refine wpList_store_row rfl 113 _ _ rfl (w.heap.size + 2) (rwsC T) rfl rfl 113 (rwsC []) HZU.out.br (rwsC_info HOK.out) (by rw [rwsC_size HOK.out]; rfl) rwsC_ones ?_)
   refine bodyPost_ret (results_cell_row rfl _ _ (w.heap.size + 2) 113 (rwsC T) (0, 0) _ rfl (setRow_blk HZU.out.br) Try.underlying113 rfl (rwsC_info HOK.out)) rfl ⟨rfl, ?_⟩
   exact bel_grown HZU.out.bel HZU.out.bel.size (setRow_grown _ _ _) (by omega)
end Go.Proofs.Ytidoofdofdhjpaa
namespace Go.Proofs.Ytidoofdofdhjpaa
open Go Go.RowKit
set_option linter.unusedVariables false
set_option linter.unusedSimpArgs false
set_option maxRecDepth 100000
def wkC (NA : Option Addr) (l : List Nd) (c : Nat) (v : Value) (f m : Nat) : Array Value := #[.slice NA l.length c, v, .int .i64 (f : Int), .map (some m)]
def HdE.v (e : HdE) : Value := .slice e.A e.s.length e.cap
def Aprt (v u : Value) : Prop := u.ownBlock = none \/ u.ownBlock ≠ v.ownBlock
structure HwS (l : List Nd) (NA : Option Addr) (c wb m : Nat) (w0 : World) (Ah : List Itm) (f : Nat) (HE : List HdE) (v : Value) (w : World) : Prop where
 bel : Below w0.heap.size w0 w
 row : NRow w0 NA l
 blk : Blk w wb (wkC NA l c v f m) 81
 own : OwnIt w w0.heap.size v Ah.reverse
 map : IsMapH w m HE
 hwb : w0.heap.size <= wb
 hm : w0.heap.size <= m
 ent : ∀ e ∈ HE, OwnIt w w0.heap.size e.v e.s /\ Aprt v e.v
structure HdK (w0 : World) (wb : Nat) (w w' : World) : Prop where
 bel : Below w0.heap.size w w'
 typ : ∀ b cs t, Blk w b cs t -> t ≠ 44 -> b ≠ wb -> Blk w' b cs t
section
variable {l : List Nd} {NA : Option Addr} {c wb m : Nat} {w0 w w1 w' : World} {Ah : List Itm} {f : Nat} {HE : List HdE} {v v' : Value}
theorem HdK.trans {a b d : World} (h : HdK w0 wb a b) (k : HdK w0 wb b d) : HdK w0 wb a d := ⟨h.bel.trans k.bel, fun g cs t hb h1 h2 => k.typ g cs t (h.typ g cs t hb h1 h2) h1 h2⟩
theorem HdK.of (hs : w0.heap.size <= w.heap.size) (h : Below w.heap.size w w') : HdK w0 wb w w' := ⟨h.mono hs, fun b cs t hb _ _ => hb.later h⟩
theorem own_at {l : List Itm} {B : Nat} (h : OwnIt w B v l) {g : Nat} (hg : v.ownBlock = some g) : ∃ cur, Blk w g cur 44 /\ B <= g := by
 obtain ⟨-, ⟨rfl, -⟩ | ⟨g', cap, cur, rfl, hb, hgg, -⟩⟩ := h
 ·cases hg
 ·simp only [Value.ownBlock, Option.some.injEq] at hg
  subst hg
  exact ⟨cur, hgg, hb⟩
theorem own_not {l : List Itm} {B b : Nat} {cs : Array Value} {t : TypeId} (h : OwnIt w B v l) (hb : Blk w b cs t) (ht : t ≠ 44) : v.ownBlock ≠ some b := fun e => by
 obtain ⟨cur, h1, -⟩ := own_at h e
 exact blk_typ h1 hb (Ne.symm ht) rfl
theorem own_notm {l : List Itm} {B : Nat} {L : List HdE} (h : OwnIt w B v l) (hm : IsMapH w m L) : v.ownBlock ≠ some m := fun e => by
 obtain ⟨cur, h1, -⟩ := own_at h e
 unfold Blk at h1
 unfold IsMapH at hm
 rw [hm] at h1; cases h1
theorem HdK.grown {x : List Itm} (h : OwnIt w w0.heap.size v x) (hs : w0.heap.size <= w.heap.size) (hg : w.grownBy w' v.ownBlock) : HdK w0 wb w w' :=
 ⟨⟨hg.os, hg.tape, hg.output, hg.size, fun k hk => hg.block k (by omega) (fun e => by
   obtain ⟨cur, -, h2⟩ := own_at h e.symm
   omega)⟩, fun b cs t hb ht _ => (hg.block b hb.lt (fun e => own_not h hb ht e.symm)).trans hb⟩
theorem HdK.set (hs : w0.heap.size <= wb) (j : Nat) (u : Value) : HdK w0 wb w (w.setCell ⟨wb, j, none⟩ u) :=
 ⟨(Below.refl _ _).setCell (p := ⟨wb, j, none⟩) hs u, fun b cs t hb _ hne => hb.setCell_ne (a := ⟨wb, j, none⟩) (Ne.symm hne) u⟩
theorem HdK.put {L L' : List HdE} (hm : IsMapH w m L) (hs : w0.heap.size <= m) : HdK w0 wb w (putMapH w m L') :=
 ⟨⟨rfl, rfl, rfl, by rw [putMapH_size]; exact Nat.le_refl _, fun k hk => putMapH_other (by omega) _⟩, fun b cs t hb _ _ => (putMapH_other (fun e => by
   subst e
   unfold Blk at hb; unfold IsMapH at hm; rw [hm] at hb; cases hb) _).trans hb⟩
theorem own_wb {x : List Itm} {B : Nat} {cs : Array Value} (h : OwnIt w B v x) (hb : Blk w wb cs 81) (j : Nat) (u : Value) : OwnIt (w.setCell ⟨wb, j, none⟩ u) B v x :=
 World.ownsRow.kept h (setCell_grown w wb j u) (.inr (own_not h hb (by decide)))
theorem map_wb {L : List HdE} {cs : Array Value} (hm : IsMapH w m L) (hb : Blk w wb cs 81) (j : Nat) (u : Value) : IsMapH (w.setCell ⟨wb, j, none⟩ u) m L :=
 ((setCell_grown w wb j u).block m hm.lt (fun e => by
   cases e
   unfold Blk at hb; unfold IsMapH at hm; rw [hm] at hb; cases hb)).trans hm
theorem HwS.size (h : HwS l NA c wb m w0 Ah f HE v w) : w0.heap.size <= w.heap.size := h.bel.size
theorem HwS.nrow (h : HwS l NA c wb m w0 Ah f HE v w) : NRow w NA l := h.row.later h.bel
theorem HwS.later (h : HwS l NA c wb m w0 Ah f HE v w) (hb : Below w.heap.size w w') : HwS l NA c wb m w0 Ah f HE v w' :=
 ⟨h.bel.trans (hb.mono h.size), h.row, h.blk.later hb, h.own.later hb, (hb.block m h.map.lt).trans h.map, h.hwb, h.hm, fun e he => ⟨(h.ent e he).1.later hb, (h.ent e he).2⟩⟩
theorem HwS.push {x : Itm} (h : HwS l NA c wb m w0 Ah f HE v w) (h1 : OwnIt w1 w0.heap.size v' (Ah.reverse ++ [x])) (hg : w.grownBy w1 v.ownBlock) (hp : v'.ownBlock = v.ownBlock \/ ∃ g', v'.ownBlock = some g' /\ w.heap.size <= g') :
 HwS l NA c wb m w0 (x :: Ah) f HE v' (w1.setCell ⟨wb, 1, none⟩ v') := by
 have hk : HdK w0 wb w w1 := HdK.grown h.own h.size hg
 have hb1 : Blk w1 wb (wkC NA l c v f m) 81 := (hg.block wb h.blk.lt (fun e => own_not h.own h.blk (by decide) e.symm)).trans h.blk
 have hm1 : IsMapH w1 m HE := (hg.block m h.map.lt (fun e => own_notm h.own h.map e.symm)).trans h.map
 refine ⟨(h.bel.trans hk.bel).trans (HdK.set h.hwb 1 v').bel, h.row, hb1.setCell 1 v', ?_, map_wb hm1 hb1 1 v', h.hwb, h.hm, fun e he => ?_⟩
 ·rw [List.reverse_cons]; exact own_wb h1 hb1 1 v'
 ·obtain ⟨e1, e2⟩ := h.ent e he
  refine ⟨own_wb (World.ownsRow.kept e1 hg e2) hb1 1 v', ?_⟩
  rcases e2 with e2 | e2
  ·exact .inl e2
  ·rcases hp with hp | ⟨g', hp, hg'⟩
   ·exact .inr (by rw [hp]; exact e2)
   ·cases ho : e.v.ownBlock with
    | none => exact .inl ho
    | some b =>
     refine .inr fun e3 => ?_
     rw [ho, hp] at e3
     cases e3
     obtain ⟨cur, e4, -⟩ := own_at e1 ho
     have := e4.lt
     omega
theorem HwS.fuel (h : HwS l NA c wb m w0 Ah f HE v w) (f' : Nat) : HwS l NA c wb m w0 Ah f' HE v (w.setCell ⟨wb, 2, none⟩ (.int .i64 (f' : Int))) :=
 ⟨h.bel.trans (HdK.set h.hwb 2 _).bel, h.row, h.blk.setCell 2 _, own_wb h.own h.blk 2 _, map_wb h.map h.blk 2 _, h.hwb, h.hm, fun e he => ⟨own_wb (h.ent e he).1 h.blk 2 _, (h.ent e he).2⟩⟩
theorem own_init {x : List Itm} {y : Itm} {B n cap : Nat} {A : Option Addr} (h : OwnIt w B (.slice A n cap) (x ++ [y])) : OwnIt w B (.slice A x.length cap) x := by
 obtain ⟨h0, ⟨hv, hn⟩ | ⟨g, cap', cur, hv, hb, hgg, hc, hm, hs, ht⟩⟩ := h
 ·simp at hn
 ·rw [List.length_append, List.length_singleton] at hv hc ht
  cases hv
  refine ⟨flatIt_length _, .inr ⟨g, cap, cur, rfl, hb, hgg, by omega, hm, hs, ?_⟩⟩
  have : cur.toList.take (x.length * 4) = (cur.toList.take ((x.length + 1) * 4)).take (x.length * 4) := by rw [List.take_take]; congr 1; omega
  rw [this, ht, flatIt_append, List.take_append_of_le_length (by rw [flatIt_length]; omega), <- flatIt_length, List.take_length]
theorem HwS.pop {x : Itm} {A : Option Addr} {n cap : Nat} (h : HwS l NA c wb m w0 (x :: Ah) f HE (.slice A n cap) w) : HwS l NA c wb m w0 Ah f HE (.slice A Ah.length cap) (w.setCell ⟨wb, 1, none⟩ (.slice A Ah.length cap)) := by
 have ho := h.own
 rw [List.reverse_cons] at ho
 have h1 := own_init ho
 rw [List.length_reverse] at h1
 refine ⟨h.bel.trans (HdK.set h.hwb 1 _).bel, h.row, h.blk.setCell 1 _, own_wb h1 h.blk 1 _, map_wb h.map h.blk 1 _, h.hwb, h.hm, fun e he => ⟨own_wb (h.ent e he).1 h.blk 1 _, ?_⟩⟩
 have := (h.ent e he).2
 unfold Aprt Value.ownBlock at this ⊢
 cases A <;> exact this
theorem HwS.put {e : HdE} (h : HwS l NA c wb m w0 Ah f HE v w) (he : OwnIt w w0.heap.size e.v e.s) (ha : Aprt v e.v) : HwS l NA c wb m w0 Ah f (putE HE e) v (putMapH w m (putE HE e)) := by
 have hg : w.grownBy (putMapH w m (putE HE e)) (some m) := ⟨rfl, rfl, rfl, by rw [putMapH_size]; exact Nat.le_refl _, fun k hk hne => putMapH_other (fun e => hne (by rw [e])) _⟩
 have hkp : ∀ {u : Value} {x : List Itm}, OwnIt w w0.heap.size u x -> OwnIt (putMapH w m (putE HE e)) w0.heap.size u x := fun hu => World.ownsRow.kept hu hg (.inr (own_notm hu h.map))
 refine ⟨h.bel.trans (HdK.put (wb := wb) h.map h.hm).bel, h.row, (hg.block wb h.blk.lt (fun q => ?_)).trans h.blk, hkp h.own, putMapH_is h.map.lt _, h.hwb, h.hm, fun d hd => ?_⟩
 ·cases q
  have h1 := h.blk
  have h2 := h.map
  unfold Blk at h1; unfold IsMapH at h2; rw [h2] at h1; cases h1
 ·rcases put_mem hd with rfl | hd
  ·exact ⟨hkp he, ha⟩
  ·exact ⟨hkp (h.ent d hd).1, (h.ent d hd).2⟩
end
set_option maxHeartbeats 16000000
def flatBr : List HdE -> List Value
 | [] => []
 | e :: l => (brC e).toList ++ flatBr l
theorem brC_size (e : HdE) : (brC e).toList.length = 2 := rfl
theorem flatBr_length : ∀ l, (flatBr l).length = l.length * 2
 | [] => rfl
 | t :: l => by rw [flatBr, List.length_append, flatBr_length l, brC_size, List.length_cons]; omega
theorem flatBr_append : ∀ l m, flatBr (l ++ m) = flatBr l ++ flatBr m
 | [], m => rfl
 | t :: l, m => by show (brC t).toList ++ flatBr (l ++ m) = _; rw [flatBr_append l m, flatBr, List.append_assoc]
def hd0 : HdE := ⟨[], none, 0, 1⟩
theorem flatBr_get : ∀ (l : List HdE) (i j : Nat), i < l.length -> j < 2 -> (flatBr l)[i * 2 + j]? = (brC (l.getD i hd0))[j]?
 | [], i, j, h, _ => by simp at h
 | s :: l, 0, j, _, hj => by
  rw [flatBr, List.getElem?_append_left (by rw [brC_size]; omega)]
  simp
 | s :: l, i + 1, j, hi, hj => by
  have ih := flatBr_get l i j (by simpa using hi) hj
  show ((brC s).toList ++ flatBr l)[(i + 1) * 2 + j]? = _
  rw [List.getElem?_append_right (by rw [brC_size]; omega), brC_size, show (i + 1) * 2 + j - 2 = i * 2 + j by omega, ih]
  simp
theorem flatBr_ones : ∀ (l : List HdE) (u : Value), u ∈ flatBr l -> u.oneCell' = true
 | [], u, h => by cases h
 | t :: l, u, h => by
  rw [flatBr, List.mem_append] at h
  rcases h with h | h
  ·simp [brC] at h
   rcases h with rfl | rfl <;> rfl
  ·exact flatBr_ones l u h
def BrRow (w : World) (a : Option Addr) (l : List HdE) : Prop := ∀ i, i < l.length -> ∃ b off, a = some ⟨b, off, none⟩ /\ b < w.heap.size /\ ∀ j, j < 2 -> w.cell? ⟨b, off + i * 2 + j, none⟩ = (brC (l.getD i hd0))[j]?
theorem BrRow.later {w w' : World} {a : Option Addr} {l : List HdE} (h : BrRow w a l) (hb : Below w.heap.size w w') : BrRow w' a l := fun i hi => by
 obtain ⟨b, off, ha, hlt, hc⟩ := h i hi
 exact ⟨b, off, ha, Nat.lt_of_lt_of_le hlt hb.size, fun j hj => (hb.cell (p := ⟨b, off + i * 2 + j, none⟩) hlt).trans (hc j hj)⟩
def OwnBr (w : World) (base : Nat) (v : Value) (l : List HdE) : Prop := w.ownsRow base 41 2 v l.length (flatBr l)
theorem OwnBr.later {w w' : World} {base : Nat} {v : Value} {l : List HdE} (h : OwnBr w base v l) (hb : Below w.heap.size w w') : OwnBr w' base v l := ownsRow_later h hb
theorem OwnBr.row {w : World} {base : Nat} {v : Value} {l : List HdE} (h : OwnBr w base v l) : ∃ a cap, v = .slice a l.length cap /\ l.length <= cap /\ BrRow w a l := by
 obtain ⟨_, ⟨hv, hn⟩ | ⟨g, cap, cur, hv, hb, hg, hc, hm, hs, ht⟩⟩ := h
 ·have : l = [] := List.length_eq_zero_iff.1 hn
  subst this
  exact ⟨none, 0, hv, Nat.le_refl _, fun i hi => by simp at hi⟩
 ·refine ⟨_, cap, hv, hc, fun i hi => ⟨g, 0, rfl, Blk.lt (w := w) (b := g) (vs := cur) (t := 41) hg, fun j hj => ?_⟩⟩
  rw [Blk.cell (w := w) (b := g) (vs := cur) (t := 41) hg, <- flatBr_get l i j hi hj, <- ht, List.getElem?_take, if_pos (by omega)]
  simp
theorem infoBr : (Try.prog.info? 41).map (fun i => (i.zero, i.size, i.bytes)) = some (some (.agg #[.slice none 0 0, .int .i64 0]), 2, 32) := by kernel_rfl
theorem br_news {w : World} {b : Nat} {p : HdE} (h : Blk w b (brC p) 41) : ∀ (j : Nat) (u : Value), (flatBr [p])[j]? = some u -> w.cell? ((⟨b, 0, none⟩ : Addr).add j) = some u := fun j u hu => by
 have e : flatBr [p] = (brC p).toList := by simp [flatBr]
 rw [e, Array.getElem?_toList] at hu
 have hadd : (⟨b, 0, none⟩ : Addr).add j = ⟨b, j, none⟩ := by unfold Addr.add; split <;> simp_all
 rw [hadd, h.cell]; exact hu
set_option maxRecDepth 100000 in
theorem wpList_append_br {w : World} {ops : Array Oper} {rest : List Oper} {o : Oper} {a : Act} {Q : Exit -> Act -> World -> Prop} (hgd : o.guard = none) (s x : Operand)
 (ho : o.op = .call { callee := .builtin .append, args := #[s, x], argTypes := #[37, 37] })
 (base : Nat) (v : Value) (l : List HdE) (hs : a.eval s = v) (hown : OwnBr w base v l)
 (b : Nat) (p : HdE) (hx : a.eval x = .slice (some ⟨b, 0, none⟩) 1 1) (hnew : Blk w b (brC p) 41) (hlen : l.length < 1073741824) (hbase : base <= w.heap.size)
 (h : ∀ v' w', OwnBr w' base v' (l ++ [p]) -> w.grownBy w' v.ownBlock -> wpList Try.prog ops Q rest (a.put o.dst v') w') : wpList Try.prog ops Q (o :: rest) a w :=
 wpList_plain hgd fun K hK => by
  obtain ⟨ib, hib, hz0, hz1, hz2⟩ := info_parts infoBr
  obtain ⟨v', w', hrun, h2, h3, _⟩ := run_append_own (P := Try.prog) w base 37 o.type 41 ib _ 2 32 Try.underlying37 hib hz0 hz1 hz2 rfl (by decide) v l.length (flatBr l) hown ⟨b, 0, none⟩ 1 1 (flatBr [p]) rfl (br_news hnew) (flatBr_ones [p]) (by unfold maxLen; omega) (by omega) hbase
  unfold Oper.wp execOp
  simp only [ho, resolve, invoke, builtin, Sem.run_bind, Sem.run_pure, Result.andThen_ok, List.map_toArray, List.map_cons, List.map_nil, hs, hx, hrun]
  exact hK _ _ (h v' w' (by unfold OwnBr; rw [List.length_append, flatBr_append]; exact h2) h3)
theorem wpList_make_br {w : World} {ops : Array Oper} {rest : List Oper} {o : Oper} {a : Act} {Q : Exit -> Act -> World -> Prop} (hgd : o.guard = none) (l c : Operand) (hop : o.op = Op.makeSlice 37 l c)
 (C : Int) (n : Nat) (hl : a.eval l = .int .i64 0) (hc : a.eval c = .int .i64 C) (hC : C = (n : Int)) (hn : n <= 1073741824)
 (hK : ∀ w', OwnBr w' w.heap.size (.slice (some ⟨w.heap.size, 0, none⟩) 0 n) [] -> Below w.heap.size w w' -> wpList Try.prog ops Q rest (a.put o.dst (.slice (some ⟨w.heap.size, 0, none⟩) 0 n)) w') : wpList Try.prog ops Q (o :: rest) a w := by
 obtain ⟨ib, hib, hz0, hz1, hz2⟩ := info_parts infoBr
 exact wpList_make_own w hgd l c 37 hop w.heap.size 41 ib _ 2 Try.underlying37 hib hz0 hz1 .i64 .i64 C n hl hc hC (by rw [hz2]; omega) (by unfold maxLen; omega) (Nat.le_refl _)
  fun w' h1 h2 => hK w' h1 ⟨h2.os, h2.tape, h2.output, h2.size, fun k hk => h2.block k hk (by simp)⟩
theorem hdCmp_any (x y : HdE) (W : World) (hx : ItRow W x.A x.s) (hy : ItRow W y.A y.s) (h1 : x.s.length <= 1073741824) (h2 : y.s.length <= 1073741824) :
 Calls Try.prog 71 #[.agg (brC x), .agg (brC y)] W (AnsGd W (.int .i64 (stC x.s y.s))) := by
 have hb1 := GrwD.alloc W (.cells (brC x) 41)
 have hb2 := GrwD.alloc (W.alloc (.cells (brC x) 41)) (.cells (brC y) 41)
 have HB := Lib.hid (hb1.trans hb2)
 have HX := Lib.hid ((Blk.new W (brC x) 41).later hb2.below)
 have HY := Lib.hid (Blk.new (W.alloc (.cells (brC x) 41)) (brC y) 41)
 have HC := Lib.hid (icompareD x.s y.s x.A y.A x.cap y.cap _ (hx.later HB.out.below) (hy.later HB.out.below) h1 h2)
 rw [World.size_alloc] at HY
 clear hb1 hb2 hx hy
 go_enter Try.func71, Try.ntmps71
 go_upto_region 1 with (fail)
 unfold brC at HX HY HB HC ⊢
 generalize (W.alloc (.cells #[.slice x.A x.s.length x.cap, .int .i64 (x.many : Int)] 41)).alloc (.cells #[.slice y.A y.s.length y.cap, .int .i64 (y.many : Int)] 41) = w1 at *
 have c0 := HX.out.cell 0
 have d0 := HY.out.cell 0
 simp at c0 d0
 go_wp2_with fail
 refine HC.out.mono ?_
 rintro e w2 ⟨rfl, hg⟩
 have HG := Lib.hid (HB.out.trans hg)
 clear hg HC
 generalize stC x.s y.s = q at *
 go_wp2
 go_ret
 exact ⟨rfl, HG.out⟩
end Go.Proofs.Ytidoofdofdhjpaa
