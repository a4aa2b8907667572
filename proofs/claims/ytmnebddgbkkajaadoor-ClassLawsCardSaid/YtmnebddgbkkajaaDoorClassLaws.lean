/- The statement ClassLaws of layer 1, walked: whatever two sets and a byte, the call answers true. -/
import Derived.Test.YtmnebddgbkkajaaDoorClassWalks
import Derived.Test.YtmnebddgbkkajaaDoorClassAwake
namespace Go.Proofs.YtmnebddgbkkajaaDoor
open Go Go.RowKit
set_option linter.unusedVariables false

theorem has_c (s : BitVec 256) (c : Nat) (hc : c < 256) (x : Bool) (hx : s.getLsbD c = x) (w : World) :
    Calls Tryd.prog 14 #[.agg #[.int .u64 (wd s 0), .int .u64 (wd s 1), .int .u64 (wd s 2), .int .u64 (wd s 3)], .int .u8 (c : Int)] w (Ans w (.bool x)) := hx ▸ has_any s c hc w

/-- What the law's own memory holds while it runs. -/
structure Held (w0 : World) (b2 b3 : Nat) (s t j k : BitVec 256) (w : World) : Prop where
  below : Below w0.heap.size w0 w
  deb : Deb w
  b0 : Blk w w0.heap.size (cells4 s) 24
  b1 : Blk w (w0.heap.size + 1) (cells4 t) 24
  b2 : Blk w b2 (cells4 j) 24
  b3 : Blk w b3 (cells4 k) 24
theorem Held.later {w0 w w' : World} {b2 b3 : Nat} {s t j k : BitVec 256} (h : Held w0 b2 b3 s t j k w) (hb : Below w.heap.size w w') : Held w0 b2 b3 s t j k w' :=
  ⟨h.below.trans (hb.mono h.below.size), h.deb.below hb, h.b0.later hb, h.b1.later hb, h.b2.later hb, h.b3.later hb⟩
theorem Held.drew {w0 w : World} {b2 b3 : Nat} {s t j k : BitVec 256} (h : Held w0 b2 b3 s t j k w) : Held w0 b2 b3 s t j k w.drew := h.later (Below.refl _ _).drew

set_option maxRecDepth 100000 in
set_option maxHeartbeats 8000000 in
theorem laws_walk (s t : BitVec 256) (c : Nat) (hc : c < 256) (w : World) (hd : Deb w) 
   (x y : Bool) (hx : s.getLsbD c = x) (hy : t.getLsbD c = y) (z : Bool) (hz : (s == t) = z) :
    Calls Tryd.prog 4 #[cls s, cls t, .int .u8 (c : Int)] w (Ans w (.bool true)) := by
  have HD := Lib.hid hd
  have HX := Lib.hid hx
  have HY := Lib.hid hy
  have HZ := Lib.hid hz
  clear hx hy hd hz
  unfold cls
  go_enter Tryd.func4, Tryd.ntmps4
  go_wp2_with fail
  refine (awake_any _ ((HD.out.alloc _).alloc _)).mono ?_; rintro e w1 ⟨rfl, hb⟩
  have c0 := ((Blk.new w (cells4 s) 24).alloc (.cells (cells4 t) 24)).later hb
  have c1 := (Blk.new (w.alloc (.cells (cells4 s) 24)) (cells4 t) 24).later hb
  simp at c0 c1
  obtain ⟨f0, f1, f2, f3⟩ := c0.cells
  obtain ⟨g0, g1, g2, g3⟩ := c1.cells
  go_wp2_with fail
  refine (join_any s t _).mono ?_; rintro e w2 ⟨rfl, hb2⟩
  rw [show cls (s ||| t) = .agg #[.int .u64 (wd (s ||| t) 0), .int .u64 (wd (s ||| t) 1), .int .u64 (wd (s ||| t) 2), .int .u64 (wd (s ||| t) 3)] from rfl]
  have d0 := (c0.later hb2).alloc (.cells (cells4 (s ||| t)) 24)
  have d1 := (c1.later hb2).alloc (.cells (cells4 (s ||| t)) 24)
  have d2 := Blk.new w2 (cells4 (s ||| t)) 24
  have c0' := c0.later hb2
  have c1' := c1.later hb2
  have n0 := c0'.lt
  have n1 := c1'.lt
  obtain ⟨f0, f1, f2, f3⟩ := c0'.cells
  obtain ⟨g0, g1, g2, g3⟩ := c1'.cells
  go_wp2_with fail
  refine (both_any s t _).mono ?_; rintro e w3 ⟨rfl, hb3⟩
  rw [show cls (s &&& t) = .agg #[.int .u64 (wd (s &&& t) 0), .int .u64 (wd (s &&& t) 1), .int .u64 (wd (s &&& t) 2), .int .u64 (wd (s &&& t) 3)] from rfl]
  have hH : Held w w2.heap.size w3.heap.size s t (s ||| t) (s &&& t) (w3.alloc (.cells (cells4 (s &&& t)) 24)) := by
    have q1 : Below w.heap.size w w1 := (((Below.refl _ _).alloc (Nat.le_refl _) _).alloc (by simp) _).trans (hb.mono (by simp; omega))
    have q2 : Below w.heap.size w w2 := q1.trans (hb2.mono q1.size)
    have q3 : Below w.heap.size w w3 := (q2.alloc q2.size _).trans (hb3.mono (by have := q2.size; simp; omega))
    have r1 : Deb w1 := ((HD.out.alloc _).alloc _).below hb
    have r3 : Deb w3 := ((r1.below hb2).alloc _).below hb3
    exact ⟨q3.alloc q3.size _, r3.alloc _, (d0.later hb3).alloc _, (d1.later hb3).alloc _, (d2.later hb3).alloc _, Blk.new _ _ _⟩
  clear d0 d1 d2 c0 c1 c0' c1' hb hb2 hb3 n0 n1 f0 f1 f2 f3 g0 g1 g2 g3
  have hx := HX.out
  have hy := HY.out
  have hj : (s ||| t).getLsbD c = (x || y) := by rw [BitVec.getLsbD_or, hx, hy]
  have hk : (s &&& t).getLsbD c = (x && y) := by rw [BitVec.getLsbD_and, hx, hy]
  have hn : (~~~s).getLsbD c = !x := by rw [BitVec.getLsbD_not, hx]; simp [hc]
  have e1 : ~~~(s ||| t) = ~~~s &&& ~~~t := BitVec.not_or
  have e2 : ~~~(s &&& t) = ~~~s ||| ~~~t := BitVec.not_and
  have e3 : ~~~(~~~s) = s := BitVec.not_not
  have heq := eql_cls
  have hne := neq_cls
  have hg1 := eqGuard_eql
  have hg2 := eqGuard_neq
  have k1 := cntS_le s
  have k2 := cntS_le t
  have k3 := cntS_le (s ||| t)
  have k4 := cntS_le (s &&& t)
  have k5 := cntS_le (~~~s)
  have m1 := cntS_or_and s t
  have m2 := cntS_not s
  have m3 := cntS_eq_iff s t
  have c1 : ((cntS (s ||| t) : Int) + (cntS (s &&& t) : Int) == (cntS s : Int) + (cntS t : Int)) = true := by rw [beq_iff_eq]; omega
  have c2 : ((cntS s : Int) + (cntS (~~~s) : Int) == 256) = true := by rw [beq_iff_eq]; omega
  have c3 : ((cntS (s ||| t) : Int) == (cntS (s &&& t) : Int)) = (s == t) := by
    rw [Bool.eq_iff_iff, beq_iff_eq, beq_iff_eq, ← m3]; omega
  clear m1 m2 m3
  have w1' : IntKind.i64.wrap ((cntS (s ||| t) : Int) + (cntS (s &&& t) : Int)) = (cntS (s ||| t) : Int) + (cntS (s &&& t) : Int) := IntWalk.i64_in _ (by omega)
  have w2' : IntKind.i64.wrap ((cntS s : Int) + (cntS t : Int)) = (cntS s : Int) + (cntS t : Int) := IntWalk.i64_in _ (by omega)
  have w3' : IntKind.i64.wrap ((cntS s : Int) + (cntS (~~~s) : Int)) = (cntS s : Int) + (cntS (~~~s) : Int) := IntWalk.i64_in _ (by omega)
  have hst := HZ.out
  rw [hst] at c3
  clear f0 f1 f2 f3 g0 g1 g2 g3
  go_wp2_with fail
  revert hx hy hj hk hn hst c3
  clear HX HY HZ
  rcases x with _ | _ <;> rcases y with _ | _ <;> rcases z with _ | _
  all_goals
    intro hx hy hj hk hn hst c3
    dsimp only [Bool.or, Bool.and, Bool.not] at hj hk hn
    refine wp_region_stable (S := (Held w w2.heap.size w3.heap.size s t (s ||| t) (s &&& t))) (hSt := fun _ _ h hb => h.later hb) (plan := [[(7, none)], [(2, none)], [(17, some 0), (18, some 1)], [(3, none)], [(2, none)], [(20, some 3), (21, some 4)], [(22, some 5)], [(4, none)], [(2, none)], [(24, some 7), (25, some 8)], [(23, some 6), (26, some 9)], [(19, some 2), (27, some 10)], [(28, some 11)], [(8, none)], [(2, none)], [(30, some 13), (31, some 14)], [(3, none)], [(2, none)], [(33, some 16), (34, some 17)], [(35, some 18)], [(4, none)], [(2, none)], [(37, some 20), (38, some 21)], [(36, some 19), (39, some 22)], [(32, some 15), (40, some 23)], [(29, some 12), (41, some 24)], [(42, some 25)], [(3, none)], [(44, some 27)], [(2, none)], [(45, some 28), (46, some 29)], [(3, none)], [(2, none)], [(48, some 31), (49, some 32)], [(47, some 30), (50, some 33)], [(43, some 26), (51, some 34)]]) (by kernel_rfl) (by kernel_rfl) (by kernel_rfl) ?hS ?_
    rotate_left
    iterate 36 first
      | (refine chain_skip (by rfl) (by rfl) ?_)
      | (apply chain_want (by rfl)
         · intro a wx hS hr
           simp at hr
           have h0 := hS.b0.cells
           have h1 := hS.b1.cells
           have h2 := hS.b2.cells
           have h3 := hS.b3.cells
           go_simp
           first
             | exact Done.same (v := cls _)
             | (refine (has_any _ c hc _).mono ?_; rintro e w' ⟨rfl, hb⟩; (first | rw [hx] | rw [hy] | rw [hj] | rw [hk] | rw [hn]); exact Done.mk hb)
             | (refine (not_any _ _).mono ?_; rintro e w' ⟨rfl, hb⟩; (try first | rw [e1] | rw [e2] | rw [e3]); exact Done.mk hb)
             | (refine (both_any _ _ _).mono ?_; rintro e w' ⟨rfl, hb⟩; exact Done.mk hb)
             | (refine (join_any _ _ _).mono ?_; rintro e w' ⟨rfl, hb⟩; exact Done.mk hb)
             | (refine (count_any _ _).mono ?_; rintro e w' ⟨rfl, hb⟩; exact Done.mk hb)
             | exact Done.same
        )
    refine chain_nil (fun wz hz => ?_)
    simp [Act.put]
    case hS => exact hH
    go_wp2_with fail
    refine wp_region_stable (S := (Held w w2.heap.size w3.heap.size s t (s ||| t) (s &&& t))) (hSt := fun _ _ h hb => h.later hb) (plan := [[(7, none)], [(53, some 0)], [(3, none)], [(55, some 2)], [(4, none)], [(57, some 4)], [(56, some 3), (58, some 5)], [(54, some 1), (59, some 6)], [(60, some 7)], [(8, none)], [(62, some 9)], [(3, none)], [(64, some 11)], [(4, none)], [(66, some 13)], [(65, some 12), (67, some 14)], [(63, some 10), (68, some 15)], [(61, some 8), (69, some 16)], [(70, some 17)], [(3, none)], [(72, some 19)], [(73, some 20)], [(3, none)], [(74, some 21), (75, some 22)], [(71, some 18), (76, some 23)]]) (by kernel_rfl) (by kernel_rfl) (by kernel_rfl) ?hS ?_
    rotate_left
    iterate 25 first
      | (refine chain_skip (by rfl) (by rfl) ?_)
      | (apply chain_want (by rfl)
         · intro a wx hS hr
           simp at hr
           have h0 := hS.b0.cells
           have h1 := hS.b1.cells
           have h2 := hS.b2.cells
           have h3 := hS.b3.cells
           go_simp
           first
             | exact Done.same (v := cls _)
             | (refine (has_any _ c hc _).mono ?_; rintro e w' ⟨rfl, hb⟩; (first | rw [hx] | rw [hy] | rw [hj] | rw [hk] | rw [hn]); exact Done.mk hb)
             | (refine (not_any _ _).mono ?_; rintro e w' ⟨rfl, hb⟩; (try first | rw [e1] | rw [e2] | rw [e3]); exact Done.mk hb)
             | (refine (both_any _ _ _).mono ?_; rintro e w' ⟨rfl, hb⟩; exact Done.mk hb)
             | (refine (join_any _ _ _).mono ?_; rintro e w' ⟨rfl, hb⟩; exact Done.mk hb)
             | (refine (count_any _ _).mono ?_; rintro e w' ⟨rfl, hb⟩; exact Done.mk hb)
             | exact Done.same
        )
    refine chain_nil (fun wz hz => ?_)
    simp [Act.put]
    case hS => exact hz
    go_wp2_with fail
    refine wp_region_stable (S := (Held w w2.heap.size w3.heap.size s t (s ||| t) (s &&& t))) (hSt := fun _ _ h hb => h.later hb) (plan := [[(7, none)], [(78, some 0)], [(8, none)], [(80, some 2)], [(79, some 1), (81, some 3)], [(3, none)], [(83, some 5)], [(4, none)], [(85, some 7)], [(84, some 6), (86, some 8)], [(82, some 4), (87, some 9)], [(88, some 10)], [(3, none)], [(4, none)], [(90, some 12), (91, some 13)], [(7, none)], [(93, some 15)], [(8, none)], [(95, some 17)], [(94, some 16), (96, some 18)], [(92, some 14), (97, some 19)], [(89, some 11), (98, some 20)], [(99, some 21)], [(3, none)], [(101, some 23)], [(3, none)], [(103, some 25)], [(104, some 26)], [(102, some 24), (105, some 27)], [(106, some 28)], [(100, some 22), (107, some 29)], [(108, some 30)]]) (by kernel_rfl) (by kernel_rfl) (by kernel_rfl) ?hS ?_
    rotate_left
    iterate 32 first
      | (refine chain_skip (by rfl) (by rfl) ?_)
      | (apply chain_want (by rfl)
         · intro a wx hS hr
           simp at hr
           have h0 := hS.b0.cells
           have h1 := hS.b1.cells
           have h2 := hS.b2.cells
           have h3 := hS.b3.cells
           go_simp
           first
             | exact Done.same (v := cls _)
             | (refine (has_any _ c hc _).mono ?_; rintro e w' ⟨rfl, hb⟩; (first | rw [hx] | rw [hy] | rw [hj] | rw [hk] | rw [hn]); exact Done.mk hb)
             | (refine (not_any _ _).mono ?_; rintro e w' ⟨rfl, hb⟩; (try first | rw [e1] | rw [e2] | rw [e3]); exact Done.mk hb)
             | (refine (both_any _ _ _).mono ?_; rintro e w' ⟨rfl, hb⟩; exact Done.mk hb)
             | (refine (join_any _ _ _).mono ?_; rintro e w' ⟨rfl, hb⟩; exact Done.mk hb)
             | (refine (count_any _ _).mono ?_; rintro e w' ⟨rfl, hb⟩; exact Done.mk hb)
             | exact Done.same
        )
    refine chain_nil (fun wz hz => ?_)
    simp [Act.put]
    case hS => exact hz
    go_wp2
    go_ret
    exact ⟨rfl, hz.below⟩
end Go.Proofs.YtmnebddgbkkajaaDoor
