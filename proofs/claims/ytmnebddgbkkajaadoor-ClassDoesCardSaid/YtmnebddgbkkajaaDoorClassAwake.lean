/- The call 'awake' of the statements of layer 1 answers true. -/
import Derived.Test.YtmnebddgbkkajaaDoorClassWalks
import Derived.Test.YtmnebddgbkkajaaDoorStable
import Derived.Deep.Cut
namespace Go.Proofs.YtmnebddgbkkajaaDoor
open Go Go.RowKit
set_option linter.unusedVariables false

structure AwakeS (w0 : World) (b : Nat) (w : World) : Prop where
  below : Below w0.heap.size w0 w
  deb : Deb w
  blk : Blk w b (cells4 (rowB 97 99)) 24
theorem AwakeS.later {w0 w w' : World} {b : Nat} (h : AwakeS w0 b w) (hb : Below w.heap.size w w') : AwakeS w0 b w' :=
  ⟨h.below.trans (hb.mono h.below.size), h.deb.below hb, h.blk.later hb⟩

theorem least97 : IsLeast (rowB 97 99) 97 := ⟨by decide, by rw [rowB_bit _ _ _ (by decide)]; decide, fun j hj => by rw [rowB_bit _ _ _ (by omega)]; simp; omega⟩

theorem lit0 : Value.agg #[.int .u64 0, .int .u64 0, .int .u64 0, .int .u64 0] = cls 0#256 := by
  unfold cls
  rw [show wd 0#256 0 = 0 by decide, show wd 0#256 1 = 0 by decide, show wd 0#256 2 = 0 by decide, show wd 0#256 3 = 0 by decide]; rfl
theorem lit1 : Value.agg #[.int .u64 1, .int .u64 0, .int .u64 0, .int .u64 9223372036854775808] = cls (addL 0#256 [0, 255]) := by
  unfold cls
  rw [show wd (addL 0#256 [0, 255]) 0 = 1 by decide +kernel, show wd (addL 0#256 [0, 255]) 1 = 0 by decide +kernel, show wd (addL 0#256 [0, 255]) 2 = 0 by decide +kernel, show wd (addL 0#256 [0, 255]) 3 = 9223372036854775808 by decide +kernel]; rfl
theorem lit22 : Value.agg #[.int .u64 22, .int .u64 0, .int .u64 0, .int .u64 0] = cls (rowB 1 2 ||| rowB 4 4) := by
  unfold cls
  rw [show wd (rowB 1 2 ||| rowB 4 4) 0 = 22 by decide +kernel, show wd (rowB 1 2 ||| rowB 4 4) 1 = 0 by decide +kernel, show wd (rowB 1 2 ||| rowB 4 4) 2 = 0 by decide +kernel, show wd (rowB 1 2 ||| rowB 4 4) 3 = 0 by decide +kernel]; rfl
theorem lit24 : Value.agg #[.int .u64 24, .int .u64 0, .int .u64 0, .int .u64 0] = cls (rowB 1 4 &&& rowB 3 9) := by
  unfold cls
  rw [show wd (rowB 1 4 &&& rowB 3 9) 0 = 24 by decide +kernel, show wd (rowB 1 4 &&& rowB 3 9) 1 = 0 by decide +kernel, show wd (rowB 1 4 &&& rowB 3 9) 2 = 0 by decide +kernel, show wd (rowB 1 4 &&& rowB 3 9) 3 = 0 by decide +kernel]; rfl
theorem cnt97 : cntS (rowB 97 99) = 3 := by decide +kernel
theorem cnt97n : cntS (~~~rowB 97 99) = 253 := by decide +kernel
theorem row21 : rowB 2 1 = 0#256 := by decide +kernel

/-- A slice of these bytes, just laid. -/
def Two (v : Value) (w : World) : Prop := ∃ b, v = .slice (some ⟨b, 0, none⟩) 2 2 ∧ Row8 w (some ⟨b, 0, none⟩) [0, 255]
theorem Row8.later {w w' : World} {a : Option Addr} {l : List Nat} (h : Row8 w a l) (hb : Below w.heap.size w w') : Row8 w' a l :=
  ⟨h.1, h.2.1, fun i hi => by
    obtain ⟨b, off, ha, hlt, hc⟩ := h.2.2 i hi
    exact ⟨b, off, ha, Nat.lt_of_lt_of_le hlt hb.size, (hb.cell (p := ⟨b, off + i, none⟩) hlt).trans hc⟩⟩
theorem Two.later (v : Value) (w w' : World) (h : Two v w) (hb : Below w.heap.size w w') : Two v w' := by
  obtain ⟨b, hv, hr⟩ := h
  exact ⟨b, hv, hr.later hb⟩
theorem Two.new (w : World) : Two (.slice (some ⟨w.heap.size, 0, none⟩) 2 2) (w.alloc (.cells #[.int .u8 0, .int .u8 255] 5)) := by
  refine ⟨_, rfl, by simp, by simp, fun i hi => ⟨_, 0, rfl, by simp, ?_⟩⟩
  rw [(Blk.new w #[.int .u8 0, .int .u8 255] 5).cell]
  have : i = 0 ∨ i = 1 := by simp at hi; omega
  rcases this with rfl | rfl <;> rfl

set_option maxRecDepth 100000 in
set_option maxHeartbeats 4000000 in
theorem awake_any (w : World) (hd : Deb w) : Calls Tryd.prog 8 #[] w (Ans w (.bool true)) := by
  have HD := Lib.hid hd
  clear hd
  have h98 : (rowB 97 99).getLsbD 98 = true := by rw [rowB_bit _ _ _ (by decide)]; decide
  have h100 : (rowB 97 99).getLsbD 100 = false := by rw [rowB_bit _ _ _ (by decide)]; decide
  have heq := eql_cls
  have hg1 := eqGuard_eql
  have has98 : ∀ w, Calls Tryd.prog 14 #[cls (rowB 97 99), .int .u8 98] w (Ans w (.bool true)) := fun w => by have := has_any (rowB 97 99) 98 (by decide) w; rw [h98] at this; exact this
  have has100 : ∀ w, Calls Tryd.prog 14 #[cls (rowB 97 99), .int .u8 100] w (Ans w (.bool false)) := fun w => by have := has_any (rowB 97 99) 100 (by decide) w; rw [h100] at this; exact this
  have cnt3 : ∀ w, Calls Tryd.prog 23 #[cls (rowB 97 99)] w (Ans w (.int .i64 3)) := fun w => by have := count_any (rowB 97 99) w; rw [cnt97] at this; exact this
  have cnt253 : ∀ w, Calls Tryd.prog 23 #[cls (~~~rowB 97 99)] w (Ans w (.int .i64 253)) := fun w => by have := count_any (~~~rowB 97 99) w; rw [cnt97n] at this; exact this
  have of21 : ∀ w, Calls Tryd.prog 12 #[.int .u8 2, .int .u8 1] w (Ans w (cls 0#256)) := fun w => by have := of_any 2 1 (by decide) (by decide) w; rw [row21] at this; exact this
  have of12 : ∀ w, Calls Tryd.prog 12 #[.int .u8 1, .int .u8 2] w (Ans w (cls (rowB 1 2))) := fun w => by have := of_any 1 2 (by decide) (by decide) w; exact this
  have of44 : ∀ w, Calls Tryd.prog 12 #[.int .u8 4, .int .u8 4] w (Ans w (cls (rowB 4 4))) := fun w => by have := of_any 4 4 (by decide) (by decide) w; exact this
  have of14 : ∀ w, Calls Tryd.prog 12 #[.int .u8 1, .int .u8 4] w (Ans w (cls (rowB 1 4))) := fun w => by have := of_any 1 4 (by decide) (by decide) w; exact this
  have of39 : ∀ w, Calls Tryd.prog 12 #[.int .u8 3, .int .u8 9] w (Ans w (cls (rowB 3 9))) := fun w => by have := of_any 3 9 (by decide) (by decide) w; exact this
  go_enter Tryd.func8, Tryd.ntmps8
  go_wp2_with fail
  refine (of_any 97 99 (by decide) (by decide) w).mono ?_; rintro e w1 ⟨rfl, hb⟩
  have q1 := hb.alloc hb.size (.cells (cells4 (rowB 97 99)) 24)
  have b1 := Blk.new w1 (cells4 (rowB 97 99)) 24
  have r1 := (HD.out.below hb).alloc (.cells (cells4 (rowB 97 99)) 24)
  unfold cls
  go_wp2_with fail
  refine (least_any _ 97 least97 _ r1).mono ?_; rintro e w2 ⟨rfl, hb2⟩
  have q2 := q1.trans (hb2.mono q1.size)
  have b2 := b1.later hb2
  have r2 := r1.below hb2
  go_wp2_with fail
  rw [lit0]
  refine (least_no _).mono ?_; rintro e w3 ⟨rfl, hb3⟩
  have hS : AwakeS w w1.heap.size w3 := ⟨q2.trans (hb3.mono q2.size), r2.below hb3, b2.later hb3⟩
  go_upto_region 4 with (fail)
  refine wp_region_stable (S := (AwakeS w w1.heap.size)) (hSt := fun _ _ h hb => h.later hb) (plan := [[(1, none)], [(17, some 0)], [(18, some 1)], [(19, some 2)], [(1, none)], [(21, some 4)], [(20, some 3), (22, some 5)], [(23, some 6)], [(1, none)], [(25, some 8)], [(26, some 9)], [(24, some 7), (27, some 10)], [(28, some 11)], [(2, none)], [(30, some 13)], [(29, some 12), (31, some 14)], [(32, some 15)], [(3, none)], [(33, some 16), (34, some 17)], [(35, some 18)], [(5, none)], [(37, some 20)], [(36, some 19), (38, some 21)], [(39, some 22)], [(1, none)], [(41, some 24)], [(42, some 25)], [(43, some 26)], [(40, some 23), (44, some 27)], [(45, some 28)], [], [], [(47, some 30), (48, some 31)], [(46, some 29), (49, some 32)], [(50, some 33)], [], [], [(52, some 35), (53, some 36)], [], [(54, some 37), (55, some 38)], [(51, some 34), (56, some 39)], [(57, some 40)], [], [], [(59, some 42), (60, some 43)], [], [(61, some 44), (62, some 45)], [(58, some 41), (63, some 46)], [(64, some 47)], [], [], [(66, some 49), (67, some 50)], [], [(68, some 51), (69, some 52)], [(65, some 48), (70, some 53)], [(71, some 54)]]) (by kernel_rfl) (by kernel_rfl) (by kernel_rfl) ?hS ?_
  rotate_left
  iterate 36 first
    | (refine chain_skip (by rfl) (by rfl) ?_)
    | (apply chain_want (by rfl)
       · intro act wx hS hr
         simp at hr
         have h1 := hS.blk.cells
         go_simp
         (try go_ints)
         first
           | exact Done.same (v := cls _)
           | (rw [lit0]; exact Done.same)
           | (rw [lit1]; exact Done.same)
           | (rw [lit22]; exact Done.same)
           | (rw [lit24]; exact Done.same)
           | ((with_reducible refine (has98 _).mono ?_); rintro e w' ⟨rfl, hb⟩; exact Done.mk hb)
           | ((with_reducible refine (has100 _).mono ?_); rintro e w' ⟨rfl, hb⟩; exact Done.mk hb)
           | ((with_reducible refine (cnt3 _).mono ?_); rintro e w' ⟨rfl, hb⟩; exact Done.mk hb)
           | ((with_reducible refine (cnt253 _).mono ?_); rintro e w' ⟨rfl, hb⟩; exact Done.mk hb)
           | ((with_reducible refine (not_any _ _).mono ?_); rintro e w' ⟨rfl, hb⟩; exact Done.mk hb)
           | ((with_reducible refine (of21 _).mono ?_); rintro e w' ⟨rfl, hb⟩; exact Done.mk hb)
           | ((with_reducible refine (of12 _).mono ?_); rintro e w' ⟨rfl, hb⟩; exact Done.mk hb)
           | ((with_reducible refine (of44 _).mono ?_); rintro e w' ⟨rfl, hb⟩; exact Done.mk hb)
           | ((with_reducible refine (of14 _).mono ?_); rintro e w' ⟨rfl, hb⟩; exact Done.mk hb)
           | ((with_reducible refine (of39 _).mono ?_); rintro e w' ⟨rfl, hb⟩; exact Done.mk hb)
           | ((with_reducible refine (join_any _ _ _).mono ?_); rintro e w' ⟨rfl, hb⟩; exact Done.mk hb)
           | ((with_reducible refine (both_any _ _ _).mono ?_); rintro e w' ⟨rfl, hb⟩; exact Done.mk hb)
           | (obtain ⟨hr1, v, hr2, b, rfl, hrow⟩ := hr; simp only [hr2]; refine (add_any 0#256 [0, 255] _ _ _ hrow).mono ?_; rintro e w' ⟨rfl, hb⟩; exact Done.mk hb)
           | exact Done.same
      )
  (refine chain_rel (Two) (Two.later) (by rfl) ?_ ?_
   · intro act wx hS hr
     simp at hr
     have h1 := hS.blk.cells
     go_simp
     exact Done.rel ((Below.refl _ _).alloc (Nat.le_refl _) _) (Two.new _)
  )
  iterate 19 first
    | (refine chain_skip (by rfl) (by rfl) ?_)
    | (apply chain_want (by rfl)
       · intro act wx hS hr
         simp at hr
         have h1 := hS.blk.cells
         go_simp
         (try go_ints)
         first
           | exact Done.same (v := cls _)
           | (rw [lit0]; exact Done.same)
           | (rw [lit1]; exact Done.same)
           | (rw [lit22]; exact Done.same)
           | (rw [lit24]; exact Done.same)
           | ((with_reducible refine (has98 _).mono ?_); rintro e w' ⟨rfl, hb⟩; exact Done.mk hb)
           | ((with_reducible refine (has100 _).mono ?_); rintro e w' ⟨rfl, hb⟩; exact Done.mk hb)
           | ((with_reducible refine (cnt3 _).mono ?_); rintro e w' ⟨rfl, hb⟩; exact Done.mk hb)
           | ((with_reducible refine (cnt253 _).mono ?_); rintro e w' ⟨rfl, hb⟩; exact Done.mk hb)
           | ((with_reducible refine (not_any _ _).mono ?_); rintro e w' ⟨rfl, hb⟩; exact Done.mk hb)
           | ((with_reducible refine (of21 _).mono ?_); rintro e w' ⟨rfl, hb⟩; exact Done.mk hb)
           | ((with_reducible refine (of12 _).mono ?_); rintro e w' ⟨rfl, hb⟩; exact Done.mk hb)
           | ((with_reducible refine (of44 _).mono ?_); rintro e w' ⟨rfl, hb⟩; exact Done.mk hb)
           | ((with_reducible refine (of14 _).mono ?_); rintro e w' ⟨rfl, hb⟩; exact Done.mk hb)
           | ((with_reducible refine (of39 _).mono ?_); rintro e w' ⟨rfl, hb⟩; exact Done.mk hb)
           | ((with_reducible refine (join_any _ _ _).mono ?_); rintro e w' ⟨rfl, hb⟩; exact Done.mk hb)
           | ((with_reducible refine (both_any _ _ _).mono ?_); rintro e w' ⟨rfl, hb⟩; exact Done.mk hb)
           | (obtain ⟨hr1, v, hr2, b, rfl, hrow⟩ := hr; simp only [hr2]; refine (add_any 0#256 [0, 255] _ _ _ hrow).mono ?_; rintro e w' ⟨rfl, hb⟩; exact Done.mk hb)
           | exact Done.same
      )
  show ∀ w', _ → _
  intro wz hz
  simp [Act.put]
  case hS => exact hS
  intro v hv
  go_wp2
  go_ret
  exact ⟨rfl, hz.below⟩
end Go.Proofs.YtmnebddgbkkajaaDoor
