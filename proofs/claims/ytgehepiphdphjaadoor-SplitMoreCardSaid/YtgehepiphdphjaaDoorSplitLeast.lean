/- The least byte of a class as package split asks for it, and the order of two classes by it. -/
import Derived.Test.YtgehepiphdphjaaDoorClassWalks
import Derived.Test.YtgehepiphdphjaaDoorStable
import Derived.Deep.Cut
namespace Go.Proofs.YtgehepiphdphjaaDoor
open Go Go.RowKit
set_option linter.unusedVariables false

/-- The least byte, 0 of a class without bytes. -/
def lstB (s : BitVec 256) : Nat := ((List.range 256).find? fun i => s.getLsbD i).getD 0
theorem lstB_of {s : BitVec 256} {n : Nat} (h : IsLeast s n) : lstB s = n := by
  unfold lstB
  have : (List.range 256).find? (fun i => s.getLsbD i) = some n := by
    rw [List.find?_eq_some_iff_getElem]
    refine ⟨h.has, n, by simpa using h.lt, by simp, fun j hj => ?_⟩
    simpa using h.low j hj
  rw [this]; rfl
theorem lstB_zero : lstB 0#256 = 0 := by
  unfold lstB
  rw [List.find?_eq_none.2 (by simp)]; rfl
theorem lstB_lt (s : BitVec 256) : lstB s < 256 := by
  rcases least_or s with rfl | ⟨n, h⟩
  · rw [lstB_zero]; omega
  · rw [lstB_of h]; exact h.lt

set_option maxHeartbeats 1000000 in
theorem sleast_any (s : BitVec 256) (w : World) (hd : Deb w) : Calls Tryd.prog 42 #[cls s] w (Ans w (.int .u8 (lstB s : Int))) := by
  rcases least_or s with rfl | ⟨n, h⟩
  · rw [lstB_zero]
    have z : cls 0#256 = .agg #[.int .u64 0, .int .u64 0, .int .u64 0, .int .u64 0] := by unfold cls; rw [show wd 0#256 0 = 0 by decide, show wd 0#256 1 = 0 by decide, show wd 0#256 2 = 0 by decide, show wd 0#256 3 = 0 by decide]; rfl
    have hc := least_no (w.alloc (.cells #[.int .u64 0, .int .u64 0, .int .u64 0, .int .u64 0] 29))
    rw [z] at hc ⊢
    go_enter Tryd.func42, Tryd.ntmps42
    go_wp2_with fail
    refine hc.mono ?_; rintro e w1 ⟨rfl, hb⟩
    go_wp2
    go_ret
    exact ⟨rfl, ((Below.refl _ _).alloc (Nat.le_refl _) _).trans (hb.mono (by simp))⟩
  · rw [lstB_of h]
    have hl := h.lt
    have hc := least_any s n h (w.alloc (.cells (cells4 s) 29)) (hd.alloc _)
    have HC := Lib.hid hc
    clear hc hd h
    unfold cls at HC ⊢
    go_enter Tryd.func42, Tryd.ntmps42
    go_wp2_with fail
    refine HC.out.mono ?_; rintro e w1 ⟨rfl, hb⟩
    go_wp2
    go_ret
    exact ⟨rfl, ((Below.refl _ _).alloc (Nat.le_refl _) _).trans (hb.mono (by simp))⟩

set_option maxHeartbeats 1000000 in
theorem isnan_any (a : Nat) (w : World) : Calls Tryd.prog 83 #[.int .u8 (a : Int)] w (Pure w (.bool false)) := by
  go_enter Tryd.func83, Tryd.ntmps83
  go_wp2
  go_ret
  exact ⟨rfl, rfl⟩

/-- Below 0 just if the first one is less. -/
def sgn (a b : Nat) : Int := if a < b then -1 else if b < a then 1 else 0
theorem sgn_neg (a b : Nat) : sgn a b < 0 ↔ a < b := by
  unfold sgn
  by_cases h : a < b
  · simp [h]
  · rw [if_neg h]; by_cases h2 : b < a <;> simp [h, h2]
theorem sgn_in (a b : Nat) : -1 ≤ sgn a b ∧ sgn a b ≤ 1 := by
  unfold sgn
  by_cases h : a < b
  · rw [if_pos h]; omega
  · rw [if_neg h]; by_cases h2 : b < a
    · rw [if_pos h2]; omega
    · rw [if_neg h2]; omega

set_option maxHeartbeats 1000000 in
theorem compare_any (a b : Nat) (ha : a < 256) (hb : b < 256) (w : World) : Calls Tryd.prog 64 #[.int .u8 (a : Int), .int .u8 (b : Int)] w (Pure w (.int .i64 (sgn a b))) := by
  have HS : Hid (sgn a b = if a < b then -1 else if b < a then 1 else 0) := rfl
  generalize sgn a b = z at *
  rcases Nat.lt_trichotomy a b with h | h | h
  · have hz : z = -1 := by rw [HS.out, if_pos h]
    subst hz
    clear HS
    have hlt : (a : Int) < (b : Int) := by omega
    go_enter Tryd.func64, Tryd.ntmps64
    go_wp2_with fail
    refine (isnan_any a _).mono ?_; rintro e w1 ⟨rfl, rfl⟩
    go_wp2_with fail
    refine (isnan_any b _).mono ?_; rintro e w1 ⟨rfl, rfl⟩
    go_wp2
    go_ret
    exact ⟨rfl, rfl⟩
  · have hz : z = 0 := by rw [HS.out, if_neg (by omega), if_neg (by omega)]
    subst hz h
    clear HS
    go_enter Tryd.func64, Tryd.ntmps64
    go_wp2_with fail
    refine (isnan_any a _).mono ?_; rintro e w1 ⟨rfl, rfl⟩
    go_wp2_with fail
    refine (isnan_any a _).mono ?_; rintro e w1 ⟨rfl, rfl⟩
    go_wp2
    go_ret
    exact ⟨rfl, rfl⟩
  · have hz : z = 1 := by rw [HS.out, if_neg (by omega), if_pos (by omega)]
    subst hz
    clear HS
    have hlt : ¬ (a : Int) < (b : Int) := by omega
    have hlt2 : (b : Int) < (a : Int) := by omega
    go_enter Tryd.func64, Tryd.ntmps64
    go_wp2_with fail
    refine (isnan_any a _).mono ?_; rintro e w1 ⟨rfl, rfl⟩
    go_wp2_with fail
    refine (isnan_any b _).mono ?_; rintro e w1 ⟨rfl, rfl⟩
    go_wp2
    go_ret
    exact ⟨rfl, rfl⟩

structure TwoS (w0 : World) (x y : BitVec 256) (w : World) : Prop where
  below : Below w0.heap.size w0 w
  deb : Deb w
  blk0 : Blk w w0.heap.size (cells4 x) 29
  blk1 : Blk w (w0.heap.size + 1) (cells4 y) 29
theorem TwoS.later {w0 w w' : World} {x y : BitVec 256} (h : TwoS w0 x y w) (hb : Below w.heap.size w w') : TwoS w0 x y w' :=
  ⟨h.below.trans (hb.mono h.below.size), h.deb.below hb, h.blk0.later hb, h.blk1.later hb⟩

set_option maxRecDepth 100000 in
set_option maxHeartbeats 4000000 in
theorem byleast_any (x y : BitVec 256) (w : World) (hd : Deb w) : Calls Tryd.prog 63 #[cls x, cls y] w (Ans w (.int .i64 (sgn (lstB x) (lstB y)))) := by
  have hS : TwoS w x y ((w.alloc (.cells (cells4 x) 29)).alloc (.cells (cells4 y) 29)) :=
    ⟨((Below.refl _ _).alloc (Nat.le_refl _) _).alloc (by simp) _, (hd.alloc _).alloc _, (Blk.new _ _ _).alloc _, Blk.new' (by simp) _ _⟩
  have HS := Lib.hid hS
  clear hS hd
  have lx : ∀ w, Deb w → Calls Tryd.prog 42 #[cls x] w (Ans w (.int .u8 (lstB x : Int))) := fun w => sleast_any x w
  have ly : ∀ w, Deb w → Calls Tryd.prog 42 #[cls y] w (Ans w (.int .u8 (lstB y : Int))) := fun w => sleast_any y w
  have hc := compare_any (lstB x) (lstB y) (lstB_lt _) (lstB_lt _)
  generalize lstB x = a at *
  generalize lstB y = b at *
  generalize sgn a b = z at *
  unfold cls
  go_enter Tryd.func63, Tryd.ntmps63
  go_upto_region 1 with (fail)
  refine wp_region_stable (S := (TwoS w x y)) (hSt := fun _ _ h hb => h.later hb) (plan := [[(2, none)], [(5, some 0)], [(3, none)], [(7, some 2)], [(6, some 1), (8, some 3)], [(9, some 4)]]) (by kernel_rfl) (by kernel_rfl) (by kernel_rfl) ?hS ?_
  rotate_left
  iterate 6 first
    | (refine chain_skip (by rfl) (by rfl) ?_)
    | (apply chain_want (by rfl)
       · intro act wx hS hr
         simp at hr
         have h1 := hS.blk0.cells
         have h2 := hS.blk1.cells
         go_simp
         (try go_ints)
         first
           | exact Done.same (v := cls _)
           | ((with_reducible refine (lx _ hS.deb).mono ?_); rintro e w' ⟨rfl, hb⟩; exact Done.mk hb)
           | ((with_reducible refine (ly _ hS.deb).mono ?_); rintro e w' ⟨rfl, hb⟩; exact Done.mk hb)
           | ((with_reducible refine (hc _).mono ?_); rintro e w' ⟨rfl, rfl⟩; exact Done.same)
           | exact Done.same
      )
  show ∀ w', _ → _
  intro wz hz
  simp [Act.put]
  case hS => exact HS.out
  go_wp2
  go_ret
  exact ⟨rfl, hz.below⟩
end Go.Proofs.YtgehepiphdphjaaDoor
