/- The statement ClassDoes of layer 1, walked: each call answers what the document's own answers say. -/
import Derived.Test.YtmnebddgbkkajaaDoorRef01
import Derived.Test.YtmnebddgbkkajaaDoorClassAwake
import Derived.Deep.Cut
namespace Go.Proofs.YtmnebddgbkkajaaDoor
open Go Go.RowKit
set_option linter.unusedVariables false

theorem add_two (s : BitVec 256) (a b : Nat) (ha : a < 256) (hb : b < 256) : s ||| (rowB a a ||| rowB b b) = addL s [a, b] := by
  refine BitVec.eq_of_getLsbD_eq fun n hn => ?_
  rw [addL_bit _ _ _ hn, BitVec.getLsbD_or, BitVec.getLsbD_or, rowB_bit _ _ _ hn, rowB_bit _ _ _ hn, ← Bool.decide_or]
  congr 2
  rw [eq_iff_iff]; simp; omega

structure DoesS (w0 : World) (s t : BitVec 256) (w : World) : Prop where
  below : Below w0.heap.size w0 w
  deb : Deb w
  b0 : Blk w w0.heap.size (cells4 s) 24
  b1 : Blk w (w0.heap.size + 1) (cells4 t) 24
theorem DoesS.later {w0 w w' : World} {s t : BitVec 256} (h : DoesS w0 s t w) (hb : Below w.heap.size w w') : DoesS w0 s t w' :=
  ⟨h.below.trans (hb.mono h.below.size), h.deb.below hb, h.b0.later hb, h.b1.later hb⟩

set_option maxRecDepth 100000 in
set_option maxHeartbeats 8000000 in
theorem does_walk (s t : BitVec 256) (a b : Nat) (la : a < 256) (lb : b < 256) (w : World) (hd : Deb w) :
    Calls Tryd.prog 3 #[cls s, cls t, .int .u8 (a : Int), .int .u8 (b : Int)] w (Ans w (.bool true)) := by
  have HD := Lib.hid hd
  clear hd
  obtain ⟨m, x, hm⟩ : ∃ (m : Nat) (x : Bool), (x = true ∧ IsLeast s m) ∨ (x = false ∧ m = 0 ∧ s = 0#256) := by
    rcases least_or s with h | ⟨n, h⟩
    · exact ⟨0, false, .inr ⟨rfl, rfl, h⟩⟩
    · exact ⟨n, true, .inl ⟨rfl, h⟩⟩
  have hm2 : m < 256 := by rcases hm with ⟨_, h⟩ | ⟨_, h, _⟩; exact h.lt; omega
  have hleast : ∀ w, Deb w → Calls Tryd.prog 9 #[cls s] w (Ans w (.tuple #[.int .u8 (m : Int), .bool x])) := by
    intro w hw
    rcases hm with ⟨rfl, h⟩ | ⟨rfl, rfl, rfl⟩
    · exact least_any s m h w hw
    · exact least_no w
  have HLE := Lib.hid hleast
  have HM := Lib.hid hm
  have m0 : (0 : Int) ≤ (m : Int) := by omega
  have m1 : (m : Int) ≤ 255 := by omega
  clear hleast hm
  unfold cls
  go_enter Tryd.func3, Tryd.ntmps3
  go_wp2_with fail
  refine (awake_any _ ((HD.out.alloc _).alloc _)).mono ?_; rintro e w1 ⟨rfl, hb⟩
  have h1 : DoesS w s t w1 := by
    refine ⟨(((Below.refl _ _).alloc (Nat.le_refl _) _).alloc (by simp) _).trans (hb.mono (by simp; omega)), ((HD.out.alloc _).alloc _).below hb, ((Blk.new w (cells4 s) 24).alloc (.cells (cells4 t) 24)).later hb, (Blk.new' (by simp) _ _).later hb⟩
  have g := h1.b0.cells
  go_wp2_with fail
  refine (HLE.out _ h1.deb).mono ?_; rintro e w2 ⟨rfl, hb2⟩
  have h2 := h1.later hb2
  clear g
  have g := h2.b0.cells
  go_wp2_with fail
  refine (refleast_any s m x HM.out _).mono ?_; rintro e w3 ⟨rfl, hb3⟩
  have h3 := h2.later hb3
  clear g
  have g := h3.b0.cells
  go_wp2_with fail
  refine (list_row s _).mono ?_; rintro e w4 ⟨gg, cap, rfl, hg, hrow, hb4⟩
  have H4 := Lib.hid (h3.later hb4)
  have HROW := Lib.hid hrow
  clear g h1 h2 h3 hb hb2 hb3 hb4 hrow
  go_wp2_with fail
  go_loop [13, 15] (fun n i => ∃ k : Nat, k ≤ 256 ∧ i = .int .i64 k ∧ n = .int .i64 (cnt (fun i => s.getLsbD i) k)) (fun _ i => 256 - (intOf i).toNat)
  case atStart => exact ⟨0, by omega, rfl, rfl⟩
  case round =>
    obtain ⟨k, hk, rfl, rfl⟩ := hrel
    have hcn : cnt (fun i => s.getLsbD i) k ≤ 256 := Nat.le_trans (cnt_le _ _) hk
    by_cases hlt : k < 256
    · have HCN : Hid (cnt (fun i => s.getLsbD i) (k + 1) = cnt (fun i => s.getLsbD i) k + if s.getLsbD k then 1 else 0) := rfl
      have hc := HROW.out.cell k hlt
      generalize cnt (fun i => s.getLsbD i) k = n0 at *
      have k0 : (0 : Int) ≤ (k : Int) := by omega
      have k1 : (k : Int) < 256 := by omega
      generalize s.getLsbD k = y at *
      cases y
      · go_wp2
        go_round
        case rel => exact ⟨k + 1, by omega, by go_num, by rw [HCN.out]; rfl⟩
        case measure => simp [intOf]; omega
      · go_wp2
        go_round
        case rel => exact ⟨k + 1, by omega, by go_num, by rw [HCN.out]; rfl⟩
        case measure => simp [intOf]; omega
    · have hke : k = 256 := by omega
      have HKE : Hid (cntS s = cnt (fun i => s.getLsbD i) k) := by unfold Hid; rw [hke]; rfl
      generalize cnt (fun i => s.getLsbD i) k = n0 at *
      have hkn : ¬ (k : Int) < 256 := by omega
      clear hke
      have cnts : ∀ w, Calls Tryd.prog 23 #[cls s] w (Ans w (.int .i64 (n0 : Int))) := fun w => by have := count_any s w; rw [HKE.out] at this; exact this
      have heq := eql_cls
      have hg1 := eqGuard_eql
      have ofab : ∀ w, Calls Tryd.prog 12 #[.int .u8 (a : Int), .int .u8 (b : Int)] w (Ans w (cls (rowB a b))) := fun w => of_any a b la lb w
      have rowab : ∀ w, Calls Tryd.prog 13 #[.int .u8 (a : Int), .int .u8 (b : Int)] w (Ans w (cls (rowB a b))) := fun w => refrow_any a b la lb w
      have rowaa : ∀ w, Calls Tryd.prog 13 #[.int .u8 (a : Int), .int .u8 (a : Int)] w (Ans w (cls (rowB a a))) := fun w => refrow_any a a la la w
      have rowbb : ∀ w, Calls Tryd.prog 13 #[.int .u8 (b : Int), .int .u8 (b : Int)] w (Ans w (cls (rowB b b))) := fun w => refrow_any b b lb lb w
      have HASA := Lib.hid (fun w => has_any s a la w)
      have RHASA := Lib.hid (fun w => refhas_any s a la w)
      have jn2 : ∀ w, Calls Tryd.prog 17 #[cls s, cls (rowB a a ||| rowB b b)] w (Ans w (cls (addL s [a, b]))) := fun w => by have := refjoin_any s (rowB a a ||| rowB b b) w; rw [add_two s a b la lb] at this; exact this
      have HNR : ∀ w : World, NewRow [a, b] (.slice (some ⟨w.heap.size, 0, none⟩) 2 2) (w.alloc (.cells #[.int .u8 (a : Int), .int .u8 (b : Int)] 5)) := fun w => NewRow.new w [a, b] (by simp [la, lb]) (by simp)
      generalize hya : s.getLsbD a = ya at *
      clear hya
      have hasa := HASA.out
      have rhasa := RHASA.out
      clear HASA RHASA
      go_upto_region 12 with (fail)
      refine wp_region_stable (S := (DoesS w s t)) (hSt := fun _ _ h hb => h.later hb) (plan := [[(2, none)], [(3, none)], [(40, some 0), (41, some 1)], [(2, none)], [(3, none)], [(43, some 3), (44, some 4)], [(42, some 2), (45, some 5)], [(46, some 6)], [(4, none)], [(2, none)], [(48, some 8), (49, some 9)], [(4, none)], [(2, none)], [(51, some 11), (52, some 12)], [(50, some 10), (53, some 13)], [(47, some 7), (54, some 14)], [(55, some 15)], [(4, none)], [(2, none)], [(3, none)], [(58, some 18), (59, some 19)], [(57, some 17), (60, some 20)], [(4, none)], [(2, none)], [(2, none)], [(63, some 23), (64, some 24)], [(3, none)], [(3, none)], [(66, some 26), (67, some 27)], [(65, some 25), (68, some 28)], [(62, some 22), (69, some 29)], [(61, some 21), (70, some 30)], [(56, some 16), (71, some 31)], [(72, some 32)], [(4, none)], [(5, none)], [(74, some 34), (75, some 35)], [(4, none)], [(5, none)], [(77, some 37), (78, some 38)], [(76, some 36), (79, some 39)], [(73, some 33), (80, some 40)], [(81, some 41)], [(4, none)], [(5, none)], [(83, some 43), (84, some 44)], [(4, none)], [(5, none)], [(86, some 46), (87, some 47)], [(85, some 45), (88, some 48)], [(82, some 42), (89, some 49)], [(90, some 50)], [(4, none)], [(92, some 52)], [(4, none)], [(94, some 54)], [(93, some 53), (95, some 55)], [(91, some 51), (96, some 56)], [(97, some 57)], [(9, none)], [(11, none)], [(99, some 59), (100, some 60)], [(98, some 58), (101, some 61)], [(102, some 62)], [(10, none)], [(12, none)], [(104, some 64), (105, some 65)], [(103, some 63), (106, some 66)], [(107, some 67)], [(4, none)], [(109, some 69)], [(13, none)], [(110, some 70), (111, some 71)], [(108, some 68), (112, some 72)], [(113, some 73)]]) (by kernel_rfl) (by kernel_rfl) (by kernel_rfl) ?hS ?_
      rotate_left
      iterate 20 first
        | (refine chain_skip (by rfl) (by rfl) ?_)
        | (apply chain_want (by rfl)
           · intro act wx hS hr
             simp at hr
             have h1 := hS.b0.cells
             have h2 := hS.b1.cells
             go_simp
             (try go_ints)
             first
               | exact Done.same (v := cls _)
               | ((with_reducible refine (ofab _).mono ?_); rintro e w' ⟨rfl, hb⟩; exact Done.mk hb)
               | ((with_reducible refine (rowab _).mono ?_); rintro e w' ⟨rfl, hb⟩; exact Done.mk hb)
               | ((with_reducible refine (rowaa _).mono ?_); rintro e w' ⟨rfl, hb⟩; exact Done.mk hb)
               | ((with_reducible refine (rowbb _).mono ?_); rintro e w' ⟨rfl, hb⟩; exact Done.mk hb)
               | ((with_reducible refine (hasa _).mono ?_); rintro e w' ⟨rfl, hb⟩; exact Done.mk hb)
               | ((with_reducible refine (rhasa _).mono ?_); rintro e w' ⟨rfl, hb⟩; exact Done.mk hb)
               | ((with_reducible refine (jn2 _).mono ?_); rintro e w' ⟨rfl, hb⟩; exact Done.mk hb)
               | ((with_reducible refine (join_any _ _ _).mono ?_); rintro e w' ⟨rfl, hb⟩; exact Done.mk hb)
               | ((with_reducible refine (refjoin_any _ _ _).mono ?_); rintro e w' ⟨rfl, hb⟩; exact Done.mk hb)
               | ((with_reducible refine (both_any _ _ _).mono ?_); rintro e w' ⟨rfl, hb⟩; exact Done.mk hb)
               | ((with_reducible refine (refboth_any _ _ _).mono ?_); rintro e w' ⟨rfl, hb⟩; exact Done.mk hb)
               | ((with_reducible refine (not_any _ _).mono ?_); rintro e w' ⟨rfl, hb⟩; exact Done.mk hb)
               | ((with_reducible refine (refnot_any _ _).mono ?_); rintro e w' ⟨rfl, hb⟩; exact Done.mk hb)
               | ((with_reducible refine (cnts _).mono ?_); rintro e w' ⟨rfl, hb⟩; exact Done.mk hb)
               | (obtain ⟨hr1, v, hr2, b, rfl, hrow⟩ := hr; simp only [hr2]; refine (add_any s [_, _] _ _ _ hrow).mono ?_; rintro e w' ⟨rfl, hb⟩; exact Done.mk hb)
               | exact Done.same
          )
      (refine chain_rel (NewRow [a, b]) (NewRow.later [a, b]) (by rfl) ?_ ?_
       · intro act wx hS hr
         simp at hr
         have h1 := hS.b0.cells
         have h2 := hS.b1.cells
         go_simp
         exact Done.rel ((Below.refl _ _).alloc (Nat.le_refl _) _) (HNR _)
      )
      iterate 54 first
        | (refine chain_skip (by rfl) (by rfl) ?_)
        | (apply chain_want (by rfl)
           · intro act wx hS hr
             simp at hr
             have h1 := hS.b0.cells
             have h2 := hS.b1.cells
             go_simp
             (try go_ints)
             first
               | exact Done.same (v := cls _)
               | ((with_reducible refine (ofab _).mono ?_); rintro e w' ⟨rfl, hb⟩; exact Done.mk hb)
               | ((with_reducible refine (rowab _).mono ?_); rintro e w' ⟨rfl, hb⟩; exact Done.mk hb)
               | ((with_reducible refine (rowaa _).mono ?_); rintro e w' ⟨rfl, hb⟩; exact Done.mk hb)
               | ((with_reducible refine (rowbb _).mono ?_); rintro e w' ⟨rfl, hb⟩; exact Done.mk hb)
               | ((with_reducible refine (hasa _).mono ?_); rintro e w' ⟨rfl, hb⟩; exact Done.mk hb)
               | ((with_reducible refine (rhasa _).mono ?_); rintro e w' ⟨rfl, hb⟩; exact Done.mk hb)
               | ((with_reducible refine (jn2 _).mono ?_); rintro e w' ⟨rfl, hb⟩; exact Done.mk hb)
               | ((with_reducible refine (join_any _ _ _).mono ?_); rintro e w' ⟨rfl, hb⟩; exact Done.mk hb)
               | ((with_reducible refine (refjoin_any _ _ _).mono ?_); rintro e w' ⟨rfl, hb⟩; exact Done.mk hb)
               | ((with_reducible refine (both_any _ _ _).mono ?_); rintro e w' ⟨rfl, hb⟩; exact Done.mk hb)
               | ((with_reducible refine (refboth_any _ _ _).mono ?_); rintro e w' ⟨rfl, hb⟩; exact Done.mk hb)
               | ((with_reducible refine (not_any _ _).mono ?_); rintro e w' ⟨rfl, hb⟩; exact Done.mk hb)
               | ((with_reducible refine (refnot_any _ _).mono ?_); rintro e w' ⟨rfl, hb⟩; exact Done.mk hb)
               | ((with_reducible refine (cnts _).mono ?_); rintro e w' ⟨rfl, hb⟩; exact Done.mk hb)
               | (obtain ⟨hr1, v, hr2, b, rfl, hrow⟩ := hr; simp only [hr2]; refine (add_any s [_, _] _ _ _ hrow).mono ?_; rintro e w' ⟨rfl, hb⟩; exact Done.mk hb)
               | exact Done.same
          )
      show ∀ w', _ → _
      intro wz hz
      simp [Act.put]
      case hS => exact H4.out
      intro v hv
      go_wp2
      go_ret
      exact ⟨rfl, hz.below⟩
end Go.Proofs.YtmnebddgbkkajaaDoor
