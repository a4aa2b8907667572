/- insertionSortCmpFunc and symMergeCmpFunc over a row of classes, in the order by least bytes. -/
import Derived.Test.YtgehepiphdphjaaDoorSort
import Derived.Test.YtgehepiphdphjaaDoorSplitLeast
namespace Go.Proofs.YtgehepiphdphjaaDoor
open Go Go.RowKit
set_option linter.unusedVariables false

/-- A world on the way of a sort of block b. -/
structure SortS (w0 : World) (b n : Nat) (f : Nat → BitVec 256) (w : World) : Prop where
  row : CRow w b n f
  deb : Deb w
  but : But b w0 w
theorem SortS.later {w0 w w' : World} {b n : Nat} {f : Nat → BitVec 256} (h : SortS w0 b n f w) (hb : Below w.heap.size w w') : SortS w0 b n f w' :=
  ⟨h.row.later hb, h.deb.below hb, h.but.trans (But.of_below hb)⟩
theorem Deb.but {w w' : World} {b : Nat} (h : Deb w) (hb : But b w w') (hn : 2 ≠ b) : Deb w' := by
  refine ⟨Nat.lt_of_lt_of_le h.1 hb.size, fun i hi => ?_⟩
  have := World.cell?_of_block (w := w) (w' := w') (a := ⟨2, i, none⟩) (hb.block 2 h.1 hn)
  rw [this]; exact h.2 i hi
theorem SortS.on {w0 w w' : World} {b n : Nat} {f f' : Nat → BitVec 256} (h : SortS w0 b n f w) (hr : CRow w' b n f') (hb : But b w w') (hn : 2 ≠ b) : SortS w0 b n f' w' :=
  ⟨hr, h.deb.but hb hn, h.but.trans hb⟩

/-- Behind a sort from a to e: the same, moved between a and e, in order there. -/
def Sorted (key : Nat → Nat) (L : Nat → BitVec 256) (d : Nat → Nat) (a e b n : Nat) (w : World) (x : Ending) (w' : World) : Prop :=
  x = .returned (.tuple #[]) ∧ ∃ d', Mv a e d d' ∧ Sd key a e d' ∧ SortS w b n (fun i => L (d' i)) w'

set_option maxRecDepth 100000 in
set_option maxHeartbeats 8000000 in
theorem insertion_any (L : Nat → BitVec 256) (d : Nat → Nat) (a e b n cap : Nat) (w : World) (h : CRow w b n (fun i => L (d i))) (hd : Deb w) (hnb : 2 ≠ b) (hae : a ≤ e) (he : e ≤ n) (hn : n < 1152921504606846976)
    (hp : ∀ i j, a ≤ i → i < j → j < e → lstB (L (d i)) ≤ lstB (L (d j)) → Lt (fun i => lstB (L i)) (d i) (d j)) :
    Calls Tryd.prog 94 #[.slice (some ⟨b, 0, none⟩) n cap, .int .i64 a, .int .i64 e, .func (.func 63) #[] #[]] w (Sorted (fun i => lstB (L i)) L d a e b n w) := by
  have H := Lib.hid (SortS.mk h hd (But.refl b w))
  have HP := Lib.hid hp
  clear h hd hp
  go_enter Tryd.func94, Tryd.ntmps94
  go_wp2
  go_loopw [8] (fun i wr => ∃ (x : Nat) (c : Nat → Nat), i = .int .i64 x ∧ a < x ∧ x ≤ e + 1 ∧ Hid (Mv a (min x e) d c) ∧ Hid (Sd (fun i => lstB (L i)) a (min x e) c) ∧ SortS w b n (fun i => L (c i)) wr) (fun i _ => (e + 1) - (intOf i).toNat)
  case atStart => exact ⟨a + 1, d, by go_num, by omega, by omega, Mv.refl _ _ _, sd_one (by omega), H.out⟩
  case round =>
    obtain ⟨x, c, rfl, hax, hxe, hM, hS, hW⟩ := hrel
    by_cases hlt : x < e
    · have hltz : (x : Int) < (e : Int) := by omega
      have hin : Ins (fun i => lstB (L i)) a x x c := by
        have hM' := hM.out; have hS' := hS.out
        rw [show min x e = x by omega] at hM' hS'
        refine ins_start hS' fun y h1 h2 h3 => ?_
        obtain ⟨y', h4, h5, e1⟩ := hM'.back y h1 h2
        have e2 := hM'.out x (Or.inr (Nat.le_refl _))
        rw [e1, e2] at h3 ⊢
        exact HP.out y' x h4 h5 hlt h3
      have HIN := Lib.hid hin
      have HW := Lib.hid hW
      have HM : Hid (Mv a (x + 1) d c) := by
        have hM' := hM.out
        rw [show min x e = x by omega] at hM'
        exact hM'.wide (Nat.le_refl _) (by omega)
      clear hin hW hM hS
      go_wp2
      go_loopw [9] (fun i wr2 => ∃ (j : Nat) (c2 : Nat → Nat), i = .int .i64 j ∧ a ≤ j ∧ j ≤ x ∧ Hid (Mv a (x + 1) d c2) ∧ Hid (Ins (fun i => lstB (L i)) a x j c2) ∧ SortS w b n (fun i => L (c2 i)) wr2) (fun i _ => (intOf i).toNat)
      case atStart => exact ⟨x, c, rfl, by omega, Nat.le_refl _, HM, HIN, HW.out⟩
      case round =>
        obtain ⟨j, c2, rfl, haj, hjx, hM2, hI2, hW2⟩ := hrel
        have HW2 := Lib.hid hW2
        clear hW2
        by_cases hja : a < j
        · obtain ⟨k, rfl⟩ : ∃ k, j = k + 1 := ⟨j - 1, by omega⟩
          have hjaz : (a : Int) < (k : Int) + 1 := by omega
          have hc : ∀ w, Deb w → Calls Tryd.prog 63 #[cls (L (c2 (k + 1))), cls (L (c2 k))] w (Ans w (.int .i64 (sgn (lstB (L (c2 (k + 1)))) (lstB (L (c2 k)))))) := fun w => byleast_any _ _ w
          have HC := Lib.hid hc
          clear hc
          have hk1 : ((k : Int) + 1).toNat = k + 1 := by omega
          have hkn : (k : Int) + 1 < (n : Int) := by omega
          have hk0 : (0 : Int) ≤ (k : Int) := by omega
          have hbound : (n : Int) < 1152921504606846976 := by omega
          have hkn1 : k + 1 < n := by omega
          have hkn0 : k < n := by omega
          have HNB := Lib.hid hnb
          clear hnb
          obtain ⟨z, hz1, hz0, hz2⟩ : ∃ z : Int, -1 ≤ z ∧ z ≤ 1 ∧ Hid (z = sgn (lstB (L (c2 (k + 1)))) (lstB (L (c2 k)))) := ⟨_, (sgn_in _ _).1, (sgn_in _ _).2, rfl⟩
          have hc : ∀ w, Deb w → Calls Tryd.prog 63 #[cls (L (c2 (k + 1))), cls (L (c2 k))] w (Ans w (.int .i64 z)) := fun w hd => by rw [hz2.out]; exact byleast_any _ _ w hd
          by_cases hl : z < 0
          · go_upto_region 4 with (fail)
            refine wp_region_stable (S := (SortS w b n (fun i => L (c2 i)))) (hSt := fun _ _ h hb => h.later hb) (plan := [[(9, none)], [(1, none)], [(18, some 0), (19, some 1)], [(20, some 2)], [(3, none)], [(0, none)], [(9, none)], [(23, some 5), (24, some 6)], [(25, some 7)], [(0, none)], [(9, none)], [(28, some 10)], [(27, some 9), (29, some 11)], [(30, some 12)], [(22, some 4), (26, some 8), (31, some 13)], [(32, some 14)], [(21, some 3), (33, some 15)]]) (by kernel_rfl) (by kernel_rfl) (by kernel_rfl) ?hS ?_
            rotate_left
            iterate 17 first
              | (refine chain_skip (by rfl) (by rfl) ?_)
              | (apply chain_want (by rfl)
                 · intro act wx hS hr
                   simp at hr
                   have h1 := hS.row.cells (k + 1) hkn1
                   have h2 := hS.row.cells k hkn0
                   go_simp
                   (try go_ints)
                   first
                     | exact Done.same (v := cls _)
                     | ((with_reducible refine (hc _ hS.deb).mono ?_); rintro e w' ⟨rfl, hb⟩; exact Done.mk hb)
                     | exact Done.same
                )
            show ∀ w', _ → _
            intro wz hz
            simp [Act.put]
            case hS => exact HW2.out
            have c1 := hz.row.cells (k + 1) hkn1
            have c3 := hz.row.cells k hkn0
            have fr := hz.row.fro
            have HZ := Lib.hid hz
            clear hz hc
            go_wp2_with fail
            go_big_region
            all_goals go_wp2
            all_goals
              go_roundw
              case rel =>
                have hs := HZ.out.row.swapped (k + 1) k hkn1 hkn0
                have hlt2 : lstB (L (c2 (k + 1))) < lstB (L (c2 k)) := (sgn_neg _ _).1 (by rw [← hz2.out]; exact hl)
                exact ⟨k, _, by first | rfl | go_num, by omega, by omega, hM2.out.trans (mv_swap _ _ _ _ _ (by omega) (by omega) (by omega) (by omega)), ins_step hI2.out (by omega) hjx hlt2, HZ.out.on hs.1.drew hs.2.drew HNB.out⟩
              case measure => simp [intOf]; try omega
          · go_upto_region 4 with (fail)
            refine wp_region_stable (S := (SortS w b n (fun i => L (c2 i)))) (hSt := fun _ _ h hb => h.later hb) (plan := [[(9, none)], [(1, none)], [(18, some 0), (19, some 1)], [(20, some 2)], [(3, none)], [(0, none)], [(9, none)], [(23, some 5), (24, some 6)], [(25, some 7)], [(0, none)], [(9, none)], [(28, some 10)], [(27, some 9), (29, some 11)], [(30, some 12)], [(22, some 4), (26, some 8), (31, some 13)], [(32, some 14)], [(21, some 3), (33, some 15)]]) (by kernel_rfl) (by kernel_rfl) (by kernel_rfl) ?hS ?_
            rotate_left
            iterate 17 first
              | (refine chain_skip (by rfl) (by rfl) ?_)
              | (apply chain_want (by rfl)
                 · intro act wx hS hr
                   simp at hr
                   have h1 := hS.row.cells (k + 1) hkn1
                   have h2 := hS.row.cells k hkn0
                   go_simp
                   (try go_ints)
                   first
                     | exact Done.same (v := cls _)
                     | ((with_reducible refine (hc _ hS.deb).mono ?_); rintro e w' ⟨rfl, hb⟩; exact Done.mk hb)
                     | exact Done.same
                )
            show ∀ w', _ → _
            intro wz hz
            simp [Act.put]
            case hS => exact HW2.out
            have HZ := Lib.hid hz
            clear hz hc
            go_wp2
            go_roundw
            case rel =>
              have hle2 : lstB (L (c2 k)) ≤ lstB (L (c2 (k + 1))) := by
                have : ¬ lstB (L (c2 (k + 1))) < lstB (L (c2 k)) := fun hh => hl (by rw [hz2.out]; exact (sgn_neg _ _).2 hh)
                omega
              have hsd := ins_stop hI2.out (by omega) hjx (Or.inr hle2)
              refine ⟨x + 1, c2, by go_num, by omega, by omega, ?_, ?_, HZ.out⟩
              · show Mv _ _ _ _; rw [show min (x + 1) e = x + 1 by omega]; exact hM2.out
              · show Sd _ _ _ _; rw [show min (x + 1) e = x + 1 by omega]; exact hsd
            case measure => simp [intOf]; omega
        · obtain rfl : j = a := by omega
          have hja2 : ¬ (j : Int) < (j : Int) := by omega
          go_upto_region 4 with (fail)
          refine wp_region_stable (S := (SortS w b n (fun i => L (c2 i)))) (hSt := fun _ _ h hb => h.later hb) (plan := [[(9, none)], [(1, none)], [(18, some 0), (19, some 1)], [(20, some 2)], [(3, none)], [(0, none)], [(9, none)], [(23, some 5), (24, some 6)], [(25, some 7)], [(0, none)], [(9, none)], [(28, some 10)], [(27, some 9), (29, some 11)], [(30, some 12)], [(22, some 4), (26, some 8), (31, some 13)], [(32, some 14)], [(21, some 3), (33, some 15)]]) (by kernel_rfl) (by kernel_rfl) (by kernel_rfl) ?hS ?_
          rotate_left
          iterate 17 first
            | (refine chain_skip (by rfl) (by rfl) ?_)
            | (apply chain_want (by rfl)
               · intro act wx hS hr
                 simp at hr
                 go_simp
                 (try go_ints)
                 first
                   | exact Done.same
              )
          show ∀ w', _ → _
          intro wz hz
          simp [Act.put]
          case hS => exact HW2.out
          have HZ := Lib.hid hz
          clear hz
          go_wp2
          go_roundw
          case rel =>
            have hsd := ins_stop hI2.out (Nat.le_refl _) hjx (Or.inl rfl)
            refine ⟨x + 1, c2, by go_num, by omega, by omega, ?_, ?_, HZ.out⟩
            · show Mv _ _ _ _; rw [show min (x + 1) e = x + 1 by omega]; exact hM2.out
            · show Sd _ _ _ _; rw [show min (x + 1) e = x + 1 by omega]; exact hsd
          case measure => simp [intOf]; omega
    · have hx : min x e = e := by omega
      have hxz : ¬ (x : Int) < (e : Int) := by omega
      have hM' := hM.out; have hS' := hS.out
      rw [hx] at hM' hS'
      have HQ := Lib.hid (And.intro hM' (And.intro hS' hW))
      clear hM' hS' hM hS hW hx
      go_wp2
      go_end0
      exact ⟨rfl, c, HQ.out⟩
end Go.Proofs.YtgehepiphdphjaaDoor
