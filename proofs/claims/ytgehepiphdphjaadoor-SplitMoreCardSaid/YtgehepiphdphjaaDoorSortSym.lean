/- symMergeCmpFunc over a row of classes: two sorted halves become one. -/
import Derived.Test.YtgehepiphdphjaaDoorSortIns
namespace Go.Proofs.YtgehepiphdphjaaDoor
open Go Go.RowKit
set_option linter.unusedVariables false

/-- What symMergeCmpFunc is asked, for ranges of at most sz. -/
def Sym (L : Nat → BitVec 256) (b n cap sz : Nat) : Prop := ∀ (a m e : Nat) (d : Nat → Nat) (w : World), e - a ≤ sz → CRow w b n (fun i => L (d i)) → Deb w → a < m → m < e → e ≤ n → Two' (fun i => lstB (L i)) a m e d →
    Calls Tryd.prog 95 #[.slice (some ⟨b, 0, none⟩) n cap, .int .i64 a, .int .i64 m, .int .i64 e, .func (.func 63) #[] #[]] w (Sorted (fun i => lstB (L i)) L d a e b n w)

set_option maxRecDepth 1000000 in
set_option maxHeartbeats 16000000 in
theorem sym_one (L : Nat → BitVec 256) (b n cap : Nat) (hnb : 2 ≠ b) (hn : n < 1152921504606846976) (a e : Nat) (d : Nat → Nat) (w : World) (h : CRow w b n (fun i => L (d i))) (hd : Deb w) (hme : a + 1 < e) (he : e ≤ n) (h2 : Two' (fun i => lstB (L i)) a (a + 1) e d) :
    Calls Tryd.prog 95 #[.slice (some ⟨b, 0, none⟩) n cap, .int .i64 a, .int .i64 ((a + 1 : Nat) : Int), .int .i64 e, .func (.func 63) #[] #[]] w (Sorted (fun i => lstB (L i)) L d a e b n w) := by
    have H := Lib.hid (SortS.mk h hd (But.refl b w))
    have H2 := Lib.hid h2
    have HNB := Lib.hid hnb
    have hbound : (n : Int) < 1152921504606846976 := by omega
    clear h hd h2 hnb
    go_enter Tryd.func95, Tryd.ntmps95
    have e1 : (((a : Int) + 1 - (a : Int)) == 1) = true := by rw [beq_iff_eq]; omega
    go_wp2
    go_loopw [10, 11] (fun i j wr => ∃ (x y : Nat), i = .int .i64 x ∧ j = .int .i64 y ∧ a + 1 ≤ x ∧ x ≤ y ∧ y ≤ e ∧ Hid (x = a + 1 ∨ lstB (L (d (x - 1))) < lstB (L (d a))) ∧ Hid (y = e ∨ lstB (L (d a)) ≤ lstB (L (d y))) ∧ SortS w b n (fun i => L (d i)) wr) (fun i j _ => (intOf j - intOf i).toNat)
    case atStart => exact ⟨a + 1, e, by go_num, rfl, by omega, by omega, by omega, Or.inl rfl, Or.inl rfl, H.out⟩
    case round =>
      obtain ⟨x, y, rfl, rfl, hax, hxy, hye, hlo, hhi, hW⟩ := hrel
      have HW := Lib.hid hW
      clear hW
      by_cases hlt : x < y
      · have hltz : (x : Int) < (y : Int) := by omega
        obtain ⟨M, hM, hxM, hMy⟩ : ∃ M : Nat, ((x : Int) + (y : Int)) / 2 = (M : Int) ∧ x ≤ M ∧ M < y := ⟨(x + y) / 2, by omega, by omega, by omega⟩
        have hMn : M < n := by omega
        have han : a < n := by omega
        have hMz : (M : Int) < (n : Int) := by omega
        have haz : (a : Int) < (n : Int) := by omega
        have hM0 : (0 : Int) ≤ (M : Int) := by omega
        have ha0 : (0 : Int) ≤ (a : Int) := by omega
        obtain ⟨z, hz1, hz0, hz2⟩ : ∃ z : Int, -1 ≤ z ∧ z ≤ 1 ∧ Hid (z = sgn (lstB (L (d M))) (lstB (L (d a)))) := ⟨_, (sgn_in _ _).1, (sgn_in _ _).2, rfl⟩
        have hc : ∀ w, Deb w → Calls Tryd.prog 63 #[cls (L (d M)), cls (L (d a))] w (Ans w (.int .i64 z)) := fun w hd => by rw [hz2.out]; exact byleast_any _ _ w hd
        by_cases hl : z < 0
        · go_upto_region 5 with (fail)
          refine wp_region_stable (S := (SortS w b n (fun i => L (d i)))) (hSt := fun _ _ h hb => h.later hb) (plan := [[(4, none)], [(0, none)], [(12, none)], [(41, some 1), (42, some 2)], [(43, some 3)], [(0, none)], [(1, none)], [(45, some 5), (46, some 6)], [(47, some 7)], [(40, some 0), (44, some 4), (48, some 8)], [(49, some 9)]]) (by kernel_rfl) (by kernel_rfl) (by kernel_rfl) ?hS ?_
          rotate_left
          iterate 11 first
            | (refine chain_skip (by rfl) (by rfl) ?_)
            | (apply chain_want (by rfl)
               · intro act wx hS hr
                 simp at hr
                 have h1 := hS.row.cells M hMn
                 have h2 := hS.row.cells a han
                 go_simp
                 (try go_ints)
                 first
                   | exact Done.same (v := cls _)
                   | ((with_reducible refine (hc _ hS.deb).mono ?_); rintro e w' ⟨rfl, hb⟩; exact Done.mk hb)
                   | exact Done.same
              )
          show ∀ w', _ → _
          intro wz hz
          simp [Act.put]
          case hS => exact HW.out
          have HZ := Lib.hid hz
          clear hz hc
          go_wp2
          go_roundw
          case rel =>
            have hlt2 : lstB (L (d M)) < lstB (L (d a)) := (sgn_neg _ _).1 (by rw [← hz2.out]; exact hl)
            (repeat apply Exists.intro); exact ⟨⟨M + 1, y, by go_num, rfl, by omega, by omega, hye, Or.inr hlt2, hhi, HZ.out⟩, rfl⟩
          case measure => simp [intOf]; omega
        · go_upto_region 5 with (fail)
          refine wp_region_stable (S := (SortS w b n (fun i => L (d i)))) (hSt := fun _ _ h hb => h.later hb) (plan := [[(4, none)], [(0, none)], [(12, none)], [(41, some 1), (42, some 2)], [(43, some 3)], [(0, none)], [(1, none)], [(45, some 5), (46, some 6)], [(47, some 7)], [(40, some 0), (44, some 4), (48, some 8)], [(49, some 9)]]) (by kernel_rfl) (by kernel_rfl) (by kernel_rfl) ?hS ?_
          rotate_left
          iterate 11 first
            | (refine chain_skip (by rfl) (by rfl) ?_)
            | (apply chain_want (by rfl)
               · intro act wx hS hr
                 simp at hr
                 have h1 := hS.row.cells M hMn
                 have h2 := hS.row.cells a han
                 go_simp
                 (try go_ints)
                 first
                   | exact Done.same (v := cls _)
                   | ((with_reducible refine (hc _ hS.deb).mono ?_); rintro e w' ⟨rfl, hb⟩; exact Done.mk hb)
                   | exact Done.same
              )
          show ∀ w', _ → _
          intro wz hz
          simp [Act.put]
          case hS => exact HW.out
          have HZ := Lib.hid hz
          clear hz hc
          go_wp2
          go_roundw
          case rel =>
            have hle2 : lstB (L (d a)) ≤ lstB (L (d M)) := by
              have : ¬ lstB (L (d M)) < lstB (L (d a)) := fun hh => (show ¬ z < 0 by omega) (by rw [hz2.out]; exact (sgn_neg _ _).2 hh)
              omega
            exact ⟨x, rfl, M, rfl, hax, by omega, by omega, hlo, Or.inr hle2, HZ.out⟩
          case measure => simp [intOf]; omega
      · obtain rfl : x = y := by omega
        have hsd := ins_left H2.out hax hye hlo.out hhi.out
        have HSD := Lib.hid hsd
        have HX := Lib.hid hax
        clear hsd hlo hhi
        have hxx : ¬ (x : Int) < (x : Int) := by omega
        go_wp2
        go_loopw [13] (fun i wr => ∃ k : Nat, i = .int .i64 k ∧ a ≤ k ∧ k + 1 ≤ x ∧ SortS w b n (fun i => L (rotF d a (a + 1) (k + 1) i)) wr) (fun i _ => x - (intOf i).toNat)
        case atStart => exact ⟨a, rfl, by omega, by omega, by rw [rot_none _ _ _ _ (Or.inr (Nat.le_refl _))]; exact HW.out⟩
        case round =>
          obtain ⟨k, rfl, hak, hkx, hK⟩ := hrel
          by_cases hkl : k + 1 < x
          · have c1 := hK.row.cells k (by omega)
            have c2 := hK.row.cells (k + 1) (by omega)
            have fr := hK.row.fro
            have HK := Lib.hid hK
            clear hK
            have hk1 : ((k : Int) + 1).toNat = k + 1 := by omega
            have hkz : (k : Int) < (x : Int) - 1 := by omega
            go_wp2_with fail
            go_big_region
            all_goals go_wp2
            all_goals
              go_roundw
              case rel =>
                have hs := HK.out.row.swapped k (k + 1) (by omega) (by omega)
                rw [rot_up d a k hak] at hs
                exact ⟨k + 1, by go_num, by omega, by omega, HK.out.on hs.1.drew hs.2.drew HNB.out⟩
              case measure => simp [intOf]; omega
          · obtain rfl : k + 1 = x := by omega
            have HK := Lib.hid hK
            clear hK
            have hkz : ¬ (k : Int) < (k : Int) + 1 - 1 := by omega
            go_wp2
            go_end0
            exact ⟨rfl, _, (mv_rot d a (a + 1) (k + 1) (by omega) HX.out).wide (Nat.le_refl _) hye, HSD.out, HK.out⟩
set_option maxRecDepth 1000000 in
set_option maxHeartbeats 16000000 in
theorem sym_right (L : Nat → BitVec 256) (b n cap : Nat) (hnb : 2 ≠ b) (hn : n < 1152921504606846976) (a m : Nat) (d : Nat → Nat) (w : World) (h : CRow w b n (fun i => L (d i))) (hd : Deb w) (ham : a + 1 < m) (he : m + 1 ≤ n) (h2 : Two' (fun i => lstB (L i)) a m (m + 1) d) :
    Calls Tryd.prog 95 #[.slice (some ⟨b, 0, none⟩) n cap, .int .i64 a, .int .i64 m, .int .i64 ((m + 1 : Nat) : Int), .func (.func 63) #[] #[]] w (Sorted (fun i => lstB (L i)) L d a (m + 1) b n w) := by
    have H := Lib.hid (SortS.mk h hd (But.refl b w))
    have H2 := Lib.hid h2
    have HNB := Lib.hid hnb
    have hbound : (n : Int) < 1152921504606846976 := by omega
    clear h hd h2 hnb
    go_enter Tryd.func95, Tryd.ntmps95
    have e1 : (((m : Int) - (a : Int)) == 1) = false := by rw [beq_eq_false_iff_ne]; omega
    have e2 : (((m : Int) + 1 - (m : Int)) == 1) = true := by rw [beq_iff_eq]; omega
    go_wp2
    go_loopw [14, 15] (fun i j wr => ∃ (x y : Nat), i = .int .i64 x ∧ j = .int .i64 y ∧ a ≤ x ∧ x ≤ y ∧ y ≤ m ∧ Hid (x = a ∨ lstB (L (d (x - 1))) ≤ lstB (L (d m))) ∧ Hid (y = m ∨ lstB (L (d m)) < lstB (L (d y))) ∧ SortS w b n (fun i => L (d i)) wr) (fun i j _ => (intOf j - intOf i).toNat)
    case atStart => exact ⟨a, m, rfl, rfl, by omega, by omega, by omega, Or.inl rfl, Or.inl rfl, H.out⟩
    case round =>
      obtain ⟨x, y, rfl, rfl, hax, hxy, hye, hlo, hhi, hW⟩ := hrel
      have HW := Lib.hid hW
      clear hW
      by_cases hlt : x < y
      · have hltz : (x : Int) < (y : Int) := by omega
        obtain ⟨M, hM, hxM, hMy⟩ : ∃ M : Nat, ((x : Int) + (y : Int)) / 2 = (M : Int) ∧ x ≤ M ∧ M < y := ⟨(x + y) / 2, by omega, by omega, by omega⟩
        have hMn : M < n := by omega
        have han : m < n := by omega
        have hMz : (M : Int) < (n : Int) := by omega
        have haz : (m : Int) < (n : Int) := by omega
        have hM0 : (0 : Int) ≤ (M : Int) := by omega
        have ha0 : (0 : Int) ≤ (m : Int) := by omega
        obtain ⟨z, hz1, hz0, hz2⟩ : ∃ z : Int, -1 ≤ z ∧ z ≤ 1 ∧ Hid (z = sgn (lstB (L (d m))) (lstB (L (d M)))) := ⟨_, (sgn_in _ _).1, (sgn_in _ _).2, rfl⟩
        have hc : ∀ w, Deb w → Calls Tryd.prog 63 #[cls (L (d m)), cls (L (d M))] w (Ans w (.int .i64 z)) := fun w hd => by rw [hz2.out]; exact byleast_any _ _ w hd
        by_cases hl : z < 0
        · go_upto_region 17 with (fail)
          refine wp_region_stable (S := (SortS w b n (fun i => L (d i)))) (hSt := fun _ _ h hb => h.later hb) (plan := [[(4, none)], [(0, none)], [(2, none)], [(93, some 1), (94, some 2)], [(95, some 3)], [(0, none)], [(16, none)], [(97, some 5), (98, some 6)], [(99, some 7)], [(92, some 0), (96, some 4), (100, some 8)], [(101, some 9)], [(102, some 10)]]) (by kernel_rfl) (by kernel_rfl) (by kernel_rfl) ?hS ?_
          rotate_left
          iterate 12 first
            | (refine chain_skip (by rfl) (by rfl) ?_)
            | (apply chain_want (by rfl)
               · intro act wx hS hr
                 simp at hr
                 have h1 := hS.row.cells M hMn
                 have h2 := hS.row.cells m han
                 go_simp
                 (try go_ints)
                 first
                   | exact Done.same (v := cls _)
                   | ((with_reducible refine (hc _ hS.deb).mono ?_); rintro e w' ⟨rfl, hb⟩; exact Done.mk hb)
                   | exact Done.same
              )
          show ∀ w', _ → _
          intro wz hz
          simp [Act.put]
          case hS => exact HW.out
          have HZ := Lib.hid hz
          clear hz hc
          go_wp2
          go_roundw
          case rel =>
            have hlt2 : lstB (L (d m)) < lstB (L (d M)) := (sgn_neg _ _).1 (by rw [← hz2.out]; exact hl)
            first
              | exact ⟨x, rfl, M, rfl, hax, by omega, by omega, hlo, Or.inr hlt2, HZ.out⟩
              | exact ⟨x, M, rfl, rfl, hax, by omega, by omega, hlo, Or.inr hlt2, HZ.out⟩
              | ((repeat apply Exists.intro); exact ⟨⟨x, M, rfl, rfl, hax, by omega, by omega, hlo, Or.inr hlt2, HZ.out⟩, rfl⟩)
          case measure => simp [intOf]; omega
        · go_upto_region 17 with (fail)
          refine wp_region_stable (S := (SortS w b n (fun i => L (d i)))) (hSt := fun _ _ h hb => h.later hb) (plan := [[(4, none)], [(0, none)], [(2, none)], [(93, some 1), (94, some 2)], [(95, some 3)], [(0, none)], [(16, none)], [(97, some 5), (98, some 6)], [(99, some 7)], [(92, some 0), (96, some 4), (100, some 8)], [(101, some 9)], [(102, some 10)]]) (by kernel_rfl) (by kernel_rfl) (by kernel_rfl) ?hS ?_
          rotate_left
          iterate 12 first
            | (refine chain_skip (by rfl) (by rfl) ?_)
            | (apply chain_want (by rfl)
               · intro act wx hS hr
                 simp at hr
                 have h1 := hS.row.cells M hMn
                 have h2 := hS.row.cells m han
                 go_simp
                 (try go_ints)
                 first
                   | exact Done.same (v := cls _)
                   | ((with_reducible refine (hc _ hS.deb).mono ?_); rintro e w' ⟨rfl, hb⟩; exact Done.mk hb)
                   | exact Done.same
              )
          show ∀ w', _ → _
          intro wz hz
          simp [Act.put]
          case hS => exact HW.out
          have HZ := Lib.hid hz
          clear hz hc
          go_wp2
          go_roundw
          case rel =>
            have hle2 : lstB (L (d M)) ≤ lstB (L (d m)) := by
              have : ¬ lstB (L (d m)) < lstB (L (d M)) := fun hh => (show ¬ z < 0 by omega) (by rw [hz2.out]; exact (sgn_neg _ _).2 hh)
              omega
            first
              | exact ⟨M + 1, y, by go_num, rfl, by omega, by omega, hye, Or.inr hle2, hhi, HZ.out⟩
              | exact ⟨M + 1, by omega, y, rfl, by omega, by omega, hye, Or.inr hle2, hhi, HZ.out⟩
              | ((repeat apply Exists.intro); exact ⟨⟨M + 1, y, by go_num, rfl, by omega, by omega, hye, Or.inr hle2, hhi, HZ.out⟩, rfl⟩)
          case measure => simp [intOf]; omega
      · obtain rfl : x = y := by omega
        have hsd := ins_right H2.out hax hye hlo.out hhi.out
        have HSD := Lib.hid hsd
        have HX := Lib.hid hax
        clear hsd hlo hhi
        have hxx : ¬ (x : Int) < (x : Int) := by omega
        go_wp2
        go_loopw [17] (fun i wr => ∃ k : Nat, i = .int .i64 k ∧ x ≤ k ∧ k ≤ m ∧ SortS w b n (fun i => L (rotF d k m (m + 1) i)) wr) (fun i _ => (intOf i).toNat)
        case atStart => exact ⟨m, rfl, by omega, by omega, by rw [rot_none _ _ _ _ (Or.inl (Nat.le_refl _))]; exact HW.out⟩
        case round =>
          obtain ⟨k0, rfl, hak, hkx, hK⟩ := hrel
          by_cases hkl : x < k0
          · obtain ⟨k, rfl⟩ : ∃ k, k0 = k + 1 := ⟨k0 - 1, by omega⟩
            have c1 := hK.row.cells k (by omega)
            have c2 := hK.row.cells (k + 1) (by omega)
            have fr := hK.row.fro
            have HK := Lib.hid hK
            clear hK
            have hk1 : ((k : Int) + 1).toNat = k + 1 := by omega
            have hkz : (x : Int) < (k : Int) + 1 := by omega
            go_wp2_with fail
            go_big_region
            all_goals go_wp2
            all_goals
              go_roundw
              case rel =>
                have hs := HK.out.row.swapped (k + 1) k (by omega) (by omega)
                rw [rot_down d m k (by omega)] at hs
                exact ⟨k, by first | rfl | go_num, by omega, by omega, HK.out.on hs.1.drew hs.2.drew HNB.out⟩
              case measure => simp [intOf]; try omega
          · obtain rfl : k0 = x := by omega
            have HK := Lib.hid hK
            clear hK
            have hkz : ¬ (k0 : Int) < (k0 : Int) := by omega
            go_wp2
            go_end0
            exact ⟨rfl, _, (mv_rot d k0 m (m + 1) hye (by omega)).wide HX.out (Nat.le_refl _), HSD.out, HK.out⟩

end Go.Proofs.YtgehepiphdphjaaDoor
