/- The statement ItemForms of layer 13, walked. -/
import Derived.Test.YtnhcbldcfcibiaaM30
namespace Go.Proofs.Ytnhcbldcfcibiaa
open Go Go.RowKit
set_option linter.unusedVariables false
set_option linter.unusedSimpArgs false
set_option maxRecDepth 1000000
set_option maxHeartbeats 64000000

structure ItgS (w0 : World) (A : Option Addr) (l : List Nd) (c : Nat) (B C : Option Addr) (s t : List Itm) (w : World) : Prop where
  f : FstS w0 A l c w
  rs : ItRow w B s
  rt : ItRow w C t
theorem ItgS.later {w0 w w' : World} {A B C : Option Addr} {l : List Nd} {c : Nat} {s t : List Itm} (h : ItgS w0 A l c B C s t w) (hb : Below w.heap.size w w') : ItgS w0 A l c B C s t w' := ⟨h.f.later hb, h.rs.later hb, h.rt.later hb⟩
/-- .. and another state. -/
structure ItgX (w0 : World) (A : Option Addr) (l : List Nd) (c : Nat) (B C D : Option Addr) (s t x : List Itm) (w : World) : Prop where
  i : ItgS w0 A l c B C s t w
  rx : ItRow w D x
theorem ItgX.later {w0 w w' : World} {A B C D : Option Addr} {l : List Nd} {c : Nat} {s t x : List Itm} (h : ItgX w0 A l c B C D s t x w) (hb : Below w.heap.size w w') : ItgX w0 A l c B C D s t x w' := ⟨h.i.later hb, h.rx.later hb⟩
structure ItgY (w0 : World) (A : Option Addr) (l : List Nd) (c : Nat) (B C D E F : Option Addr) (s t x y z : List Itm) (w : World) : Prop where
  i : ItgX w0 A l c B C D s t x w
  ry : ItRow w E y
  rz : ItRow w F z
theorem ItgY.later {w0 w w' : World} {A B C D E F : Option Addr} {l : List Nd} {c : Nat} {s t x y z : List Itm} (h : ItgY w0 A l c B C D E F s t x y z w) (hb : Below w.heap.size w w') : ItgY w0 A l c B C D E F s t x y z w' := ⟨h.i.later hb, h.ry.later hb, h.rz.later hb⟩

theorem itemforms_walk (l : List Nd) (A : Option Addr) (c : Nat) (s t : List Itm) (B C : Option Addr) (c2 c3 far : Nat) (hfar : far < 256) (hc1 : l.length ≤ c) (hl : l.length ≤ 9223372036854775807) (htx : Txt l) (hc2 : s.length ≤ c2) (h2 : t.length ≤ 9223372036854775807) (w : World) (hrow : NRow w A l) (hs : ItRow w B s) (ht : ItRow w C t) :
    Calls Try.prog 7 #[.agg #[.slice A l.length c], .slice B s.length c2, .slice C t.length c3, .int .u8 (far : Int)] w (Ans w (.bool true)) := by
  have hbb := (Below.refl w.heap.size w).alloc (Nat.le_refl _) (.cells #[.slice A l.length c] 24)
  have HS : Hid (ItgS w A l c B C s t (w.alloc (.cells #[.slice A l.length c] 24))) := ⟨⟨hbb, hrow.later hbb, Blk.new _ _ _⟩, hs.later hbb, ht.later hbb⟩
  have HAW := Lib.hid (fun w => awake13_any w)
  have HTX := Lib.hid htx
  clear hbb hrow hs ht htx
  go_enter Try.func7, Try.ntmps7
  go_upto_region 1 with (fail)
  generalize w.alloc (.cells #[.slice A l.length c] 24) = w1 at HS ⊢
  have e0 := HS.out.f.box.cell 0
  simp at e0
  go_wp2_with fail
  refine ((HAW.out _)).mono ?_; rintro e w2 ⟨rfl, hb⟩
  have HS2 := Lib.hid (HS.out.later hb)
  clear hb e0 HS
  have HS := HS2
  clear HS2
  have e0 := HS.out.f.box.cell 0
  simp at e0
  have HF := Lib.hid (few_any l A c hl HTX.out _ HS.out.f.row)
  cases hf : fewB l with
  | false =>
    rw [hf] at HF
    clear hf
    go_wp2_with fail
    refine ((HF.out)).mono ?_; rintro e w2 ⟨rfl, hb⟩
    have HS2 := Lib.hid (HS.out.later hb)
    clear hb e0 HS
    have HS := HS2
    clear HS2
    have e0 := HS.out.f.box.cell 0
    simp at e0
    go_wp2_with fail
    refine ((HAW.out _)).mono ?_; rintro e w2 ⟨rfl, hb⟩
    have HS2 := Lib.hid (HS.out.later hb)
    clear hb e0 HS
    have HS := HS2
    clear HS2
    have e0 := HS.out.f.box.cell 0
    simp at e0
    go_wp2
    go_ret
    exact ⟨rfl, HS.out.f.bel⟩
  | true =>
    rw [hf] at HF
    have L1 := Lib.hid (few_txt hf).1
    clear hf
    go_wp2_with fail
    refine ((HF.out)).mono ?_; rintro e w2 ⟨rfl, hb⟩
    have HS2 := Lib.hid (HS.out.later hb)
    clear hb e0 HS
    have HS := HS2
    clear HS2
    have e0 := HS.out.f.box.cell 0
    simp at e0
    clear HF
    have HF := Lib.hid (rright_any l A c hc1 (by have := L1.out; omega) HTX.out _ HS.out.f.row)
    cases hf : rgB l with
    | false =>
      rw [hf] at HF
      clear hf
      go_wp2_with fail
      refine ((HF.out)).mono ?_; rintro e w2 ⟨rfl, hb⟩
      have HS2 := Lib.hid (HS.out.later hb)
      clear hb e0 HS
      have HS := HS2
      clear HS2
      have e0 := HS.out.f.box.cell 0
      simp at e0
      go_wp2_with fail
      refine ((HAW.out _)).mono ?_; rintro e w2 ⟨rfl, hb⟩
      have HS2 := Lib.hid (HS.out.later hb)
      clear hb e0 HS
      have HS := HS2
      clear HS2
      have e0 := HS.out.f.box.cell 0
      simp at e0
      go_wp2
      go_ret
      exact ⟨rfl, HS.out.f.bel⟩
    | true =>
      rw [hf] at HF
      have hlen := L1.out
      clear hf
      by_cases ga : s.length ≤ 30
      · have za : ¬ (s.length : Int) > 30 := by omega
        by_cases gb : t.length ≤ 30
        · have zb : ¬ (t.length : Int) > 30 := by omega
          have hsl : s.length < 1073741000 := by omega
          have htl : t.length < 1073741000 := by omega
          go_wp2_with fail
          refine ((HF.out)).mono ?_; rintro e w2 ⟨rfl, hb⟩
          have HS2 := Lib.hid (HS.out.later hb)
          clear hb e0 HS
          have HS := HS2
          clear HS2
          have e0 := HS.out.f.box.cell 0
          simp at e0
          clear HF
          go_upto_region 3 with (fail)
          have hb3 := (Below.refl w2.heap.size w2).alloc (Nat.le_refl _) (.cells #[] 36)
          have HK3 := Lib.hid (Blk.new w2 #[] 36)
          have HS3 := Lib.hid (HS.out.later hb3)
          have HL3 := Lib.hid hb3.size
          have HB3 := Lib.hid hb3
          clear hb3 e0
          go_wp2_with (at_builtin; first | (refine wpList_append_freshI rfl _ _ rfl w2.heap.size w2.heap.size (Nat.le_refl _) HL3.out rfl HK3.out s B c2 rfl HS3.out.rs hsl ?_; intro v' w4 h1 h2; have HO4 := Lib.hid h1; have HS4 := Lib.hid (HS3.out.later h2); have HB4 := Lib.hid (HB3.out.trans (h2.mono HL3.out)); have HL4 := Lib.hid (Nat.le_trans HL3.out h2.size); clear h1 h2) | (refine wpList_append_any rfl _ _ rfl w2.heap.size _ s rfl HO4.out C c3 t rfl HS4.out.rt (by omega) HL4.out ?_; intro v6 w6 h1 h2; have HO6 := Lib.hid h1; have HB6 := Lib.hid ((Below.refl w2.heap.size _).grown h2 HL4.out (fun k hk => (World.ownsRow.lt HO4.out k hk).1)); clear h1 h2))
          obtain ⟨D, cd, rfl, -, hrd⟩ := HO6.out.row
          have HX : Hid (ItgX w A l c B C D s t (s ++ t) w6) := ⟨HS.out.later (HB4.out.trans HB6.out), hrd⟩
          clear hrd HO6 HB6 HB4 HS4 HO4 HS3 HK3 HB3 HL3 HL4 HS
          have HF1 : Hid (∀ (w' : World), ItgX w A l c B C D s t (s ++ t) w' → Calls Try.prog 14 #[.agg #[.slice A l.length c], .slice D (s ++ t).length cd] w' (Ans w' (.bool (stF l s && stF l t)))) := fun w' h => by
            have := iform_any l A c (s ++ t) D cd (by omega) (by simp; omega) HTX.out w' h.i.f.row h.rx
            rwa [stF_app] at this
          have HF2 := Lib.hid (fun (w' : World) (h : ItgX w A l c B C D s t (s ++ t) w') => iform_any l A c s B c2 (by omega) (by omega) HTX.out w' h.i.f.row h.i.rs)
          have HF3 := Lib.hid (fun (w' : World) (h : ItgX w A l c B C D s t (s ++ t) w') => iform_any l A c t C c3 (by omega) (by omega) HTX.out w' h.i.f.row h.i.rt)
          have HF4 : Hid (∀ (w' : World), ItgX w A l c B C D s t (s ++ t) w' → Calls Try.prog 14 #[.agg #[.slice A l.length c], .slice none 0 0] w' (Ans w' (.bool true))) := fun w' h => iform_any l A c [] none 0 (by omega) (by decide) HTX.out w' h.i.f.row (ItRow.nil _ _)
          have HG : Hid (∀ (w' : World), ItgS w A l c B C s t w' → Calls Try.prog 14 #[.agg #[.slice A l.length c], .slice B s.length c2] w' (Ans w' (.bool (stF l s)))) := fun w' h => iform_any l A c s B c2 (by omega) (by omega) HTX.out w' h.f.row h.rs
          have HTL : Hid (∀ a r, s = a :: r → stF l s = true → stF l r = true) := fun a r e h => by rw [e, stF_cons, Bool.and_eq_true] at h; exact h.2
          have hlz : (l.length : Int) ≤ 100 := by omega
          rw [List.length_append] at HF1
          generalize stF l t = ft at *
          obtain ⟨fs, hfs⟩ : ∃ fs, stF l s = fs := ⟨_, rfl⟩
          rw [hfs] at HF1 HF2 HG HTL
          clear hfs
          have hff : (ft != ft) = false := by simp
          cases fs with
          | false =>
            rw [Bool.false_and] at HF1
            go_upto_region 4 with (fail)
            refine wp_region_stable (S := (ItgX w A l c B C D s t (s ++ t))) (hSt := fun _ _ h hb => h.later hb) (plan := [[(4, none)], [(9, none)], [(41, some 0), (42, some 1)], [(4, none)], [(1, none)], [(44, some 3), (45, some 4)], [(46, some 5)], [(4, none)], [(2, none)], [(48, some 7), (49, some 8)], [(47, some 6), (50, some 9)], [(43, some 2), (51, some 10)], [(52, some 11)], [(4, none)], [(54, some 13)], [(55, some 14)], [(53, some 12), (56, some 15)]]) (by kernel_rfl) (by kernel_rfl) (by kernel_rfl) ?hS ?_
            rotate_left
            iterate 17 first
              | (refine chain_skip (by rfl) (by rfl) ?_)
              | (apply chain_want (by rfl)
                 · intro act wx hS hr
                   simp at hr
                   have e0 := hS.i.f.box.cell 0
                   simp at e0
                   go_simp
                   (try go_ints)
                   first
                     | ((with_reducible refine (HF1.out _ hS).mono ?_); rintro e w' ⟨rfl, hb⟩; exact Done.mk hb)
                     | ((with_reducible refine (HF2.out _ hS).mono ?_); rintro e w' ⟨rfl, hb⟩; exact Done.mk hb)
                     | ((with_reducible refine (HF3.out _ hS).mono ?_); rintro e w' ⟨rfl, hb⟩; exact Done.mk hb)
                     | ((with_reducible refine (HF4.out _ hS).mono ?_); rintro e w' ⟨rfl, hb⟩; exact Done.mk hb)
                     | exact Done.same
                )
            show ∀ w', _ → _
            intro wy hy
            simp [Act.put]
            case hS => exact HX.out
            have HS := Lib.hid hy.i
            clear hy HX HF1 HF2 HF3 HF4 hff
            by_cases hs0 : s.length = 0
            · have hz0 : ((s.length : Int) == 0) = true := by simp [hs0]
              clear hs0
              go_wp2
              go_ret
              exact ⟨rfl, HS.out.f.bel⟩
            · have hz0 : ((s.length : Int) == 0) = false := by rw [beq_eq_false_iff_ne]; omega
              have hspos : 0 < s.length := by omega
              obtain ⟨a, r, hsr⟩ : ∃ a r, s = a :: r := by
                cases s with
                | nil => simp at hs0
                | cons a r => exact ⟨a, r, rfl⟩
              have HSR := Lib.hid hsr
              clear hsr
              obtain ⟨b, o, hB, -, -⟩ := HS.out.rs 0 hspos
              subst hB
              clear hs0
              have hspz : (0 : Int) < (s.length : Int) := by omega
              have hs1 : (1 : Int) ≤ (s.length : Int) := by omega
              go_upto_region 8 with (fail)
              refine wp_region_stable (S := (ItgS w A l c (some ⟨b, o, none⟩) C s t)) (hSt := fun _ _ h hb => h.later hb) (plan := [[(4, none)], [(1, none)], [(61, some 0), (62, some 1)], [(63, some 2)], [(4, none)], [(1, none)], [(66, some 5)], [(65, some 4), (67, some 6)], [(68, some 7)], [(64, some 3), (69, some 8)]]) (by kernel_rfl) (by kernel_rfl) (by kernel_rfl) ?hS ?_
              rotate_left
              iterate 10 first
                | (refine chain_skip (by rfl) (by rfl) ?_)
                | (apply chain_want (by rfl)
                   · intro act wx hS hr
                     simp at hr
                     have e0 := hS.f.box.cell 0
                     simp at e0
                     go_simp
                     (try go_ints)
                     first
                       | ((with_reducible refine (HG.out _ hS).mono ?_); rintro e w' ⟨rfl, hb⟩; exact Done.mk hb)
                       | exact Done.same
                  )
              show ∀ w', _ → _
              intro wq hq
              simp [Act.put]
              case hS => exact HS.out
              have HS2 := Lib.hid hq
              clear hq HS HTL HG
              have HS := HS2
              clear HS2
              have e0 := HS.out.f.box.cell 0
              simp at e0
              have HLR : Hid (∀ x : Itm, (x :: r).length = s.length) := fun x => by rw [HSR.out]; rfl
              have hfz : (far : Int) ≤ 255 := by omega
              have hb3 := (Below.refl wq.heap.size wq).alloc (Nat.le_refl _) (.cells #[] 36)
              have HK3 := Lib.hid (Blk.new wq #[] 36)
              have HL3 := Lib.hid hb3.size
              have HR3 := Lib.hid ((HS.out.rs).later hb3)
              have HB3 := Lib.hid hb3
              clear hb3
              go_upto_region 11 with (at_builtin; refine wpList_append_freshI rfl _ _ rfl wq.heap.size wq.heap.size (Nat.le_refl _) HL3.out rfl HK3.out s (some ⟨b, o, none⟩) _ rfl HR3.out hsl ?_; intro v' w4 h1 h2; have HO4 := Lib.hid h1; have HB4 := Lib.hid (HB3.out.trans (h2.mono HL3.out)); clear h1 h2)
              obtain ⟨gx, cx, cur, rfl, hg, hblk, hcap, -, hsz, -⟩ := HO4.out.blk hspos
              obtain ⟨u0, hu0⟩ : ∃ u, cur[0]? = some u := ⟨_, Array.getElem?_eq_getElem (by omega)⟩
              obtain ⟨u1, hu1⟩ : ∃ u, cur[1]? = some u := ⟨_, Array.getElem?_eq_getElem (by omega)⟩
              obtain ⟨u2, hu2⟩ : ∃ u, cur[2]? = some u := ⟨_, Array.getElem?_eq_getElem (by omega)⟩
              obtain ⟨u3, hu3⟩ : ∃ u, cur[3]? = some u := ⟨_, Array.getElem?_eq_getElem (by omega)⟩
              have q0 := hblk.cell 0
              have q1 := hblk.cell 1
              have q2 := hblk.cell 2
              have q3 := hblk.cell 3
              rw [hu0] at q0
              rw [hu1] at q1
              rw [hu2] at q2
              rw [hu3] at q3
              have f0 := hblk.frozen 0
              have f1 := hblk.frozen 1
              have f2 := hblk.frozen 2
              have f3 := hblk.frozen 3
              have HGG := Lib.hid hg
              clear hu0 hu1 hu2 hu3 hblk hsz hcap HK3 HL3 HR3 HB3 hg
              have HX5 : Hid (ItgX w A l c (some ⟨b, o, none⟩) C (some ⟨gx, 0, none⟩) s t (⟨1, (l.length : Int) + (far : Int), 0, 0⟩ :: r) (put4 w4 gx ⟨1, (l.length : Int) + (far : Int), 0, 0⟩)) := ⟨HS.out.later (put4_below HB4.out HGG.out _), put_row HO4.out HSR.out _⟩
              have e0 := (HS.out.later HB4.out).f.box.cell 0
              simp at e0
              go_upto_region 12 with (fail)
              unfold put4 at HX5
              simp only at HX5
              generalize (((w4.setCell ⟨gx, 0, none⟩ (.int .i64 1)).setCell ⟨gx, 1, none⟩ (.int .i64 ((l.length : Int) + (far : Int)))).setCell ⟨gx, 2, none⟩ (.int .i64 0)).setCell ⟨gx, 3, none⟩ (.int .i64 0) = w5 at HX5 ⊢
              clear q0 q1 q2 q3 f0 f1 f2 f3 HO4 HB4 HGG e0 HS
              have hb3 := (Below.refl w5.heap.size w5).alloc (Nat.le_refl _) (.cells #[] 36)
              have HK3 := Lib.hid (Blk.new w5 #[] 36)
              have HL3 := Lib.hid hb3.size
              have HR3 := Lib.hid ((HX5.out.i.rs).later hb3)
              have HB3 := Lib.hid hb3
              clear hb3
              go_upto_region 13 with (at_builtin; refine wpList_append_freshI rfl _ _ rfl w5.heap.size w5.heap.size (Nat.le_refl _) HL3.out rfl HK3.out s (some ⟨b, o, none⟩) _ rfl HR3.out hsl ?_; intro v' w6 h1 h2; have HO4 := Lib.hid h1; have HB4 := Lib.hid (HB3.out.trans (h2.mono HL3.out)); clear h1 h2)
              obtain ⟨gy, cy, cur, rfl, hg, hblk, hcap, -, hsz, -⟩ := HO4.out.blk hspos
              obtain ⟨u0, hu0⟩ : ∃ u, cur[0]? = some u := ⟨_, Array.getElem?_eq_getElem (by omega)⟩
              obtain ⟨u1, hu1⟩ : ∃ u, cur[1]? = some u := ⟨_, Array.getElem?_eq_getElem (by omega)⟩
              obtain ⟨u2, hu2⟩ : ∃ u, cur[2]? = some u := ⟨_, Array.getElem?_eq_getElem (by omega)⟩
              obtain ⟨u3, hu3⟩ : ∃ u, cur[3]? = some u := ⟨_, Array.getElem?_eq_getElem (by omega)⟩
              have q0 := hblk.cell 0
              have q1 := hblk.cell 1
              have q2 := hblk.cell 2
              have q3 := hblk.cell 3
              rw [hu0] at q0
              rw [hu1] at q1
              rw [hu2] at q2
              rw [hu3] at q3
              have f0 := hblk.frozen 0
              have f1 := hblk.frozen 1
              have f2 := hblk.frozen 2
              have f3 := hblk.frozen 3
              have HGG := Lib.hid hg
              clear hu0 hu1 hu2 hu3 hblk hsz hcap HK3 HL3 HR3 HB3 hg
              have HX7 := Lib.hid (HX5.out.later (HB4.out.setCell (p := ⟨gy, 0, none⟩) HGG.out (.int .i64 (6 + (far : Int)))))
              have HY7 : Hid (ItRow (w6.setCell ⟨gy, 0, none⟩ (.int .i64 (6 + (far : Int)))) (some ⟨gy, 0, none⟩) (⟨6 + (far : Int), a.node, a.lo, a.hi⟩ :: r)) := put_kind HO4.out HSR.out _
              go_upto_region 14 with (fail)
              generalize w6.setCell ⟨gy, 0, none⟩ (.int .i64 (6 + (far : Int))) = w7 at HX7 HY7 ⊢
              clear q0 q1 q2 q3 f0 f1 f2 f3 HO4 HB4 HGG HX5
              have hb3 := (Below.refl w7.heap.size w7).alloc (Nat.le_refl _) (.cells #[] 36)
              have HK3 := Lib.hid (Blk.new w7 #[] 36)
              have HL3 := Lib.hid hb3.size
              have HR3 := Lib.hid ((HX7.out.i.rs).later hb3)
              have HB3 := Lib.hid hb3
              clear hb3
              go_upto_region 15 with (at_builtin; refine wpList_append_freshI rfl _ _ rfl w7.heap.size w7.heap.size (Nat.le_refl _) HL3.out rfl HK3.out s (some ⟨b, o, none⟩) _ rfl HR3.out hsl ?_; intro v' w8 h1 h2; have HO4 := Lib.hid h1; have HB4 := Lib.hid (HB3.out.trans (h2.mono HL3.out)); clear h1 h2)
              obtain ⟨gz, cz, cur, rfl, hg, hblk, hcap, -, hsz, -⟩ := HO4.out.blk hspos
              obtain ⟨u0, hu0⟩ : ∃ u, cur[0]? = some u := ⟨_, Array.getElem?_eq_getElem (by omega)⟩
              obtain ⟨u1, hu1⟩ : ∃ u, cur[1]? = some u := ⟨_, Array.getElem?_eq_getElem (by omega)⟩
              obtain ⟨u2, hu2⟩ : ∃ u, cur[2]? = some u := ⟨_, Array.getElem?_eq_getElem (by omega)⟩
              obtain ⟨u3, hu3⟩ : ∃ u, cur[3]? = some u := ⟨_, Array.getElem?_eq_getElem (by omega)⟩
              have q0 := hblk.cell 0
              have q1 := hblk.cell 1
              have q2 := hblk.cell 2
              have q3 := hblk.cell 3
              rw [hu0] at q0
              rw [hu1] at q1
              rw [hu2] at q2
              rw [hu3] at q3
              have f0 := hblk.frozen 0
              have f1 := hblk.frozen 1
              have f2 := hblk.frozen 2
              have f3 := hblk.frozen 3
              have HGG := Lib.hid hg
              clear hu0 hu1 hu2 hu3 hblk hsz hcap HK3 HL3 HR3 HB3 hg
              have HS9 : Hid (ItgY w A l c (some ⟨b, o, none⟩) C (some ⟨gx, 0, none⟩) (some ⟨gy, 0, none⟩) (some ⟨gz, 0, none⟩) s t (⟨1, (l.length : Int) + (far : Int), 0, 0⟩ :: r) (⟨6 + (far : Int), a.node, a.lo, a.hi⟩ :: r) (⟨5, 0, 65536 + (far : Int), 0⟩ :: r) (put4 w8 gz ⟨5, 0, 65536 + (far : Int), 0⟩)) := ⟨HX7.out.later (put4_below HB4.out HGG.out _), HY7.out.later (put4_below HB4.out HGG.out _), put_row HO4.out HSR.out _⟩
              go_upto_region 16 with (fail)
              unfold put4 at HS9
              simp only at HS9
              generalize (((w8.setCell ⟨gz, 0, none⟩ (.int .i64 5)).setCell ⟨gz, 1, none⟩ (.int .i64 0)).setCell ⟨gz, 2, none⟩ (.int .i64 (65536 + (far : Int)))).setCell ⟨gz, 3, none⟩ (.int .i64 0) = w9 at HS9 ⊢
              clear q0 q1 q2 q3 f0 f1 f2 f3 HO4 HB4 HGG HX7 HY7
              have FN1 : Hid (∀ (w' : World), ItgY w A l c (some ⟨b, o, none⟩) C (some ⟨gx, 0, none⟩) (some ⟨gy, 0, none⟩) (some ⟨gz, 0, none⟩) s t (⟨1, (l.length : Int) + (far : Int), 0, 0⟩ :: r) (⟨6 + (far : Int), a.node, a.lo, a.hi⟩ :: r) (⟨5, 0, 65536 + (far : Int), 0⟩ :: r) w' → Calls Try.prog 14 #[.agg #[.slice A l.length c], .slice (some ⟨gx, 0, none⟩) s.length cx] w' (Ans w' (.bool false))) := fun w' h => by
                have := iform_any l A c (⟨1, (l.length : Int) + (far : Int), 0, 0⟩ :: r) (some ⟨gx, 0, none⟩) cx (by omega) (by rw [HLR.out]; omega) HTX.out w' h.i.i.f.row h.i.rx
                rw [HLR.out, stF_cons, itF_far, Bool.false_and] at this; exact this
              have FN2 : Hid (∀ (w' : World), ItgY w A l c (some ⟨b, o, none⟩) C (some ⟨gx, 0, none⟩) (some ⟨gy, 0, none⟩) (some ⟨gz, 0, none⟩) s t (⟨1, (l.length : Int) + (far : Int), 0, 0⟩ :: r) (⟨6 + (far : Int), a.node, a.lo, a.hi⟩ :: r) (⟨5, 0, 65536 + (far : Int), 0⟩ :: r) w' → Calls Try.prog 14 #[.agg #[.slice A l.length c], .slice (some ⟨gy, 0, none⟩) s.length cy] w' (Ans w' (.bool false))) := fun w' h => by
                have := iform_any l A c (⟨6 + (far : Int), a.node, a.lo, a.hi⟩ :: r) (some ⟨gy, 0, none⟩) cy (by omega) (by rw [HLR.out]; omega) HTX.out w' h.i.i.f.row h.ry
                rw [HLR.out, stF_cons, itF_kind (f := far) rfl, Bool.false_and] at this; exact this
              have FN3 : Hid (∀ (w' : World), ItgY w A l c (some ⟨b, o, none⟩) C (some ⟨gx, 0, none⟩) (some ⟨gy, 0, none⟩) (some ⟨gz, 0, none⟩) s t (⟨1, (l.length : Int) + (far : Int), 0, 0⟩ :: r) (⟨6 + (far : Int), a.node, a.lo, a.hi⟩ :: r) (⟨5, 0, 65536 + (far : Int), 0⟩ :: r) w' → Calls Try.prog 14 #[.agg #[.slice A l.length c], .slice (some ⟨gz, 0, none⟩) s.length cz] w' (Ans w' (.bool false))) := fun w' h => by
                have := iform_any l A c (⟨5, 0, 65536 + (far : Int), 0⟩ :: r) (some ⟨gz, 0, none⟩) cz (by omega) (by rw [HLR.out]; omega) HTX.out w' h.i.i.f.row h.rz
                rw [HLR.out, stF_cons, itF_lo, Bool.false_and] at this; exact this
              have HS := HS9
              clear HS9
              have e0 := HS.out.i.i.f.box.cell 0
              simp at e0
              go_wp2_with fail
              refine ((FN1.out _ HS.out)).mono ?_; rintro e w2 ⟨rfl, hb⟩
              have HS2 := Lib.hid (HS.out.later hb)
              clear hb e0 HS
              have HS := HS2
              clear HS2
              have e0 := HS.out.i.i.f.box.cell 0
              simp at e0
              go_wp2_with fail
              refine ((FN2.out _ HS.out)).mono ?_; rintro e w2 ⟨rfl, hb⟩
              have HS2 := Lib.hid (HS.out.later hb)
              clear hb e0 HS
              have HS := HS2
              clear HS2
              have e0 := HS.out.i.i.f.box.cell 0
              simp at e0
              go_wp2_with fail
              refine ((FN3.out _ HS.out)).mono ?_; rintro e w2 ⟨rfl, hb⟩
              have HS2 := Lib.hid (HS.out.later hb)
              clear hb e0 HS
              have HS := HS2
              clear HS2
              have e0 := HS.out.i.i.f.box.cell 0
              simp at e0
              go_wp2
              go_ret
              exact ⟨rfl, HS.out.i.i.f.bel⟩
          | true =>
            rw [Bool.true_and] at HF1
            go_upto_region 4 with (fail)
            refine wp_region_stable (S := (ItgX w A l c B C D s t (s ++ t))) (hSt := fun _ _ h hb => h.later hb) (plan := [[(4, none)], [(9, none)], [(41, some 0), (42, some 1)], [(4, none)], [(1, none)], [(44, some 3), (45, some 4)], [(46, some 5)], [(4, none)], [(2, none)], [(48, some 7), (49, some 8)], [(47, some 6), (50, some 9)], [(43, some 2), (51, some 10)], [(52, some 11)], [(4, none)], [(54, some 13)], [(55, some 14)], [(53, some 12), (56, some 15)]]) (by kernel_rfl) (by kernel_rfl) (by kernel_rfl) ?hS ?_
            rotate_left
            iterate 17 first
              | (refine chain_skip (by rfl) (by rfl) ?_)
              | (apply chain_want (by rfl)
                 · intro act wx hS hr
                   simp at hr
                   have e0 := hS.i.f.box.cell 0
                   simp at e0
                   go_simp
                   (try go_ints)
                   first
                     | ((with_reducible refine (HF1.out _ hS).mono ?_); rintro e w' ⟨rfl, hb⟩; exact Done.mk hb)
                     | ((with_reducible refine (HF2.out _ hS).mono ?_); rintro e w' ⟨rfl, hb⟩; exact Done.mk hb)
                     | ((with_reducible refine (HF3.out _ hS).mono ?_); rintro e w' ⟨rfl, hb⟩; exact Done.mk hb)
                     | ((with_reducible refine (HF4.out _ hS).mono ?_); rintro e w' ⟨rfl, hb⟩; exact Done.mk hb)
                     | exact Done.same
                )
            show ∀ w', _ → _
            intro wy hy
            simp [Act.put]
            case hS => exact HX.out
            have HS := Lib.hid hy.i
            clear hy HX HF1 HF2 HF3 HF4 hff
            by_cases hs0 : s.length = 0
            · have hz0 : ((s.length : Int) == 0) = true := by simp [hs0]
              clear hs0
              go_wp2
              go_ret
              exact ⟨rfl, HS.out.f.bel⟩
            · have hz0 : ((s.length : Int) == 0) = false := by rw [beq_eq_false_iff_ne]; omega
              have hspos : 0 < s.length := by omega
              obtain ⟨a, r, hsr⟩ : ∃ a r, s = a :: r := by
                cases s with
                | nil => simp at hs0
                | cons a r => exact ⟨a, r, rfl⟩
              have HSR := Lib.hid hsr
              clear hsr
              obtain ⟨b, o, hB, -, -⟩ := HS.out.rs 0 hspos
              subst hB
              clear hs0
              have hspz : (0 : Int) < (s.length : Int) := by omega
              have hs1 : (1 : Int) ≤ (s.length : Int) := by omega
              go_upto_region 8 with (fail)
              have hrl : r.length = s.length - 1 := by rw [HSR.out]; simp
              have hft : stF l r = true := HTL.out a r HSR.out rfl
              by_cases hcap1 : c2 = 1
              · subst hcap1
                have HFT : Hid (∀ (w' : World), ItgS w A l c (some ⟨b, o, none⟩) C s t w' → Calls Try.prog 14 #[.agg #[.slice A l.length c], .slice (some ⟨b, o, none⟩) 0 0] w' (Ans w' (.bool true))) := fun w' h => by
                  have h0 : r = [] := List.length_eq_zero_iff.1 (by omega)
                  have := iform_any l A c r (some ⟨b, o, none⟩) 0 (by omega) (by omega) HTX.out w' h.f.row (by rw [h0]; exact ItRow.nil _ _)
                  rw [hft, h0] at this; exact this
                clear hrl hft
                refine wp_region_stable (S := (ItgS w A l c (some ⟨b, o, none⟩) C s t)) (hSt := fun _ _ h hb => h.later hb) (plan := [[(4, none)], [(1, none)], [(61, some 0), (62, some 1)], [(63, some 2)], [(4, none)], [(1, none)], [(66, some 5)], [(65, some 4), (67, some 6)], [(68, some 7)], [(64, some 3), (69, some 8)]]) (by kernel_rfl) (by kernel_rfl) (by kernel_rfl) ?hS ?_
                rotate_left
                iterate 10 first
                  | (refine chain_skip (by rfl) (by rfl) ?_)
                  | (apply chain_want (by rfl)
                     · intro act wx hS hr
                       simp at hr
                       have e0 := hS.f.box.cell 0
                       simp at e0
                       go_simp
                       (try go_ints)
                       first
                         | ((with_reducible refine (HG.out _ hS).mono ?_); rintro e w' ⟨rfl, hb⟩; exact Done.mk hb)
                         | ((with_reducible refine (HFT.out _ hS).mono ?_); rintro e w' ⟨rfl, hb⟩; exact Done.mk hb)
                         | exact Done.same
                    )
                show ∀ w', _ → _
                intro wq hq
                simp [Act.put]
                case hS => exact HS.out
                have HS2 := Lib.hid hq
                clear hq HS HTL HG HFT
                have HS := HS2
                clear HS2
                have e0 := HS.out.f.box.cell 0
                simp at e0
                have HLR : Hid (∀ x : Itm, (x :: r).length = s.length) := fun x => by rw [HSR.out]; rfl
                have hfz : (far : Int) ≤ 255 := by omega
                have hb3 := (Below.refl wq.heap.size wq).alloc (Nat.le_refl _) (.cells #[] 36)
                have HK3 := Lib.hid (Blk.new wq #[] 36)
                have HL3 := Lib.hid hb3.size
                have HR3 := Lib.hid ((HS.out.rs).later hb3)
                have HB3 := Lib.hid hb3
                clear hb3
                go_upto_region 11 with (at_builtin; refine wpList_append_freshI rfl _ _ rfl wq.heap.size wq.heap.size (Nat.le_refl _) HL3.out rfl HK3.out s (some ⟨b, o, none⟩) _ rfl HR3.out hsl ?_; intro v' w4 h1 h2; have HO4 := Lib.hid h1; have HB4 := Lib.hid (HB3.out.trans (h2.mono HL3.out)); clear h1 h2)
                obtain ⟨gx, cx, cur, rfl, hg, hblk, hcap, -, hsz, -⟩ := HO4.out.blk hspos
                obtain ⟨u0, hu0⟩ : ∃ u, cur[0]? = some u := ⟨_, Array.getElem?_eq_getElem (by omega)⟩
                obtain ⟨u1, hu1⟩ : ∃ u, cur[1]? = some u := ⟨_, Array.getElem?_eq_getElem (by omega)⟩
                obtain ⟨u2, hu2⟩ : ∃ u, cur[2]? = some u := ⟨_, Array.getElem?_eq_getElem (by omega)⟩
                obtain ⟨u3, hu3⟩ : ∃ u, cur[3]? = some u := ⟨_, Array.getElem?_eq_getElem (by omega)⟩
                have q0 := hblk.cell 0
                have q1 := hblk.cell 1
                have q2 := hblk.cell 2
                have q3 := hblk.cell 3
                rw [hu0] at q0
                rw [hu1] at q1
                rw [hu2] at q2
                rw [hu3] at q3
                have f0 := hblk.frozen 0
                have f1 := hblk.frozen 1
                have f2 := hblk.frozen 2
                have f3 := hblk.frozen 3
                have HGG := Lib.hid hg
                clear hu0 hu1 hu2 hu3 hblk hsz hcap HK3 HL3 HR3 HB3 hg
                have HX5 : Hid (ItgX w A l c (some ⟨b, o, none⟩) C (some ⟨gx, 0, none⟩) s t (⟨1, (l.length : Int) + (far : Int), 0, 0⟩ :: r) (put4 w4 gx ⟨1, (l.length : Int) + (far : Int), 0, 0⟩)) := ⟨HS.out.later (put4_below HB4.out HGG.out _), put_row HO4.out HSR.out _⟩
                have e0 := (HS.out.later HB4.out).f.box.cell 0
                simp at e0
                go_upto_region 12 with (fail)
                unfold put4 at HX5
                simp only at HX5
                generalize (((w4.setCell ⟨gx, 0, none⟩ (.int .i64 1)).setCell ⟨gx, 1, none⟩ (.int .i64 ((l.length : Int) + (far : Int)))).setCell ⟨gx, 2, none⟩ (.int .i64 0)).setCell ⟨gx, 3, none⟩ (.int .i64 0) = w5 at HX5 ⊢
                clear q0 q1 q2 q3 f0 f1 f2 f3 HO4 HB4 HGG e0 HS
                have hb3 := (Below.refl w5.heap.size w5).alloc (Nat.le_refl _) (.cells #[] 36)
                have HK3 := Lib.hid (Blk.new w5 #[] 36)
                have HL3 := Lib.hid hb3.size
                have HR3 := Lib.hid ((HX5.out.i.rs).later hb3)
                have HB3 := Lib.hid hb3
                clear hb3
                go_upto_region 13 with (at_builtin; refine wpList_append_freshI rfl _ _ rfl w5.heap.size w5.heap.size (Nat.le_refl _) HL3.out rfl HK3.out s (some ⟨b, o, none⟩) _ rfl HR3.out hsl ?_; intro v' w6 h1 h2; have HO4 := Lib.hid h1; have HB4 := Lib.hid (HB3.out.trans (h2.mono HL3.out)); clear h1 h2)
                obtain ⟨gy, cy, cur, rfl, hg, hblk, hcap, -, hsz, -⟩ := HO4.out.blk hspos
                obtain ⟨u0, hu0⟩ : ∃ u, cur[0]? = some u := ⟨_, Array.getElem?_eq_getElem (by omega)⟩
                obtain ⟨u1, hu1⟩ : ∃ u, cur[1]? = some u := ⟨_, Array.getElem?_eq_getElem (by omega)⟩
                obtain ⟨u2, hu2⟩ : ∃ u, cur[2]? = some u := ⟨_, Array.getElem?_eq_getElem (by omega)⟩
                obtain ⟨u3, hu3⟩ : ∃ u, cur[3]? = some u := ⟨_, Array.getElem?_eq_getElem (by omega)⟩
                have q0 := hblk.cell 0
                have q1 := hblk.cell 1
                have q2 := hblk.cell 2
                have q3 := hblk.cell 3
                rw [hu0] at q0
                rw [hu1] at q1
                rw [hu2] at q2
                rw [hu3] at q3
                have f0 := hblk.frozen 0
                have f1 := hblk.frozen 1
                have f2 := hblk.frozen 2
                have f3 := hblk.frozen 3
                have HGG := Lib.hid hg
                clear hu0 hu1 hu2 hu3 hblk hsz hcap HK3 HL3 HR3 HB3 hg
                have HX7 := Lib.hid (HX5.out.later (HB4.out.setCell (p := ⟨gy, 0, none⟩) HGG.out (.int .i64 (6 + (far : Int)))))
                have HY7 : Hid (ItRow (w6.setCell ⟨gy, 0, none⟩ (.int .i64 (6 + (far : Int)))) (some ⟨gy, 0, none⟩) (⟨6 + (far : Int), a.node, a.lo, a.hi⟩ :: r)) := put_kind HO4.out HSR.out _
                go_upto_region 14 with (fail)
                generalize w6.setCell ⟨gy, 0, none⟩ (.int .i64 (6 + (far : Int))) = w7 at HX7 HY7 ⊢
                clear q0 q1 q2 q3 f0 f1 f2 f3 HO4 HB4 HGG HX5
                have hb3 := (Below.refl w7.heap.size w7).alloc (Nat.le_refl _) (.cells #[] 36)
                have HK3 := Lib.hid (Blk.new w7 #[] 36)
                have HL3 := Lib.hid hb3.size
                have HR3 := Lib.hid ((HX7.out.i.rs).later hb3)
                have HB3 := Lib.hid hb3
                clear hb3
                go_upto_region 15 with (at_builtin; refine wpList_append_freshI rfl _ _ rfl w7.heap.size w7.heap.size (Nat.le_refl _) HL3.out rfl HK3.out s (some ⟨b, o, none⟩) _ rfl HR3.out hsl ?_; intro v' w8 h1 h2; have HO4 := Lib.hid h1; have HB4 := Lib.hid (HB3.out.trans (h2.mono HL3.out)); clear h1 h2)
                obtain ⟨gz, cz, cur, rfl, hg, hblk, hcap, -, hsz, -⟩ := HO4.out.blk hspos
                obtain ⟨u0, hu0⟩ : ∃ u, cur[0]? = some u := ⟨_, Array.getElem?_eq_getElem (by omega)⟩
                obtain ⟨u1, hu1⟩ : ∃ u, cur[1]? = some u := ⟨_, Array.getElem?_eq_getElem (by omega)⟩
                obtain ⟨u2, hu2⟩ : ∃ u, cur[2]? = some u := ⟨_, Array.getElem?_eq_getElem (by omega)⟩
                obtain ⟨u3, hu3⟩ : ∃ u, cur[3]? = some u := ⟨_, Array.getElem?_eq_getElem (by omega)⟩
                have q0 := hblk.cell 0
                have q1 := hblk.cell 1
                have q2 := hblk.cell 2
                have q3 := hblk.cell 3
                rw [hu0] at q0
                rw [hu1] at q1
                rw [hu2] at q2
                rw [hu3] at q3
                have f0 := hblk.frozen 0
                have f1 := hblk.frozen 1
                have f2 := hblk.frozen 2
                have f3 := hblk.frozen 3
                have HGG := Lib.hid hg
                clear hu0 hu1 hu2 hu3 hblk hsz hcap HK3 HL3 HR3 HB3 hg
                have HS9 : Hid (ItgY w A l c (some ⟨b, o, none⟩) C (some ⟨gx, 0, none⟩) (some ⟨gy, 0, none⟩) (some ⟨gz, 0, none⟩) s t (⟨1, (l.length : Int) + (far : Int), 0, 0⟩ :: r) (⟨6 + (far : Int), a.node, a.lo, a.hi⟩ :: r) (⟨5, 0, 65536 + (far : Int), 0⟩ :: r) (put4 w8 gz ⟨5, 0, 65536 + (far : Int), 0⟩)) := ⟨HX7.out.later (put4_below HB4.out HGG.out _), HY7.out.later (put4_below HB4.out HGG.out _), put_row HO4.out HSR.out _⟩
                go_upto_region 16 with (fail)
                unfold put4 at HS9
                simp only at HS9
                generalize (((w8.setCell ⟨gz, 0, none⟩ (.int .i64 5)).setCell ⟨gz, 1, none⟩ (.int .i64 0)).setCell ⟨gz, 2, none⟩ (.int .i64 (65536 + (far : Int)))).setCell ⟨gz, 3, none⟩ (.int .i64 0) = w9 at HS9 ⊢
                clear q0 q1 q2 q3 f0 f1 f2 f3 HO4 HB4 HGG HX7 HY7
                have FN1 : Hid (∀ (w' : World), ItgY w A l c (some ⟨b, o, none⟩) C (some ⟨gx, 0, none⟩) (some ⟨gy, 0, none⟩) (some ⟨gz, 0, none⟩) s t (⟨1, (l.length : Int) + (far : Int), 0, 0⟩ :: r) (⟨6 + (far : Int), a.node, a.lo, a.hi⟩ :: r) (⟨5, 0, 65536 + (far : Int), 0⟩ :: r) w' → Calls Try.prog 14 #[.agg #[.slice A l.length c], .slice (some ⟨gx, 0, none⟩) s.length cx] w' (Ans w' (.bool false))) := fun w' h => by
                  have := iform_any l A c (⟨1, (l.length : Int) + (far : Int), 0, 0⟩ :: r) (some ⟨gx, 0, none⟩) cx (by omega) (by rw [HLR.out]; omega) HTX.out w' h.i.i.f.row h.i.rx
                  rw [HLR.out, stF_cons, itF_far, Bool.false_and] at this; exact this
                have FN2 : Hid (∀ (w' : World), ItgY w A l c (some ⟨b, o, none⟩) C (some ⟨gx, 0, none⟩) (some ⟨gy, 0, none⟩) (some ⟨gz, 0, none⟩) s t (⟨1, (l.length : Int) + (far : Int), 0, 0⟩ :: r) (⟨6 + (far : Int), a.node, a.lo, a.hi⟩ :: r) (⟨5, 0, 65536 + (far : Int), 0⟩ :: r) w' → Calls Try.prog 14 #[.agg #[.slice A l.length c], .slice (some ⟨gy, 0, none⟩) s.length cy] w' (Ans w' (.bool false))) := fun w' h => by
                  have := iform_any l A c (⟨6 + (far : Int), a.node, a.lo, a.hi⟩ :: r) (some ⟨gy, 0, none⟩) cy (by omega) (by rw [HLR.out]; omega) HTX.out w' h.i.i.f.row h.ry
                  rw [HLR.out, stF_cons, itF_kind (f := far) rfl, Bool.false_and] at this; exact this
                have FN3 : Hid (∀ (w' : World), ItgY w A l c (some ⟨b, o, none⟩) C (some ⟨gx, 0, none⟩) (some ⟨gy, 0, none⟩) (some ⟨gz, 0, none⟩) s t (⟨1, (l.length : Int) + (far : Int), 0, 0⟩ :: r) (⟨6 + (far : Int), a.node, a.lo, a.hi⟩ :: r) (⟨5, 0, 65536 + (far : Int), 0⟩ :: r) w' → Calls Try.prog 14 #[.agg #[.slice A l.length c], .slice (some ⟨gz, 0, none⟩) s.length cz] w' (Ans w' (.bool false))) := fun w' h => by
                  have := iform_any l A c (⟨5, 0, 65536 + (far : Int), 0⟩ :: r) (some ⟨gz, 0, none⟩) cz (by omega) (by rw [HLR.out]; omega) HTX.out w' h.i.i.f.row h.rz
                  rw [HLR.out, stF_cons, itF_lo, Bool.false_and] at this; exact this
                have HS := HS9
                clear HS9
                have e0 := HS.out.i.i.f.box.cell 0
                simp at e0
                go_wp2_with fail
                refine ((FN1.out _ HS.out)).mono ?_; rintro e w2 ⟨rfl, hb⟩
                have HS2 := Lib.hid (HS.out.later hb)
                clear hb e0 HS
                have HS := HS2
                clear HS2
                have e0 := HS.out.i.i.f.box.cell 0
                simp at e0
                go_wp2_with fail
                refine ((FN2.out _ HS.out)).mono ?_; rintro e w2 ⟨rfl, hb⟩
                have HS2 := Lib.hid (HS.out.later hb)
                clear hb e0 HS
                have HS := HS2
                clear HS2
                have e0 := HS.out.i.i.f.box.cell 0
                simp at e0
                go_wp2_with fail
                refine ((FN3.out _ HS.out)).mono ?_; rintro e w2 ⟨rfl, hb⟩
                have HS2 := Lib.hid (HS.out.later hb)
                clear hb e0 HS
                have HS := HS2
                clear HS2
                have e0 := HS.out.i.i.f.box.cell 0
                simp at e0
                go_wp2
                go_ret
                exact ⟨rfl, HS.out.i.i.f.bel⟩
              · have HFT : Hid (∀ (w' : World), ItgS w A l c (some ⟨b, o, none⟩) C s t w' → Calls Try.prog 14 #[.agg #[.slice A l.length c], .slice (some ⟨b, o + 4, none⟩) (s.length - 1) (c2 - 1)] w' (Ans w' (.bool true))) := fun w' h => by
                  have := iform_any l A c r (some ⟨b, o + 4, none⟩) (c2 - 1) (by omega) (by omega) HTX.out w' h.f.row (by have := h.rs; rw [HSR.out] at this; exact this.tl)
                  rwa [hrl, hft] at this
                clear hrl hft
                refine wp_region_stable (S := (ItgS w A l c (some ⟨b, o, none⟩) C s t)) (hSt := fun _ _ h hb => h.later hb) (plan := [[(4, none)], [(1, none)], [(61, some 0), (62, some 1)], [(63, some 2)], [(4, none)], [(1, none)], [(66, some 5)], [(65, some 4), (67, some 6)], [(68, some 7)], [(64, some 3), (69, some 8)]]) (by kernel_rfl) (by kernel_rfl) (by kernel_rfl) ?hS ?_
                rotate_left
                iterate 10 first
                  | (refine chain_skip (by rfl) (by rfl) ?_)
                  | (apply chain_want (by rfl)
                     · intro act wx hS hr
                       simp at hr
                       have e0 := hS.f.box.cell 0
                       simp at e0
                       go_simp
                       (try go_ints)
                       first
                         | ((with_reducible refine (HG.out _ hS).mono ?_); rintro e w' ⟨rfl, hb⟩; exact Done.mk hb)
                         | ((with_reducible refine (HFT.out _ hS).mono ?_); rintro e w' ⟨rfl, hb⟩; exact Done.mk hb)
                         | exact Done.same
                    )
                show ∀ w', _ → _
                intro wq hq
                simp [Act.put]
                case hS => exact HS.out
                have HS2 := Lib.hid hq
                clear hq HS HTL HG HFT
                have HS := HS2
                clear HS2
                have e0 := HS.out.f.box.cell 0
                simp at e0
                have HLR : Hid (∀ x : Itm, (x :: r).length = s.length) := fun x => by rw [HSR.out]; rfl
                have hfz : (far : Int) ≤ 255 := by omega
                have hb3 := (Below.refl wq.heap.size wq).alloc (Nat.le_refl _) (.cells #[] 36)
                have HK3 := Lib.hid (Blk.new wq #[] 36)
                have HL3 := Lib.hid hb3.size
                have HR3 := Lib.hid ((HS.out.rs).later hb3)
                have HB3 := Lib.hid hb3
                clear hb3
                go_upto_region 11 with (at_builtin; refine wpList_append_freshI rfl _ _ rfl wq.heap.size wq.heap.size (Nat.le_refl _) HL3.out rfl HK3.out s (some ⟨b, o, none⟩) _ rfl HR3.out hsl ?_; intro v' w4 h1 h2; have HO4 := Lib.hid h1; have HB4 := Lib.hid (HB3.out.trans (h2.mono HL3.out)); clear h1 h2)
                obtain ⟨gx, cx, cur, rfl, hg, hblk, hcap, -, hsz, -⟩ := HO4.out.blk hspos
                obtain ⟨u0, hu0⟩ : ∃ u, cur[0]? = some u := ⟨_, Array.getElem?_eq_getElem (by omega)⟩
                obtain ⟨u1, hu1⟩ : ∃ u, cur[1]? = some u := ⟨_, Array.getElem?_eq_getElem (by omega)⟩
                obtain ⟨u2, hu2⟩ : ∃ u, cur[2]? = some u := ⟨_, Array.getElem?_eq_getElem (by omega)⟩
                obtain ⟨u3, hu3⟩ : ∃ u, cur[3]? = some u := ⟨_, Array.getElem?_eq_getElem (by omega)⟩
                have q0 := hblk.cell 0
                have q1 := hblk.cell 1
                have q2 := hblk.cell 2
                have q3 := hblk.cell 3
                rw [hu0] at q0
                rw [hu1] at q1
                rw [hu2] at q2
                rw [hu3] at q3
                have f0 := hblk.frozen 0
                have f1 := hblk.frozen 1
                have f2 := hblk.frozen 2
                have f3 := hblk.frozen 3
                have HGG := Lib.hid hg
                clear hu0 hu1 hu2 hu3 hblk hsz hcap HK3 HL3 HR3 HB3 hg
                have HX5 : Hid (ItgX w A l c (some ⟨b, o, none⟩) C (some ⟨gx, 0, none⟩) s t (⟨1, (l.length : Int) + (far : Int), 0, 0⟩ :: r) (put4 w4 gx ⟨1, (l.length : Int) + (far : Int), 0, 0⟩)) := ⟨HS.out.later (put4_below HB4.out HGG.out _), put_row HO4.out HSR.out _⟩
                have e0 := (HS.out.later HB4.out).f.box.cell 0
                simp at e0
                go_upto_region 12 with (fail)
                unfold put4 at HX5
                simp only at HX5
                generalize (((w4.setCell ⟨gx, 0, none⟩ (.int .i64 1)).setCell ⟨gx, 1, none⟩ (.int .i64 ((l.length : Int) + (far : Int)))).setCell ⟨gx, 2, none⟩ (.int .i64 0)).setCell ⟨gx, 3, none⟩ (.int .i64 0) = w5 at HX5 ⊢
                clear q0 q1 q2 q3 f0 f1 f2 f3 HO4 HB4 HGG e0 HS
                have hb3 := (Below.refl w5.heap.size w5).alloc (Nat.le_refl _) (.cells #[] 36)
                have HK3 := Lib.hid (Blk.new w5 #[] 36)
                have HL3 := Lib.hid hb3.size
                have HR3 := Lib.hid ((HX5.out.i.rs).later hb3)
                have HB3 := Lib.hid hb3
                clear hb3
                go_upto_region 13 with (at_builtin; refine wpList_append_freshI rfl _ _ rfl w5.heap.size w5.heap.size (Nat.le_refl _) HL3.out rfl HK3.out s (some ⟨b, o, none⟩) _ rfl HR3.out hsl ?_; intro v' w6 h1 h2; have HO4 := Lib.hid h1; have HB4 := Lib.hid (HB3.out.trans (h2.mono HL3.out)); clear h1 h2)
                obtain ⟨gy, cy, cur, rfl, hg, hblk, hcap, -, hsz, -⟩ := HO4.out.blk hspos
                obtain ⟨u0, hu0⟩ : ∃ u, cur[0]? = some u := ⟨_, Array.getElem?_eq_getElem (by omega)⟩
                obtain ⟨u1, hu1⟩ : ∃ u, cur[1]? = some u := ⟨_, Array.getElem?_eq_getElem (by omega)⟩
                obtain ⟨u2, hu2⟩ : ∃ u, cur[2]? = some u := ⟨_, Array.getElem?_eq_getElem (by omega)⟩
                obtain ⟨u3, hu3⟩ : ∃ u, cur[3]? = some u := ⟨_, Array.getElem?_eq_getElem (by omega)⟩
                have q0 := hblk.cell 0
                have q1 := hblk.cell 1
                have q2 := hblk.cell 2
                have q3 := hblk.cell 3
                rw [hu0] at q0
                rw [hu1] at q1
                rw [hu2] at q2
                rw [hu3] at q3
                have f0 := hblk.frozen 0
                have f1 := hblk.frozen 1
                have f2 := hblk.frozen 2
                have f3 := hblk.frozen 3
                have HGG := Lib.hid hg
                clear hu0 hu1 hu2 hu3 hblk hsz hcap HK3 HL3 HR3 HB3 hg
                have HX7 := Lib.hid (HX5.out.later (HB4.out.setCell (p := ⟨gy, 0, none⟩) HGG.out (.int .i64 (6 + (far : Int)))))
                have HY7 : Hid (ItRow (w6.setCell ⟨gy, 0, none⟩ (.int .i64 (6 + (far : Int)))) (some ⟨gy, 0, none⟩) (⟨6 + (far : Int), a.node, a.lo, a.hi⟩ :: r)) := put_kind HO4.out HSR.out _
                go_upto_region 14 with (fail)
                generalize w6.setCell ⟨gy, 0, none⟩ (.int .i64 (6 + (far : Int))) = w7 at HX7 HY7 ⊢
                clear q0 q1 q2 q3 f0 f1 f2 f3 HO4 HB4 HGG HX5
                have hb3 := (Below.refl w7.heap.size w7).alloc (Nat.le_refl _) (.cells #[] 36)
                have HK3 := Lib.hid (Blk.new w7 #[] 36)
                have HL3 := Lib.hid hb3.size
                have HR3 := Lib.hid ((HX7.out.i.rs).later hb3)
                have HB3 := Lib.hid hb3
                clear hb3
                go_upto_region 15 with (at_builtin; refine wpList_append_freshI rfl _ _ rfl w7.heap.size w7.heap.size (Nat.le_refl _) HL3.out rfl HK3.out s (some ⟨b, o, none⟩) _ rfl HR3.out hsl ?_; intro v' w8 h1 h2; have HO4 := Lib.hid h1; have HB4 := Lib.hid (HB3.out.trans (h2.mono HL3.out)); clear h1 h2)
                obtain ⟨gz, cz, cur, rfl, hg, hblk, hcap, -, hsz, -⟩ := HO4.out.blk hspos
                obtain ⟨u0, hu0⟩ : ∃ u, cur[0]? = some u := ⟨_, Array.getElem?_eq_getElem (by omega)⟩
                obtain ⟨u1, hu1⟩ : ∃ u, cur[1]? = some u := ⟨_, Array.getElem?_eq_getElem (by omega)⟩
                obtain ⟨u2, hu2⟩ : ∃ u, cur[2]? = some u := ⟨_, Array.getElem?_eq_getElem (by omega)⟩
                obtain ⟨u3, hu3⟩ : ∃ u, cur[3]? = some u := ⟨_, Array.getElem?_eq_getElem (by omega)⟩
                have q0 := hblk.cell 0
                have q1 := hblk.cell 1
                have q2 := hblk.cell 2
                have q3 := hblk.cell 3
                rw [hu0] at q0
                rw [hu1] at q1
                rw [hu2] at q2
                rw [hu3] at q3
                have f0 := hblk.frozen 0
                have f1 := hblk.frozen 1
                have f2 := hblk.frozen 2
                have f3 := hblk.frozen 3
                have HGG := Lib.hid hg
                clear hu0 hu1 hu2 hu3 hblk hsz hcap HK3 HL3 HR3 HB3 hg
                have HS9 : Hid (ItgY w A l c (some ⟨b, o, none⟩) C (some ⟨gx, 0, none⟩) (some ⟨gy, 0, none⟩) (some ⟨gz, 0, none⟩) s t (⟨1, (l.length : Int) + (far : Int), 0, 0⟩ :: r) (⟨6 + (far : Int), a.node, a.lo, a.hi⟩ :: r) (⟨5, 0, 65536 + (far : Int), 0⟩ :: r) (put4 w8 gz ⟨5, 0, 65536 + (far : Int), 0⟩)) := ⟨HX7.out.later (put4_below HB4.out HGG.out _), HY7.out.later (put4_below HB4.out HGG.out _), put_row HO4.out HSR.out _⟩
                go_upto_region 16 with (fail)
                unfold put4 at HS9
                simp only at HS9
                generalize (((w8.setCell ⟨gz, 0, none⟩ (.int .i64 5)).setCell ⟨gz, 1, none⟩ (.int .i64 0)).setCell ⟨gz, 2, none⟩ (.int .i64 (65536 + (far : Int)))).setCell ⟨gz, 3, none⟩ (.int .i64 0) = w9 at HS9 ⊢
                clear q0 q1 q2 q3 f0 f1 f2 f3 HO4 HB4 HGG HX7 HY7
                have FN1 : Hid (∀ (w' : World), ItgY w A l c (some ⟨b, o, none⟩) C (some ⟨gx, 0, none⟩) (some ⟨gy, 0, none⟩) (some ⟨gz, 0, none⟩) s t (⟨1, (l.length : Int) + (far : Int), 0, 0⟩ :: r) (⟨6 + (far : Int), a.node, a.lo, a.hi⟩ :: r) (⟨5, 0, 65536 + (far : Int), 0⟩ :: r) w' → Calls Try.prog 14 #[.agg #[.slice A l.length c], .slice (some ⟨gx, 0, none⟩) s.length cx] w' (Ans w' (.bool false))) := fun w' h => by
                  have := iform_any l A c (⟨1, (l.length : Int) + (far : Int), 0, 0⟩ :: r) (some ⟨gx, 0, none⟩) cx (by omega) (by rw [HLR.out]; omega) HTX.out w' h.i.i.f.row h.i.rx
                  rw [HLR.out, stF_cons, itF_far, Bool.false_and] at this; exact this
                have FN2 : Hid (∀ (w' : World), ItgY w A l c (some ⟨b, o, none⟩) C (some ⟨gx, 0, none⟩) (some ⟨gy, 0, none⟩) (some ⟨gz, 0, none⟩) s t (⟨1, (l.length : Int) + (far : Int), 0, 0⟩ :: r) (⟨6 + (far : Int), a.node, a.lo, a.hi⟩ :: r) (⟨5, 0, 65536 + (far : Int), 0⟩ :: r) w' → Calls Try.prog 14 #[.agg #[.slice A l.length c], .slice (some ⟨gy, 0, none⟩) s.length cy] w' (Ans w' (.bool false))) := fun w' h => by
                  have := iform_any l A c (⟨6 + (far : Int), a.node, a.lo, a.hi⟩ :: r) (some ⟨gy, 0, none⟩) cy (by omega) (by rw [HLR.out]; omega) HTX.out w' h.i.i.f.row h.ry
                  rw [HLR.out, stF_cons, itF_kind (f := far) rfl, Bool.false_and] at this; exact this
                have FN3 : Hid (∀ (w' : World), ItgY w A l c (some ⟨b, o, none⟩) C (some ⟨gx, 0, none⟩) (some ⟨gy, 0, none⟩) (some ⟨gz, 0, none⟩) s t (⟨1, (l.length : Int) + (far : Int), 0, 0⟩ :: r) (⟨6 + (far : Int), a.node, a.lo, a.hi⟩ :: r) (⟨5, 0, 65536 + (far : Int), 0⟩ :: r) w' → Calls Try.prog 14 #[.agg #[.slice A l.length c], .slice (some ⟨gz, 0, none⟩) s.length cz] w' (Ans w' (.bool false))) := fun w' h => by
                  have := iform_any l A c (⟨5, 0, 65536 + (far : Int), 0⟩ :: r) (some ⟨gz, 0, none⟩) cz (by omega) (by rw [HLR.out]; omega) HTX.out w' h.i.i.f.row h.rz
                  rw [HLR.out, stF_cons, itF_lo, Bool.false_and] at this; exact this
                have HS := HS9
                clear HS9
                have e0 := HS.out.i.i.f.box.cell 0
                simp at e0
                go_wp2_with fail
                refine ((FN1.out _ HS.out)).mono ?_; rintro e w2 ⟨rfl, hb⟩
                have HS2 := Lib.hid (HS.out.later hb)
                clear hb e0 HS
                have HS := HS2
                clear HS2
                have e0 := HS.out.i.i.f.box.cell 0
                simp at e0
                go_wp2_with fail
                refine ((FN2.out _ HS.out)).mono ?_; rintro e w2 ⟨rfl, hb⟩
                have HS2 := Lib.hid (HS.out.later hb)
                clear hb e0 HS
                have HS := HS2
                clear HS2
                have e0 := HS.out.i.i.f.box.cell 0
                simp at e0
                go_wp2_with fail
                refine ((FN3.out _ HS.out)).mono ?_; rintro e w2 ⟨rfl, hb⟩
                have HS2 := Lib.hid (HS.out.later hb)
                clear hb e0 HS
                have HS := HS2
                clear HS2
                have e0 := HS.out.i.i.f.box.cell 0
                simp at e0
                go_wp2
                go_ret
                exact ⟨rfl, HS.out.i.i.f.bel⟩
        · have zb : (t.length : Int) > 30 := by omega
          clear ga gb
          go_wp2_with fail
          refine ((HF.out)).mono ?_; rintro e w2 ⟨rfl, hb⟩
          have HS2 := Lib.hid (HS.out.later hb)
          clear hb e0 HS
          have HS := HS2
          clear HS2
          have e0 := HS.out.f.box.cell 0
          simp at e0
          go_wp2_with fail
          refine ((HAW.out _)).mono ?_; rintro e w2 ⟨rfl, hb⟩
          have HS2 := Lib.hid (HS.out.later hb)
          clear hb e0 HS
          have HS := HS2
          clear HS2
          have e0 := HS.out.f.box.cell 0
          simp at e0
          go_wp2
          go_ret
          exact ⟨rfl, HS.out.f.bel⟩
      · have za : (s.length : Int) > 30 := by omega
        clear ga
        go_wp2_with fail
        refine ((HF.out)).mono ?_; rintro e w2 ⟨rfl, hb⟩
        have HS2 := Lib.hid (HS.out.later hb)
        clear hb e0 HS
        have HS := HS2
        clear HS2
        have e0 := HS.out.f.box.cell 0
        simp at e0
        go_wp2_with fail
        refine ((HAW.out _)).mono ?_; rintro e w2 ⟨rfl, hb⟩
        have HS2 := Lib.hid (HS.out.later hb)
        clear hb e0 HS
        have HS := HS2
        clear HS2
        have e0 := HS.out.f.box.cell 0
        simp at e0
        go_wp2
        go_ret
        exact ⟨rfl, HS.out.f.bel⟩
end Go.Proofs.Ytnhcbldcfcibiaa
