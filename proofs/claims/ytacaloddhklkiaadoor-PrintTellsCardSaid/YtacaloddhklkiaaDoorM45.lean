/- The twin of layer 6: a node's text at a level: walked. -/
import Derived.Test.YtacaloddhklkiaaDoorM44
import Derived.Test.YtacaloddhklkiaaDoorM09
import Derived.Test.YtacaloddhklkiaaDoorM27
import Derived.Test.YtacaloddhklkiaaDoorM23
import Derived.Test.YtacaloddhklkiaaDoorM28
namespace Go.Proofs.YtacaloddhklkiaaDoor
open Go Go.RowKit
set_option linter.unusedVariables false
set_option linter.unusedSimpArgs false
set_option maxRecDepth 100000

structure RtS (w0 : World) (A : Option Addr) (l : List Nd) (c1 : Nat) (vs : Array Value) (w : World) : Prop where
  bel : Below w0.heap.size w0 w
  row : NRow w A l
  ba : Blk w w0.heap.size #[.slice A l.length c1] 24
  nb : Blk w (w0.heap.size + 1) vs 43
theorem RtS.later {w0 w w' : World} {A : Option Addr} {l : List Nd} {c1 : Nat} {vs : Array Value} (h : RtS w0 A l c1 vs w) (hb : Below w.heap.size w w') : RtS w0 A l c1 vs w' :=
  ⟨h.bel.trans (hb.mono h.bel.size), h.row.later hb, h.ba.later hb, h.nb.later hb⟩
theorem RtS.new {w w1 : World} {A : Option Addr} {l : List Nd} {c1 : Nat} (h : NRow w1 A l) (hb : Below w.heap.size w w1) (ha : Blk w1 w.heap.size #[.slice A l.length c1] 24) (n1 : w1.heap.size = w.heap.size + 1) (vs : Array Value) : RtS w A l c1 vs (w1.alloc (.cells vs 43)) := by
  have HB := (Below.refl w1.heap.size w1).alloc (Nat.le_refl _) (.cells vs 43)
  refine ⟨hb.trans (HB.mono hb.size), h.later HB, ha.later HB, ?_⟩
  have := Blk.new w1 vs 43
  rw [n1] at this; exact this
def KidT (l : List Nd) (A : Option Addr) (c1 : Nat) (k lv : Int) (X : List UInt8) : Prop := X.length ≤ 3000000 ∧ ∀ w', NRow w' A l → Calls Tryd.prog 25 #[.agg #[.slice A l.length c1], .int .i64 k, .int .i64 lv] w' (Ans w' (.string (bs X)))
set_option maxHeartbeats 64000000 in
theorem rat_step (l : List Nd) (A : Option Addr) (c1 : Nat) (i : Nat) (hi : i < l.length) (hl : l.length ≤ 1000) (k a b lo hi' : Int) (s : BitVec 256) (text : List UInt8) (hn : l.getD i nd0 = ⟨k, a, b, lo, hi', s, text⟩) (lev : Int) (G : Int → Int → List UInt8)
    (hk : 1 ≤ k ∧ k ≤ 9) (hb7 : k = 7 → 0 ≤ lo ∧ lo ≤ 255 ∧ 0 ≤ hi' ∧ hi' ≤ 255) (htx : text.length ≤ 2000)
    (HA : 4 ≤ k → ∀ lv, KidT l A c1 a lv (G a lv)) (HB : k = 4 ∨ k = 5 → ∀ lv, KidT l A c1 b lv (G b lv)) (hlev : ¬ levK k < lev) (w : World) (hrow : NRow w A l) :
    Calls Tryd.prog 25 #[.agg #[.slice A l.length c1], .int .i64 (i : Int), .int .i64 lev] w (Ans w (.string (bs (atP G ⟨k, a, b, lo, hi', s, text⟩)))) := by
  have hb1 := (Below.refl w.heap.size w).alloc (Nat.le_refl _) (.cells #[.slice A l.length c1] 24)
  have hrow1 := hrow.later hb1
  have hbx := Blk.new w #[.slice A l.length c1] 24
  have n1 : (w.alloc (.cells #[.slice A l.length c1] 24)).heap.size = w.heap.size + 1 := by simp
  clear hrow
  obtain ⟨ba, oa, rfl, hlt, -⟩ := hrow1 i hi
  have hiz : (i : Int) < (l.length : Int) := by omega
  have HL := level_any k
  generalize levK k = L at *
  have hgt : ¬ lev > L := by omega
  have HCl := rcls_any s
  unfold cls at HCl
  have HCL := Lib.hid HCl
  have HKA := Lib.hid HA
  have HKB := Lib.hid HB
  clear hlev HCl HA HB
  obtain ⟨T, hT⟩ : ∃ T, atP G ⟨k, a, b, lo, hi', s, text⟩ = T := ⟨_, rfl⟩
  rw [hT]
  have HT := Lib.hid hT
  clear hT
  go_enter Tryd.func25, Tryd.ntmps25
  go_upto_region 1 with (fail)
  generalize w.alloc (.cells #[.slice (some ⟨ba, oa, none⟩) l.length c1] 24) = w1 at *
  have g : At10 w1 ba (oa + i * 10) (l.getD i nd0) := hrow1.at hi rfl
  rw [hn] at g
  unfold At10 at g
  simp only at g
  obtain ⟨g0, g1, g2, g3, g4, g5, g6, g7, g8, g9⟩ := g
  have e0 := hbx.cell 0
  simp at e0
  have HS0 : Hid (∀ vs, RtS w (some ⟨ba, oa, none⟩) l c1 vs (w1.alloc (.cells vs 43))) := fun vs => RtS.new hrow1 hb1 hbx n1 vs
  clear hrow1 hb1 hbx hn
  go_upto_region 2 with (fail)
  have HS := Lib.hid (HS0.out #[.int .i64 k, .int .i64 a, .int .i64 b, .int .i64 lo, .int .i64 hi', .int .u64 (wd s 0), .int .u64 (wd s 1), .int .u64 (wd s 2), .int .u64 (wd s 3), .string (bs text)])
  generalize w1.alloc (.cells #[.int .i64 k, .int .i64 a, .int .i64 b, .int .i64 lo, .int .i64 hi', .int .u64 (wd s 0), .int .u64 (wd s 1), .int .u64 (wd s 2), .int .u64 (wd s 3), .string (bs text)] 43) = w9 at *
  clear g0 g1 g2 g3 g4 g5 g6 g7 g8 g9 e0 HS0
  have c0 := HS.out.nb.cell 0
  have c1' := HS.out.nb.cell 1
  have c2 := HS.out.nb.cell 2
  have c3 := HS.out.nb.cell 3
  have c4 := HS.out.nb.cell 4
  have c5 := HS.out.nb.cell 5
  have c6 := HS.out.nb.cell 6
  have c7 := HS.out.nb.cell 7
  have c8 := HS.out.nb.cell 8
  have c9 := HS.out.nb.cell 9
  have e0 := HS.out.ba.cell 0
  simp at c0 c1' c2 c3 c4 c5 c6 c7 c8 c9 e0
  go_wp2_with fail
  refine (HL _).mono ?_; rintro e w2 ⟨rfl, rfl⟩
  clear HL
  by_cases k1 : k = 1
  · subst k1
    have HR : Hid (bs T = ⟨#[40, 41]⟩) := by unfold Hid; rw [← HT.out]; rfl
    go_wp2
    go_ret
    exact ⟨by rw [HR.out]; rfl, HS.out.bel⟩
  by_cases k2 : k = 2
  · subst k2
    have HR : Hid (T = clsT s) := by unfold Hid; rw [← HT.out]; rfl
    go_wp2_with fail
    refine (HCL.out _).mono ?_; rintro e w3 ⟨rfl, hb⟩
    have HS3 := Lib.hid (HS.out.later hb)
    clear hb
    go_wp2
    go_ret
    exact ⟨by rw [HR.out]; rfl, HS3.out.bel⟩
  by_cases k3 : k = 3
  · subst k3
    have HR : Hid (bs T = ⟨#[34]⟩ ++ bs text ++ ⟨#[34]⟩) := by unfold Hid; rw [← HT.out, show (⟨#[34]⟩ : ByteArray) = bs [34] from rfl, bs_append, bs_append]; rfl
    have zt : (bs text).size = text.length := bs_size text
    have m1 : ¬ 9223372036854775807 < 1 + text.length := by omega
    have m2 : ¬ 9223372036854775807 < 1 + text.length + 1 := by omega
    go_wp2
    go_ret
    exact ⟨by rw [HR.out]; rfl, HS.out.bel⟩
  by_cases k4 : k = 4
  · subst k4
    obtain ⟨X, hX⟩ : ∃ X, G a 1 = X := ⟨_, rfl⟩
    have KX := HKA.out (by omega) 1
    rw [hX] at KX
    have KLX := KX.1
    have KCX := Lib.hid KX.2
    clear KX
    have zX : (bs X).size = X.length := bs_size X
    obtain ⟨Y, hY⟩ : ∃ X, G b 2 = X := ⟨_, rfl⟩
    have KY := HKB.out (by omega) 2
    rw [hY] at KY
    have KLY := KY.1
    have KCY := Lib.hid KY.2
    clear KY
    have zY : (bs Y).size = Y.length := bs_size Y
    have HR : Hid (bs T = bs X ++ bs Y) := by unfold Hid; rw [← HT.out, bs_append, ← hX, ← hY]; rfl
    have m1 : ¬ 9223372036854775807 < X.length + Y.length := by omega
    clear hX hY HT HKA HKB
    go_upto_region 12 with (fail)
    clear c0 c1' c2 c3 c4 c5 c6 c7 c8 c9 e0
    refine wp_region_stable_tail 8 (S := (RtS w (some ⟨ba, oa, none⟩) l c1 #[.int .i64 4, .int .i64 a, .int .i64 b, .int .i64 lo, .int .i64 hi', .int .u64 (wd s 0), .int .u64 (wd s 1), .int .u64 (wd s 2), .int .u64 (wd s 3), .string (bs text)])) (hSt := fun _ _ h hb => h.later hb) (plan := [[(3, none)], [(7, none)], [(41, some 1)], [(40, some 0), (42, some 2)], [(3, none)], [(7, none)], [(45, some 5)], [(44, some 4), (46, some 6)]]) rfl rfl (by kernel_rfl) (by kernel_rfl) (by kernel_rfl) (by kernel_rfl) ?hS ?_
    rotate_left
    iterate 8 first
      | (refine chain_skip (by rfl) (by rfl) ?_)
      | (apply chain_want (by rfl)
         · intro act wx hS hr
           simp at hr
           have c1' := hS.nb.cell 1
           have c2 := hS.nb.cell 2
           have e0 := hS.ba.cell 0
           simp at c1' c2 e0
           go_simp
           (try go_ints)
           first
             | ((with_reducible refine (KCX.out _ hS.row).mono ?_); rintro e w' ⟨rfl, hb⟩; exact Done.mk hb)
             | ((with_reducible refine (KCY.out _ hS.row).mono ?_); rintro e w' ⟨rfl, hb⟩; exact Done.mk hb)
             | (refine (KCX.out _ hS.row).mono ?_; rintro e w' ⟨rfl, hb⟩; exact Done.mk hb)
             | (refine (KCY.out _ hS.row).mono ?_; rintro e w' ⟨rfl, hb⟩; exact Done.mk hb)
             | exact Done.same
        )
    show ∀ w', _ → _
    intro wz hz
    simp [Act.put]
    case hS => exact HS.out
    have HZ := Lib.hid hz
    clear hz
    go_wp2
    go_ret
    exact ⟨by rw [HR.out]; rfl, HZ.out.bel⟩
  by_cases k5 : k = 5
  · subst k5
    obtain ⟨X, hX⟩ : ∃ X, G a 0 = X := ⟨_, rfl⟩
    have KX := HKA.out (by omega) 0
    rw [hX] at KX
    have KLX := KX.1
    have KCX := Lib.hid KX.2
    clear KX
    have zX : (bs X).size = X.length := bs_size X
    obtain ⟨Y, hY⟩ : ∃ X, G b 1 = X := ⟨_, rfl⟩
    have KY := HKB.out (by omega) 1
    rw [hY] at KY
    have KLY := KY.1
    have KCY := Lib.hid KY.2
    clear KY
    have zY : (bs Y).size = Y.length := bs_size Y
    have HR : Hid (bs T = bs X ++ ⟨#[124]⟩ ++ bs Y) := by unfold Hid; rw [← HT.out, show (⟨#[124]⟩ : ByteArray) = bs [124] from rfl, bs_append, bs_append, ← hX, ← hY]; simp [atP]
    have m1 : ¬ 9223372036854775807 < X.length + 1 := by omega
    have m2 : ¬ 9223372036854775807 < X.length + 1 + Y.length := by omega
    clear hX hY HT HKA HKB
    go_upto_region 14 with (fail)
    clear c0 c1' c2 c3 c4 c5 c6 c7 c8 c9 e0
    refine wp_region_stable_tail 9 (S := (RtS w (some ⟨ba, oa, none⟩) l c1 #[.int .i64 5, .int .i64 a, .int .i64 b, .int .i64 lo, .int .i64 hi', .int .u64 (wd s 0), .int .u64 (wd s 1), .int .u64 (wd s 2), .int .u64 (wd s 3), .string (bs text)])) (hSt := fun _ _ h hb => h.later hb) (plan := [[(3, none)], [(7, none)], [(52, some 1)], [(51, some 0), (53, some 2)], [(54, some 3)], [(3, none)], [(7, none)], [(57, some 6)], [(56, some 5), (58, some 7)]]) rfl rfl (by kernel_rfl) (by kernel_rfl) (by kernel_rfl) (by kernel_rfl) ?hS ?_
    rotate_left
    iterate 9 first
      | (refine chain_skip (by rfl) (by rfl) ?_)
      | (apply chain_want (by rfl)
         · intro act wx hS hr
           simp at hr
           have c1' := hS.nb.cell 1
           have c2 := hS.nb.cell 2
           have e0 := hS.ba.cell 0
           simp at c1' c2 e0
           go_simp
           (try go_ints)
           first
             | ((with_reducible refine (KCX.out _ hS.row).mono ?_); rintro e w' ⟨rfl, hb⟩; exact Done.mk hb)
             | ((with_reducible refine (KCY.out _ hS.row).mono ?_); rintro e w' ⟨rfl, hb⟩; exact Done.mk hb)
             | (refine (KCX.out _ hS.row).mono ?_; rintro e w' ⟨rfl, hb⟩; exact Done.mk hb)
             | (refine (KCY.out _ hS.row).mono ?_; rintro e w' ⟨rfl, hb⟩; exact Done.mk hb)
             | exact Done.same
        )
    show ∀ w', _ → _
    intro wz hz
    simp [Act.put]
    case hS => exact HS.out
    have HZ := Lib.hid hz
    clear hz
    go_wp2
    go_ret
    exact ⟨by rw [HR.out]; rfl, HZ.out.bel⟩
  by_cases k6 : k = 6
  · subst k6
    obtain ⟨X, hX⟩ : ∃ X, G a 2 = X := ⟨_, rfl⟩
    have KX := HKA.out (by omega) 2
    rw [hX] at KX
    have KLX := KX.1
    have KCX := Lib.hid KX.2
    clear KX
    have zX : (bs X).size = X.length := bs_size X
    have HR : Hid (bs T = bs X ++ ⟨#[42]⟩) := by unfold Hid; rw [← HT.out, show (⟨#[42]⟩ : ByteArray) = bs [42] from rfl, bs_append, ← hX]; rfl
    have m1 : ¬ 9223372036854775807 < X.length + 1 := by omega
    clear hX HT HKA HKB
    go_wp2_with fail
    refine (KCX.out _ HS.out.row).mono ?_; rintro e w3 ⟨rfl, hb⟩
    have HS3 := Lib.hid (HS.out.later hb)
    clear hb
    go_wp2
    go_ret
    exact ⟨by rw [HR.out]; rfl, HS3.out.bel⟩
  by_cases k7 : k = 7
  · subst k7
    obtain ⟨X, hX⟩ : ∃ X, G a 2 = X := ⟨_, rfl⟩
    have KX := HKA.out (by omega) 2
    rw [hX] at KX
    have KLX := KX.1
    have KCX := Lib.hid KX.2
    clear KX
    have zX : (bs X).size = X.length := bs_size X
    obtain ⟨u, hu⟩ : ∃ u : Nat, lo = (u : Int) := ⟨lo.toNat, by omega⟩
    obtain ⟨v, hv⟩ : ∃ v : Nat, hi' = (v : Int) := ⟨hi'.toNat, by omega⟩
    have hb8 := hb7 rfl
    subst hu hv
    clear hb7
    have DU := Lib.hid (rdec_any u (by omega))
    have DV := Lib.hid (rdec_any v (by omega))
    have zu := decT_bound u
    have zv := decT_bound v
    have HR0 : T = X ++ bndT u v := by rw [← HT.out, ← hX]; rfl
    have HB0 : bndT u v = [123] ++ (decT u ++ ([44] ++ (decT v ++ [125]))) := rfl
    rw [HB0] at HR0
    clear HB0
    generalize decT u = U at *
    generalize decT v = V at *
    have HR : Hid (bs T = bs X ++ ⟨#[123]⟩ ++ bs U ++ ⟨#[44]⟩ ++ bs V ++ ⟨#[125]⟩) := by unfold Hid; rw [HR0, show (⟨#[123]⟩ : ByteArray) = bs [123] from rfl, show (⟨#[44]⟩ : ByteArray) = bs [44] from rfl, show (⟨#[125]⟩ : ByteArray) = bs [125] from rfl]; simp only [bs_append, List.append_assoc]
    have zU : (bs U).size = U.length := bs_size U
    have zV : (bs V).size = V.length := bs_size V
    have m1 : ¬ 9223372036854775807 < X.length + 1 := by omega
    have m2 : ¬ 9223372036854775807 < X.length + 1 + U.length := by omega
    have m3 : ¬ 9223372036854775807 < X.length + 1 + U.length + 1 := by omega
    have m4 : ¬ 9223372036854775807 < X.length + 1 + U.length + 1 + V.length := by omega
    have m5 : ¬ 9223372036854775807 < X.length + 1 + U.length + 1 + V.length + 1 := by omega
    clear hX HT HKA HKB HR0
    go_upto_region 18 with (fail)
    clear c0 c1' c2 c3 c4 c5 c6 c7 c8 c9 e0
    refine wp_region_stable_tail 13 (S := (RtS w (some ⟨ba, oa, none⟩) l c1 #[.int .i64 7, .int .i64 a, .int .i64 b, .int .i64 (u : Int), .int .i64 (v : Int), .int .u64 (wd s 0), .int .u64 (wd s 1), .int .u64 (wd s 2), .int .u64 (wd s 3), .string (bs text)])) (hSt := fun _ _ h hb => h.later hb) (plan := [[(3, none)], [(7, none)], [(71, some 1)], [(70, some 0), (72, some 2)], [(73, some 3)], [(7, none)], [(75, some 5)], [(76, some 6)], [(74, some 4), (77, some 7)], [(78, some 8)], [(7, none)], [(80, some 10)], [(81, some 11)]]) rfl rfl (by kernel_rfl) (by kernel_rfl) (by kernel_rfl) (by kernel_rfl) ?hS ?_
    rotate_left
    iterate 13 first
      | (refine chain_skip (by rfl) (by rfl) ?_)
      | (apply chain_want (by rfl)
         · intro act wx hS hr
           simp at hr
           have c1' := hS.nb.cell 1
           have c3 := hS.nb.cell 3
           have c4 := hS.nb.cell 4
           have e0 := hS.ba.cell 0
           simp at c1' c3 c4 e0
           go_simp
           (try go_ints)
           first
             | ((with_reducible refine (KCX.out _ hS.row).mono ?_); rintro e w' ⟨rfl, hb⟩; exact Done.mk hb)
             | ((with_reducible refine (DU.out _).mono ?_); rintro e w' ⟨rfl, hb⟩; exact Done.mk hb)
             | ((with_reducible refine (DV.out _).mono ?_); rintro e w' ⟨rfl, hb⟩; exact Done.mk hb)
             | exact Done.same
        )
    show ∀ w', _ → _
    intro wz hz
    simp [Act.put]
    case hS => exact HS.out
    have HZ := Lib.hid hz
    clear hz
    go_wp2
    go_ret
    exact ⟨by rw [HR.out]; rfl, HZ.out.bel⟩
  by_cases k8 : k = 8
  · subst k8
    obtain ⟨X, hX⟩ : ∃ X, G a 0 = X := ⟨_, rfl⟩
    have KX := HKA.out (by omega) 0
    rw [hX] at KX
    have KLX := KX.1
    have KCX := Lib.hid KX.2
    clear KX
    have zX : (bs X).size = X.length := bs_size X
    have HR : Hid (bs T = ⟨#[98, 40]⟩ ++ bs X ++ ⟨#[41]⟩) := by unfold Hid; rw [← HT.out, show (⟨#[98, 40]⟩ : ByteArray) = bs [98, 40] from rfl, show (⟨#[41]⟩ : ByteArray) = bs [41] from rfl, bs_append, bs_append, ← hX]; rfl
    have m1 : ¬ 9223372036854775807 < 2 + X.length := by omega
    have m2 : ¬ 9223372036854775807 < 2 + X.length + 1 := by omega
    clear hX HT HKA HKB
    go_wp2_with fail
    refine (KCX.out _ HS.out.row).mono ?_; rintro e w3 ⟨rfl, hb⟩
    have HS3 := Lib.hid (HS.out.later hb)
    clear hb
    go_wp2
    go_ret
    exact ⟨by rw [HR.out]; rfl, HS3.out.bel⟩
  by_cases k9 : k = 9
  · subst k9
    obtain ⟨X, hX⟩ : ∃ X, G a 0 = X := ⟨_, rfl⟩
    have KX := HKA.out (by omega) 0
    rw [hX] at KX
    have KLX := KX.1
    have KCX := Lib.hid KX.2
    clear KX
    have zX : (bs X).size = X.length := bs_size X
    have HR : Hid (bs T = ⟨#[119, 40]⟩ ++ bs X ++ ⟨#[41]⟩) := by unfold Hid; rw [← HT.out, show (⟨#[119, 40]⟩ : ByteArray) = bs [119, 40] from rfl, show (⟨#[41]⟩ : ByteArray) = bs [41] from rfl, bs_append, bs_append, ← hX]; rfl
    have m1 : ¬ 9223372036854775807 < 2 + X.length := by omega
    have m2 : ¬ 9223372036854775807 < 2 + X.length + 1 := by omega
    clear hX HT HKA HKB
    go_wp2_with fail
    refine (KCX.out _ HS.out.row).mono ?_; rintro e w3 ⟨rfl, hb⟩
    have HS3 := Lib.hid (HS.out.later hb)
    clear hb
    go_wp2
    go_ret
    exact ⟨by rw [HR.out]; rfl, HS3.out.bel⟩
  exact absurd hk (by omega)
set_option maxHeartbeats 16000000 in
theorem rat_par (l : List Nd) (A : Option Addr) (c1 : Nat) (i : Nat) (hi : i < l.length) (hl : l.length ≤ 1000) (k a b lo hi' : Int) (s : BitVec 256) (text : List UInt8) (hn : l.getD i nd0 = ⟨k, a, b, lo, hi', s, text⟩) (lev : Int) (T : List UInt8) (hT : T.length ≤ 3000000)
    (H : ∀ w', NRow w' A l → Calls Tryd.prog 25 #[.agg #[.slice A l.length c1], .int .i64 (i : Int), .int .i64 0] w' (Ans w' (.string (bs T)))) (hlev : levK k < lev) (w : World) (hrow : NRow w A l) :
    Calls Tryd.prog 25 #[.agg #[.slice A l.length c1], .int .i64 (i : Int), .int .i64 lev] w (Ans w (.string (bs (40 :: (T ++ [41]))))) := by
  have hb1 := (Below.refl w.heap.size w).alloc (Nat.le_refl _) (.cells #[.slice A l.length c1] 24)
  have hrow1 := hrow.later hb1
  have hbx := Blk.new w #[.slice A l.length c1] 24
  have n1 : (w.alloc (.cells #[.slice A l.length c1] 24)).heap.size = w.heap.size + 1 := by simp
  clear hrow
  obtain ⟨ba, oa, rfl, hlt, -⟩ := hrow1 i hi
  have hiz : (i : Int) < (l.length : Int) := by omega
  have HL := level_any k
  generalize levK k = L at *
  have hgt : lev > L := hlev
  have HH := Lib.hid H
  have hz : (bs T).size = T.length := bs_size T
  have m1 : ¬ 9223372036854775807 < 1 + T.length := by omega
  have m2 : ¬ 9223372036854775807 < 1 + T.length + 1 := by omega
  have HR : Hid (bs (40 :: (T ++ [41])) = ⟨#[40]⟩ ++ bs T ++ ⟨#[41]⟩) := by unfold Hid; rw [show (⟨#[40]⟩ : ByteArray) = bs [40] from rfl, show (⟨#[41]⟩ : ByteArray) = bs [41] from rfl, bs_append, bs_append]; rfl
  clear hlev H
  rw [HR.out]
  go_enter Tryd.func25, Tryd.ntmps25
  go_upto_region 1 with (fail)
  generalize w.alloc (.cells #[.slice (some ⟨ba, oa, none⟩) l.length c1] 24) = w1 at *
  have g : At10 w1 ba (oa + i * 10) (l.getD i nd0) := hrow1.at hi rfl
  rw [hn] at g
  unfold At10 at g
  simp only at g
  obtain ⟨g0, g1, g2, g3, g4, g5, g6, g7, g8, g9⟩ := g
  have e0 := hbx.cell 0
  simp at e0
  have HS0 : Hid (∀ vs, RtS w (some ⟨ba, oa, none⟩) l c1 vs (w1.alloc (.cells vs 43))) := fun vs => RtS.new hrow1 hb1 hbx n1 vs
  clear hrow1 hb1 hbx hn
  go_upto_region 2 with (fail)
  have HS := Lib.hid (HS0.out #[.int .i64 k, .int .i64 a, .int .i64 b, .int .i64 lo, .int .i64 hi', .int .u64 (wd s 0), .int .u64 (wd s 1), .int .u64 (wd s 2), .int .u64 (wd s 3), .string (bs text)])
  generalize w1.alloc (.cells #[.int .i64 k, .int .i64 a, .int .i64 b, .int .i64 lo, .int .i64 hi', .int .u64 (wd s 0), .int .u64 (wd s 1), .int .u64 (wd s 2), .int .u64 (wd s 3), .string (bs text)] 43) = w9 at *
  clear g0 g1 g2 g3 g4 g5 g6 g7 g8 g9 e0 HS0
  have c0 := HS.out.nb.cell 0
  have c1' := HS.out.nb.cell 1
  have c2 := HS.out.nb.cell 2
  have c3 := HS.out.nb.cell 3
  have c4 := HS.out.nb.cell 4
  have c5 := HS.out.nb.cell 5
  have c6 := HS.out.nb.cell 6
  have c7 := HS.out.nb.cell 7
  have c8 := HS.out.nb.cell 8
  have c9 := HS.out.nb.cell 9
  have e0 := HS.out.ba.cell 0
  simp at c0 c1' c2 c3 c4 c5 c6 c7 c8 c9 e0
  go_wp2_with fail
  refine (HL _).mono ?_; rintro e w2 ⟨rfl, rfl⟩
  clear HL
  go_wp2_with fail
  refine (HH.out _ HS.out.row).mono ?_; rintro e w3 ⟨rfl, hb⟩
  have HS3 := Lib.hid (HS.out.later hb)
  clear hb
  go_wp2
  go_ret
  exact ⟨rfl, HS3.out.bel⟩
theorem levK_nn (k : Int) : ¬ levK k < 0 := by unfold levK; (repeat' split) <;> omega
theorem atT_len {l : List Nd} (h : PrOk l) (i : Nat) (hi : i < l.length) (f : Nat) (hf : i < f) (lev : Int) : (atT l f (i : Int) lev).length ≤ 3000000 := by
  have h1 := sgs_len l h.form.2.1 h.txt i hi f hf lev
  unfold lenO at h1
  rw [flat_node] at h1
  have := h.len
  have h2 : (i + 1 - firstP l i) * 3000 ≤ 1000 * 3000 := Nat.mul_le_mul_right _ (by omega)
  omega
theorem rat_any (l : List Nd) (h : PrOk l) (A : Option Addr) (c1 : Nat) (i : Nat) : i < l.length → ∀ f, i < f → ∀ (lev : Int) (w : World), NRow w A l →
    Calls Tryd.prog 25 #[.agg #[.slice A l.length c1], .int .i64 (i : Int), .int .i64 lev] w (Ans w (.string (bs (atT l f (i : Int) lev)))) := by
  induction i using Nat.strongRecOn with
  | ind i ih =>
    intro hi f hf lev w hrow
    obtain ⟨f, rfl⟩ : ∃ f', f = f' + 1 := ⟨f - 1, by omega⟩
    have hok := h.form.2.1 i hi
    have htx : (atN l i).text.length ≤ 2000 := by
      have e : atN l i = l[i] := by unfold atN; rw [List.getD_eq_getElem?_getD, List.getElem?_eq_getElem hi]; rfl
      rw [e]; exact h.txt _ (List.getElem_mem hi)
    have hu : ∀ lv, atT l (f + 1) (i : Int) lv = if levK (atN l i).kind < lv then 40 :: (atP (atT l f) (atN l i) ++ [41]) else atP (atT l f) (atN l i) := fun lv => rfl
    have hb0 := atT_len h i hi (f + 1) hf 0
    rw [hu 0, if_neg (levK_nn _)] at hb0
    rw [hu lev]
    have kid : ∀ m : Nat, m < i → ∀ lv, KidT l A c1 (m : Int) lv (atT l f (m : Int) lv) := fun m hm lv => ⟨atT_len h m (by omega) f (by omega) lv, fun w' hr => ih m hm (by omega) f (by omega) lv w' hr⟩
    obtain ⟨n, hn⟩ : ∃ n, atN l i = n := ⟨_, rfl⟩
    rw [hn] at hok htx hb0 ⊢
    have hn2 : l.getD i nd0 = n := hn
    obtain ⟨k, a, b, lo, hi', s, text⟩ := n
    obtain ⟨-, hk⟩ := hok
    simp only at hk htx
    have hfp : ∀ j, firstP l j ≤ j := fun j => firstP_le l j
    have HA : 4 ≤ k → ∀ lv, KidT l A c1 a lv (atT l f a lv) := fun h4 lv => by
      have ha : 0 ≤ a ∧ a < i := by
        have := hfp b.toNat
        omega
      have := kid a.toNat (by omega) lv
      rwa [Int.toNat_of_nonneg ha.1] at this
    have HB : k = 4 ∨ k = 5 → ∀ lv, KidT l A c1 b lv (atT l f b lv) := fun h4 lv => by
      have hb : 0 ≤ b ∧ b < i := by omega
      have := kid b.toNat (by omega) lv
      rwa [Int.toNat_of_nonneg hb.1] at this
    have core : ∀ lv, ¬ levK k < lv → ∀ w', NRow w' A l → Calls Tryd.prog 25 #[.agg #[.slice A l.length c1], .int .i64 (i : Int), .int .i64 lv] w' (Ans w' (.string (bs (atP (atT l f) ⟨k, a, b, lo, hi', s, text⟩)))) := fun lv hlv w' hr =>
      rat_step l A c1 i hi h.len k a b lo hi' s text hn2 lv (atT l f) (by omega) (fun h7 => by omega) htx HA HB hlv w' hr
    by_cases hlv : levK k < lev
    · rw [if_pos hlv]
      exact rat_par l A c1 i hi h.len k a b lo hi' s text hn2 lev _ hb0 (fun w' hr => core 0 (levK_nn k) w' hr) hlv w hrow
    · rw [if_neg hlv]
      exact core lev hlv w hrow
set_option maxHeartbeats 8000000 in
theorem rtext_any (l : List Nd) (h : PrOk l) (A : Option Addr) (c1 : Nat) (w : World) (hrow : NRow w A l) : Calls Tryd.prog 10 #[.agg #[.slice A l.length c1]] w (Ans w (.string (bs (textN l)))) := by
  have hb1 := (Below.refl w.heap.size w).alloc (Nat.le_refl _) (.cells #[.slice A l.length c1] 24)
  have HROW := Lib.hid (hrow.later hb1)
  have HB1 := Lib.hid hb1
  have HBX := Lib.hid (Blk.new w #[.slice A l.length c1] 24)
  have hpos := h.form.1
  have hlen := h.len
  have n0 : (0 : Int) ≤ (l.length : Int) - 1 := by omega
  have HC : Hid (∀ w', NRow w' A l → Calls Tryd.prog 25 #[.agg #[.slice A l.length c1], .int .i64 ((l.length : Int) - 1), .int .i64 0] w' (Ans w' (.string (bs (textN l))))) := fun w' hr => by
    have := rat_any l h A c1 (l.length - 1) (by omega) l.length (by omega) 0 w' hr
    rw [show ((l.length - 1 : Nat) : Int) = (l.length : Int) - 1 by omega, ← textN_at] at this
    exact this
  clear hrow hb1
  generalize textN l = T at *
  go_enter Tryd.func10, Tryd.ntmps10
  go_upto_region 1 with (fail)
  generalize w.alloc (.cells #[.slice A l.length c1] 24) = w1 at *
  have e0 := HBX.out.cell 0
  simp at e0
  go_wp2_with fail
  refine (HC.out _ HROW.out).mono ?_; rintro e w3 ⟨rfl, hb⟩
  have HB3 := Lib.hid (HB1.out.trans (hb.mono HB1.out.size))
  clear hb
  go_wp2
  go_ret
  exact ⟨rfl, HB3.out⟩
end Go.Proofs.YtacaloddhklkiaaDoor
/- The twin of layer 6: how deep a text is: walked. -/
namespace Go.Proofs.YtacaloddhklkiaaDoor
open Go Go.RowKit
set_option linter.unusedVariables false
set_option linter.unusedSimpArgs false
set_option maxRecDepth 100000

def RdpL (w0 : World) (T : List UInt8) (m o q i : Value) (w : World) : Prop := ∃ (k : Nat) (O M : Int) (Q : Bool), k ≤ T.length ∧ (T.take k).foldl bstep (0, 0, false) = (O, M, Q) ∧ O ≤ M ∧ -(k : Int) ≤ O ∧ 0 ≤ M ∧ M ≤ k ∧ m = .int .i64 M ∧ o = .int .i64 O ∧ q = .bool Q ∧ i = .int .i64 (k : Int) ∧ Below w0.heap.size w0 w
theorem fold_next (T : List UInt8) (k : Nat) (h : k < T.length) : (T.take (k + 1)).foldl bstep (0, 0, false) = bstep ((T.take k).foldl bstep (0, 0, false)) (T[k]'h) := by
  rw [← List.take_append_getElem h, List.foldl_append]; rfl
theorem bstep_q (O M : Int) (Q : Bool) {c : UInt8} (h : c = 34) : bstep (O, M, Q) c = (O, M, !Q) := by unfold bstep; rw [if_pos h]
theorem bstep_in (O M : Int) {c : UInt8} (h : c ≠ 34) : bstep (O, M, true) c = (O, M, true) := by unfold bstep; rw [if_neg h, if_pos rfl]
theorem bstep_open (O M : Int) {c : UInt8} (h : c = 40) : bstep (O, M, false) c = (O + 1, max M (O + 1), false) := by
  unfold bstep; rw [if_neg (by rw [h]; decide), if_neg (by simp), if_pos h]
theorem bstep_shut (O M : Int) {c : UInt8} (h : c = 41) : bstep (O, M, false) c = (O - 1, M, false) := by
  unfold bstep; rw [if_neg (by rw [h]; decide), if_neg (by simp), if_neg (by rw [h]; decide), if_pos h]
theorem bstep_no (O M : Int) {c : UInt8} (h1 : c ≠ 34) (h2 : c ≠ 40) (h3 : c ≠ 41) : bstep (O, M, false) c = (O, M, false) := by
  unfold bstep; rw [if_neg h1, if_neg (by simp), if_neg h2, if_neg h3]
theorem u8z {c : UInt8} {n : Nat} (hn : n < 256) (h : c ≠ UInt8.ofNat n) : ((c.toNat : Int) == (n : Int)) = false := by
  rw [beq_eq_false_iff_ne]; intro e
  exact h (UInt8.toNat_inj.1 (by rw [UInt8.toNat_ofNat']; omega))
set_option maxHeartbeats 32000000 in
theorem rdp6_any (l : List Nd) (h : PrOk l) (A : Option Addr) (c1 : Nat) (w : World) (hrow : NRow w A l) : Calls Tryd.prog 12 #[.agg #[.slice A l.length c1]] w (Ans w (.int .i64 (deepN l : Int))) := by
  have hb1 := (Below.refl w.heap.size w).alloc (Nat.le_refl _) (.cells #[.slice A l.length c1] 24)
  have HROW := Lib.hid (hrow.later hb1)
  have HB1 := Lib.hid hb1
  have HBX := Lib.hid (Blk.new w #[.slice A l.length c1] 24)
  have HC : Hid (∀ w', NRow w' A l → Calls Tryd.prog 10 #[.agg #[.slice A l.length c1]] w' (Ans w' (.string (bs (textN l))))) := fun w' hr => rtext_any l h A c1 w' hr
  have hT3 : (textN l).length ≤ 3000000 := by
    have hpos := h.form.1
    rw [textN_at, show (l.length : Int) - 1 = ((l.length - 1 : Nat) : Int) by omega]
    exact atT_len h _ (by omega) _ (by omega) _
  have HD := Lib.hid (deep_bytes h.form)
  clear hrow hb1
  generalize textN l = T at *
  generalize deepN l = D at *
  go_enter Tryd.func12, Tryd.ntmps12
  go_upto_region 1 with (fail)
  generalize w.alloc (.cells #[.slice A l.length c1] 24) = w1 at *
  have e0 := HBX.out.cell 0
  simp at e0
  go_wp2_with fail
  refine (HC.out _ HROW.out).mono ?_; rintro e w3 ⟨rfl, hb⟩
  have HB3 := Lib.hid (HB1.out.trans (hb.mono HB1.out.size))
  clear hb e0
  have hTz : (bs T).size = T.length := bs_size T
  go_wp2
  go_loopw [4, 5, 6, 7] (RdpL w T) (fun _ _ _ i _ => T.length - (intOf i).toNat)
  case atStart => exact ⟨0, 0, 0, false, Nat.zero_le _, rfl, by omega, by omega, by omega, by omega, rfl, rfl, rfl, rfl, HB3.out⟩
  case round =>
    obtain ⟨k, O, M, Q, hk, hf, h1, h2, h3, h4, rfl, rfl, rfl, rfl, hb⟩ := hrel
    have HB := Lib.hid hb
    have HF0 := Lib.hid hf
    clear hb hf
    have hmax : max M O = M := by omega
    by_cases hlt : k < T.length
    · have hltz : (k : Int) < (T.length : Int) := by omega
      have hq : k < (bs T).size := by rw [bs_size]; exact hlt
      have hqz : (k : Int) < ((bs T).size : Int) := by omega
      have hget : (bs T)[k]'hq = T[k]'hlt := bs_get _ _ _
      have hfn := fold_next T k hlt
      rw [HF0.out] at hfn
      by_cases hc34 : T[k]'hlt = 34
      · have hc40 : (0 : Nat) = 0 := rfl
        have hc41 : (0 : Nat) = 0 := rfl
        have z34 : (((T[k]'hlt).toNat : Int) == 34) = true := by rw [hc34]; rfl
        have z40 : (((T[k]'hlt).toNat : Int) == 40) = false := by rw [hc34]; rfl
        have z41 : (((T[k]'hlt).toNat : Int) == 41) = false := by rw [hc34]; rfl
        rw [bstep_q O M Q hc34] at hfn
        have HF := Lib.hid hfn
        clear hfn
        cases Q with
        | true =>
          clear hc34 hc40 hc41
          generalize T[k]'hlt = c at *
          go_wp2
          go_roundw
          case rel => exact ⟨k + 1, O, M, false, by omega, HF.out, by omega, by omega, by omega, by omega, by first | rfl | go_num, by first | rfl | go_num, rfl, by go_num, HB.out⟩
          case measure => simp [intOf]; omega
        | false =>
          clear hc34 hc40 hc41
          generalize T[k]'hlt = c at *
          go_wp2
          go_roundw
          case rel => exact ⟨k + 1, O, M, true, by omega, HF.out, by omega, by omega, by omega, by omega, by first | rfl | go_num, by first | rfl | go_num, rfl, by go_num, HB.out⟩
          case measure => simp [intOf]; omega
      · have z34 : (((T[k]'hlt).toNat : Int) == 34) = false := u8z (n := 34) (by decide) hc34
        by_cases hc40 : T[k]'hlt = 40
        · have hc41 : (0 : Nat) = 0 := rfl
          have z40 : (((T[k]'hlt).toNat : Int) == 40) = true := by rw [hc40]; rfl
          have z41 : (((T[k]'hlt).toNat : Int) == 41) = false := by rw [hc40]; rfl
          cases Q with
          | true =>
            rw [bstep_in O M hc34] at hfn
            have HF := Lib.hid hfn
            clear hfn
            clear hc34 hc40 hc41
            generalize T[k]'hlt = c at *
            go_wp2
            go_roundw
            case rel => exact ⟨k + 1, O, M, true, by omega, HF.out, by omega, by omega, by omega, by omega, by first | rfl | go_num, by first | rfl | go_num, rfl, by go_num, HB.out⟩
            case measure => simp [intOf]; omega
          | false =>
            rw [bstep_open O M hc40] at hfn
            have HF := Lib.hid hfn
            clear hfn
            clear hc34 hc40 hc41
            generalize T[k]'hlt = c at *
            go_wp2
            go_roundw
            case rel => exact ⟨k + 1, (O + 1), (max M (O + 1)), false, by omega, HF.out, by omega, by omega, by omega, by omega, by first | rfl | go_num, by first | rfl | go_num, rfl, by go_num, HB.out⟩
            case measure => simp [intOf]; omega
        · have z40 : (((T[k]'hlt).toNat : Int) == 40) = false := u8z (n := 40) (by decide) hc40
          by_cases hc41 : T[k]'hlt = 41
          · have z41 : (((T[k]'hlt).toNat : Int) == 41) = true := by rw [hc41]; rfl
            cases Q with
            | true =>
              rw [bstep_in O M hc34] at hfn
              have HF := Lib.hid hfn
              clear hfn
              clear hc34 hc40 hc41
              generalize T[k]'hlt = c at *
              go_wp2
              go_roundw
              case rel => exact ⟨k + 1, O, M, true, by omega, HF.out, by omega, by omega, by omega, by omega, by first | rfl | go_num, by first | rfl | go_num, rfl, by go_num, HB.out⟩
              case measure => simp [intOf]; omega
            | false =>
              rw [bstep_shut O M hc41] at hfn
              have HF := Lib.hid hfn
              have hmax2 : max M (O - 1) = M := by omega
              clear hfn
              clear hc34 hc40 hc41
              generalize T[k]'hlt = c at *
              go_wp2
              go_roundw
              case rel => exact ⟨k + 1, (O - 1), M, false, by omega, HF.out, by omega, by omega, by omega, by omega, by first | rfl | go_num, by first | rfl | go_num, rfl, by go_num, HB.out⟩
              case measure => simp [intOf]; omega
          · have z41 : (((T[k]'hlt).toNat : Int) == 41) = false := u8z (n := 41) (by decide) hc41
            cases Q with
            | true =>
              rw [bstep_in O M hc34] at hfn
              have HF := Lib.hid hfn
              clear hfn
              clear hc34 hc40 hc41
              generalize T[k]'hlt = c at *
              go_wp2
              go_roundw
              case rel => exact ⟨k + 1, O, M, true, by omega, HF.out, by omega, by omega, by omega, by omega, by first | rfl | go_num, by first | rfl | go_num, rfl, by go_num, HB.out⟩
              case measure => simp [intOf]; omega
            | false =>
              rw [bstep_no O M hc34 hc40 hc41] at hfn
              have HF := Lib.hid hfn
              clear hfn
              clear hc34 hc40 hc41
              generalize T[k]'hlt = c at *
              go_wp2
              go_roundw
              case rel => exact ⟨k + 1, O, M, false, by omega, HF.out, by omega, by omega, by omega, by omega, by first | rfl | go_num, by first | rfl | go_num, rfl, by go_num, HB.out⟩
              case measure => simp [intOf]; omega
    · obtain rfl : k = T.length := by omega
      have HE : Hid (M = (D : Int)) := by
        have := HF0.out
        rw [List.take_length, HD.out] at this
        simp only [Prod.mk.injEq] at this
        exact this.2.1.symm
      clear hmax hlt
      go_wp2
      go_ret
      exact ⟨by rw [HE.out]; rfl, HB.out⟩
end Go.Proofs.YtacaloddhklkiaaDoor
/- The statement PrintTells of layer 6, walked. -/
namespace Go.Proofs.YtacaloddhklkiaaDoor
open Go Go.RowKit
set_option linter.unusedVariables false
set_option linter.unusedSimpArgs false
set_option maxRecDepth 100000

structure PtS (w0 : World) (A : Option Addr) (l : List Nd) (c1 : Nat) (a : BitVec 256) (w : World) : Prop where
  bel : Below w0.heap.size w0 w
  row : NRow w A l
  ba : Blk w w0.heap.size #[.slice A l.length c1] 24
  box : Blk w (w0.heap.size + 1) (cells4 a) 27
  t : T10 w
theorem PtS.later {w0 w w' : World} {A : Option Addr} {l : List Nd} {c1 : Nat} {a : BitVec 256} (h : PtS w0 A l c1 a w) (hb : Below w.heap.size w w') : PtS w0 A l c1 a w' :=
  ⟨h.bel.trans (hb.mono h.bel.size), h.row.later hb, h.ba.later hb, h.box.later hb, h.t.later hb⟩
theorem PtS.new {w : World} {A : Option Addr} {l : List Nd} (h : NRow w A l) (hT : T10 w) (c1 : Nat) (a : BitVec 256) : PtS w A l c1 a ((w.alloc (.cells #[.slice A l.length c1] 24)).alloc (.cells (cells4 a) 27)) := by
  have HB := ((Below.refl w.heap.size w).alloc (Nat.le_refl _) (.cells #[.slice A l.length c1] 24)).alloc (by simp) (.cells (cells4 a) 27)
  refine ⟨HB, h.later HB, (Blk.new w _ _).alloc _, ?_, hT.later HB⟩
  have := Blk.new (w.alloc (.cells #[.slice A l.length c1] 24)) (cells4 a) 27
  simpa using this
set_option maxHeartbeats 64000000 in
theorem printtells_walk (l : List Nd) (a : BitVec 256) (A : Option Addr) (c1 : Nat) (hc1 : l.length ≤ c1) (hl : l.length ≤ 9223372036854775807) (htx : Txt l) (w : World) (hrow : NRow w A l) (hT : T10 w) :
    Calls Tryd.prog 3 #[.agg #[.slice A l.length c1], cls a] w (Ans w (.bool true)) := by
  have HS0 := Lib.hid (PtS.new hrow hT c1 a)
  have HTX := Lib.hid htx
  clear hrow htx hT
  unfold cls
  unfold cells4 at HS0
  go_enter Tryd.func3, Tryd.ntmps3
  go_upto_region 1 with (fail)
  generalize (w.alloc (.cells #[.slice A l.length c1] 24)).alloc (.cells #[.int .u64 (wd a 0), .int .u64 (wd a 1), .int .u64 (wd a 2), .int .u64 (wd a 3)] 27) = w1 at *
  go_wp2_with fail
  refine (awake6_any _ HS0.out.t).mono ?_; rintro e w2 ⟨rfl, hb⟩
  have HS1 := Lib.hid (HS0.out.later hb)
  clear hb HS0
  have e0 := HS1.out.ba.cell 0
  simp at e0
  have HF := Lib.hid (few_any l A c1 hl HTX.out _ HS1.out.row)
  cases hf : fewB l with
  | false =>
    rw [hf] at HF
    clear hf
    go_wp2_with fail
    refine HF.out.mono ?_; rintro e w3 ⟨rfl, hb⟩
    have HSX := Lib.hid (HS1.out.later hb)
    clear hb e0 HF HS1
    go_wp2_with fail
    refine (awake6_any _ HSX.out.t).mono ?_; rintro e WN ⟨rfl, hb⟩
    have HSY := Lib.hid (HSX.out.later hb)
    clear hb
    go_wp2
    go_ret
    exact ⟨rfl, HSY.out.bel⟩
  | true =>
    rw [hf] at HF
    have LA := Lib.hid (few_txt hf)
    clear hf
    go_wp2_with fail
    refine HF.out.mono ?_; rintro e y1 ⟨rfl, hb⟩
    have HS2 := Lib.hid (HS1.out.later hb)
    clear hb e0 HF HS1
    have e0 := HS2.out.ba.cell 0
    simp at e0
    have HF := Lib.hid (refform_any l A c1 (by have := LA.out.1; omega) HTX.out _ HS2.out.row)
    cases hf : formB l with
    | false =>
      rw [hf] at HF
      clear hf
      go_wp2_with fail
      refine HF.out.mono ?_; rintro e w3 ⟨rfl, hb⟩
      have HSX := Lib.hid (HS2.out.later hb)
      clear hb e0 HF HS2
      go_wp2_with fail
      refine (awake6_any _ HSX.out.t).mono ?_; rintro e WN ⟨rfl, hb⟩
      have HSY := Lib.hid (HSX.out.later hb)
      clear hb
      go_wp2
      go_ret
      exact ⟨rfl, HSY.out.bel⟩
    | true =>
      rw [hf] at HF
      have FA := Lib.hid ((formB_iff l).1 hf)
      clear hf
      go_wp2_with fail
      refine HF.out.mono ?_; rintro e y3 ⟨rfl, hb⟩
      have HS4 := Lib.hid (HS2.out.later hb)
      clear hb e0 HF HS2
      have hla := LA.out.1
      have SA : Hid (Sd l) := ⟨FA.out, by omega, HTX.out⟩
      have PA : Hid (PrOk l) := pr_of SA.out LA.out.2
      have C1 : Hid (∀ w', PtS w A l c1 a w' → Calls Tryd.prog 9 #[.agg #[.slice A l.length c1]] w' (Ans w' (.string (bs (textN l))))) := fun w' h => (show IsD l (.agg #[.slice A l.length c1]) w' from ⟨A, c1, hc1, rfl, h.row⟩).ptext PA.out h.t
      have C2 : Hid (∀ w', PtS w A l c1 a w' → Calls Tryd.prog 10 #[.agg #[.slice A l.length c1]] w' (Ans w' (.string (bs (textN l))))) := fun w' h => rtext_any l PA.out A c1 w' h.row
      have C3 : Hid (∀ w', PtS w A l c1 a w' → Calls Tryd.prog 11 #[.agg #[.slice A l.length c1]] w' (Ans w' (.int .i64 (deepN l : Int)))) := fun w' h => (show IsD l (.agg #[.slice A l.length c1]) w' from ⟨A, c1, hc1, rfl, h.row⟩).pdeep PA.out h.t rfl
      have C4 : Hid (∀ w', PtS w A l c1 a w' → Calls Tryd.prog 12 #[.agg #[.slice A l.length c1]] w' (Ans w' (.int .i64 (deepN l : Int)))) := fun w' h => rdp6_any l PA.out A c1 w' h.row
      have C5 : Hid (∀ w', Calls Tryd.prog 13 #[cls a] w' (Ans w' (.string (bs (clsT a))))) := fun w' => class_any6 a w'
      have C6 : Hid (∀ w', Calls Tryd.prog 14 #[cls a] w' (Ans w' (.string (bs (clsT a))))) := fun w' => rcls_any a w'
      clear SA PA FA LA HTX hla
      generalize textN l = T at *
      generalize deepN l = D at *
      generalize clsT a = U at *
      have q1 : ((bs T).toList == (bs T).toList) = true := by simp
      have q2 : ((D : Int) == (D : Int)) = true := by simp
      have q3 : ((bs U).toList == (bs U).toList) = true := by simp
      go_upto_region 3 with (fail)
      refine wp_region_stable (S := (PtS w A l c1 a)) (hSt := fun _ _ h hb => h.later hb) (plan := [[(2, none)], [(18, some 0)], [(2, none)], [(20, some 2)], [(19, some 1), (21, some 3)], [(22, some 4)], [(2, none)], [(24, some 6)], [(2, none)], [(26, some 8)], [(25, some 7), (27, some 9)], [(23, some 5), (28, some 10)], [(29, some 11)], [(3, none)], [(31, some 13)], [(3, none)], [(33, some 15)], [(32, some 14), (34, some 16)], [(30, some 12), (35, some 17)], [(36, some 18)]]) (by kernel_rfl) (by kernel_rfl) (by kernel_rfl) ?hS ?_
      rotate_left
      iterate 20 first
        | (refine chain_skip (by rfl) (by rfl) ?_)
        | (apply chain_want (by rfl)
           · intro act wx hS hr
             simp at hr
             obtain ⟨d0, d1, d2, d3⟩ := four_cells6 hS.box
             have e0 := hS.ba.cell 0
             simp at e0
             go_simp
             (try go_ints)
             first
               | exact Done.same (v := cls a)
               | ((with_reducible refine (C1.out _ hS).mono ?_); rintro e w' ⟨rfl, hb⟩; exact Done.mk hb)
               | ((with_reducible refine (C2.out _ hS).mono ?_); rintro e w' ⟨rfl, hb⟩; exact Done.mk hb)
               | ((with_reducible refine (C3.out _ hS).mono ?_); rintro e w' ⟨rfl, hb⟩; exact Done.mk hb)
               | ((with_reducible refine (C4.out _ hS).mono ?_); rintro e w' ⟨rfl, hb⟩; exact Done.mk hb)
               | ((with_reducible refine (C5.out _).mono ?_); rintro e w' ⟨rfl, hb⟩; exact Done.mk hb)
               | ((with_reducible refine (C6.out _).mono ?_); rintro e w' ⟨rfl, hb⟩; exact Done.mk hb)
               | exact Done.same
          )
      show ∀ w', _ → _
      intro wz hz
      simp [Act.put]
      case hS => exact HS4.out
      have HZ := Lib.hid hz
      clear hz
      go_wp2
      go_ret
      exact ⟨by first | rfl | simp, HZ.out.bel⟩
end Go.Proofs.YtacaloddhklkiaaDoor
