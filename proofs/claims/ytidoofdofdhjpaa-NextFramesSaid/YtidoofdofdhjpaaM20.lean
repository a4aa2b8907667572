/- The document's wholes: walked. -/
import Derived.Test.YtidoofdofdhjpaaM19
import Derived.Test.YtidoofdofdhjpaaM18
import Derived.Test.YtidoofdofdhjpaaM03
namespace Go.Proofs.Ytidoofdofdhjpaa
open Go Go.RowKit
set_option linter.unusedVariables false
set_option linter.unusedSimpArgs false
structure RbS (w0 : World) (A : Option Addr) (l : List Nd) (c : Nat) (w : World) : Prop where
 bel : Below w0.heap.size w0 w
 row : NRow w A l
 box : Blk w w0.heap.size #[.slice A l.length c] 24
 res : Blk w (w0.heap.size + 1) #[.slice none 0 0] 24
theorem RbS.later {w0 w w' : World} {A : Option Addr} {l : List Nd} {c : Nat} (h : RbS w0 A l c w) (hb : Below w.heap.size w w') : RbS w0 A l c w' := ⟨h.bel.trans (hb.mono h.bel.size), h.row.later hb, h.box.later hb, h.res.later hb⟩
theorem RbS.new (w : World) (A : Option Addr) (l : List Nd) (c : Nat) (h : NRow w A l) : RbS w A l c ((w.alloc (.cells #[.slice A l.length c] 24)).alloc (.cells #[.slice none 0 0] 24)) := by
 have HB := ((Below.refl w.heap.size w).alloc (Nat.le_refl _) (.cells #[.slice A l.length c] 24)).alloc (by simp) (.cells #[.slice none 0 0] 24)
 exact ⟨HB, h.later HB, (Blk.new w _ _).alloc _, Blk.new' (by simp) _ _⟩
set_option maxHeartbeats 16000000 in
set_option maxRecDepth 100000 in
theorem rwrap_any (kind lo hi : Int) (l : List Nd) (A : Option Addr) (c : Nat) (hpos : 0 < l.length) (hlen : l.length <= 536870912) (hok : ∀ n ∈ l, MvOk 0 n /\ n.kind <= 9) (w : World) (hrow : NRow w A l) :
 Calls Try.prog 20 #[.int .i64 kind, .int .i64 lo, .int .i64 hi, .agg #[.slice A l.length c]] w (DPost w (wrapL kind lo hi l)) := by
 have HS0 := Lib.hid (RbS.new w A l c hrow)
 have HOK := Lib.hid hok
 clear hrow hok
 go_enter Try.func20, Try.ntmps20
 go_upto_region 1 with (fail)
 generalize (w.alloc (.cells #[.slice A l.length c] 24)).alloc (.cells #[.slice none 0 0] 24) = w1 at *
 have hmin : -9223372036854775808 <= (l.length : Int) - 1 := by omega
 have hl1 : l.length < 1073741824 := by omega
 obtain ⟨wh, hwh⟩ : ∃ wh : Nd, wh = ⟨kind, (l.length : Int) - 1, 0, lo, hi, 0#256, []⟩ := ⟨_, rfl⟩
 have HWH := Lib.hid hwh
 have HWC : Hid (ndC wh = #[.int .i64 kind, .int .i64 ((l.length : Int) - 1), .int .i64 0, .int .i64 lo, .int .i64 hi, .int .u64 0, .int .u64 0, .int .u64 0, .int .u64 0, .string ⟨#[]⟩]) := by unfold Hid; rw [hwh, ndC_zero]; rfl
 clear hwh
 have FM : Hid (∀ w', RbS w A l c w' -> Calls Try.prog 38 #[.slice A l.length c, .int .i64 0] w' (LaidPost w' w'.heap.size l)) := fun w' h => by
  have := rmoved_any l 0 A c w' h.row hl1 HOK.out
  rwa [map_mv_zero] at this
 refine wp_region_stable_tail 12 (S := (RbS w A l c)) (hSt := fun _ _ h hb => h.later hb) (plan := [[(7, none)], [(9, some 0)], [(10, some 1)], [(0, none)], [(7, none)], [(13, some 4)], [(14, some 5)], [(15, some 6)], [(1, none)], [(2, none)], [(12, some 3), (16, some 7), (17, some 8), (18, some 9)], [(19, some 10)]]) rfl rfl (by kernel_rfl) (by kernel_rfl) (by kernel_rfl) (by kernel_rfl) ?hS ?_
 rotate_left
 iterate 2 first
  | (refine chain_skip (by rfl) (by rfl) ?_)
  | (apply chain_want (by rfl)
     ·intro act wx hS hr
      simp at hr
      have e0 := hS.box.cell 0
      simp at e0
      go_simp
      (try go_ints)
      first
       | exact Done.same
    )
 (refine chain_rel (OwnB (w.heap.size + 2) l) (OwnB.later (w.heap.size + 2) l) (by rfl) ?_ ?_
  ·intro act wx hS hr
   simp at hr
   have e0 := hS.box.cell 0
   simp at e0
   all_goals go_simp
   ((with_reducible refine (FM.out _ hS).mono ?_); intro e w' hp; obtain ⟨v, rfl, ho, hb⟩ := hp; exact Done.rel hb ⟨ho.base hS.res.lt, Nat.le_trans hS.res.lt hb.size⟩)
 )
 iterate 8 first
  | (refine chain_skip (by rfl) (by rfl) ?_)
  | (apply chain_want (by rfl)
     ·intro act wx hS hr
      simp at hr
      have e0 := hS.box.cell 0
      simp at e0
      go_simp
      (try go_ints)
      first
       | exact Done.same
    )
 (refine chain_rel (New10 wh) (New10.later wh) (by rfl) ?_ ?_
  ·intro act wx hS hr
   simp at hr
   have e0 := hS.box.cell 0
   simp at e0
   all_goals go_simp
   exact Done.rel ((Below.refl _ _).alloc (Nat.le_refl _) _) ⟨_, rfl, by rw [HWC.out]; exact Blk.new _ _ _⟩
 )
 show ∀ w', _ -> _
 intro wz hz
 simp [Act.put]
 case hS => exact HS0.out
 intro v hv u hu
 obtain ⟨bb, rfl, hbb⟩ := hu
 refine wpList_append_nd rfl (.tmp 11) (.tmp 20) rfl (w.heap.size + 2) v l rfl hv.1 bb wh rfl hbb hl1 hv.2 ?_
 intro v' w7 ho7 hb7
 have HB7 := Lib.hid (hz.bel.trans (hb7 w.heap.size (by omega)))
 have HR7 := Lib.hid (hz.res.below (hb7 (w.heap.size + 2) (Nat.le_refl _)) (Nat.lt_succ_self _))
 have HO7 : Hid (OwnN w7 (w.heap.size + 2) v' (wrapL kind lo hi l)) := by unfold Hid wrapL; rw [HWH.out] at ho7; exact ho7
 clear ho7 hb7 hz hv hbb
 obtain ⟨A7, c7, rfl, -⟩ := HO7.out.row
 have r0 := HR7.out.cell 0
 simp at r0
 have rf := HR7.out.frozen
 have s0 := HR7.out.put10 (o := 0) (by simp)
 simp [Act.put]
 go_simp
 go_wp2
 exact bodyPost_ret (v := .agg #[.slice A7 (wrapL kind lo hi l).length c7]) (by simp [results, Try.results20, go_sem, s0]) rfl ⟨_, rfl, (HO7.out.setCell_ne (a := ⟨w.heap.size + 1, 0, none⟩) (Nat.lt_succ_self _) _).base (by omega), HB7.out.setCell (p := ⟨w.heap.size + 1, 0, none⟩) (Nat.le_succ _) _⟩
structure RpS (w0 : World) (A B : Option Addr) (a b : List Nd) (c1 c2 : Nat) (w : World) : Prop where
 bel : Below w0.heap.size w0 w
 ra : NRow w A a
 rb : NRow w B b
 bx : Blk w w0.heap.size #[.slice A a.length c1] 24
 by_ : Blk w (w0.heap.size + 1) #[.slice B b.length c2] 24
 res : Blk w (w0.heap.size + 2) #[.slice none 0 0] 24
theorem RpS.later {w0 w w' : World} {A B : Option Addr} {a b : List Nd} {c1 c2 : Nat} (h : RpS w0 A B a b c1 c2 w) (hb : Below w.heap.size w w') : RpS w0 A B a b c1 c2 w' := ⟨h.bel.trans (hb.mono h.bel.size), h.ra.later hb, h.rb.later hb, h.bx.later hb, h.by_.later hb, h.res.later hb⟩
theorem RpS.new (w : World) (A B : Option Addr) (a b : List Nd) (c1 c2 : Nat) (ha : NRow w A a) (hb : NRow w B b) : RpS w A B a b c1 c2 (((w.alloc (.cells #[.slice A a.length c1] 24)).alloc (.cells #[.slice B b.length c2] 24)).alloc (.cells #[.slice none 0 0] 24)) := by
 have HB := (((Below.refl w.heap.size w).alloc (Nat.le_refl _) (.cells #[.slice A a.length c1] 24)).alloc (by simp) (.cells #[.slice B b.length c2] 24)).alloc (by simp; omega) (.cells #[.slice none 0 0] 24)
 exact ⟨HB, ha.later HB, hb.later HB, ((Blk.new w _ _).alloc _).alloc _, (Blk.new' (by simp) _ _).alloc _, Blk.new' (by simp) _ _⟩
def SomeN (l : List Nd) (v : Value) (w : World) : Prop := ∃ b o c, v = .slice (some ⟨b, o, none⟩) l.length c /\ NRow w (some ⟨b, o, none⟩) l
theorem SomeN.later (l : List Nd) (v : Value) (w w' : World) (h : SomeN l v w) (hb : Below w.heap.size w w') : SomeN l v w' := by obtain ⟨b, o, c, h1, h2⟩ := h; exact ⟨b, o, c, h1, h2.later hb⟩
theorem OwnN.someN {w : World} {base : Nat} {v : Value} {l : List Nd} (h : OwnN w base v l) (hne : 0 < l.length) : SomeN l v w := by
 obtain ⟨g, cap, cur, hv, -⟩ := h.blk hne
 obtain ⟨A, c, hv2, hr⟩ := h.row
 rw [hv] at hv2; cases hv2
 exact ⟨g, 0, cap, hv, hr⟩
set_option maxHeartbeats 16000000 in
set_option maxRecDepth 100000 in
theorem rpairs_any (kind : Int) (a b : List Nd) (A B : Option Addr) (c1 c2 : Nat) (hp1 : 0 < a.length) (hp2 : 0 < b.length) (hl1 : a.length <= 268435456) (hl2 : b.length <= 268435456) (hok1 : ∀ n ∈ a, MvOk 0 n /\ n.kind <= 9) (hok2 : ∀ n ∈ b, MvOk (a.length : Int) n /\ n.kind <= 9) (w : World) (ha : NRow w A a) (hb : NRow w B b) :
 Calls Try.prog 26 #[.int .i64 kind, .agg #[.slice A a.length c1], .agg #[.slice B b.length c2]] w (DPost w (pairL kind a b)) := by
 have HS0 := Lib.hid (RpS.new w A B a b c1 c2 ha hb)
 have HOK1 := Lib.hid hok1
 have HOK2 := Lib.hid hok2
 clear ha hb hok1 hok2
 go_enter Try.func26, Try.ntmps26
 go_upto_region 1 with (fail)
 generalize ((w.alloc (.cells #[.slice A a.length c1] 24)).alloc (.cells #[.slice B b.length c2] 24)).alloc (.cells #[.slice none 0 0] 24) = w1 at *
 have FM : Hid (∀ w', RpS w A B a b c1 c2 w' -> Calls Try.prog 38 #[.slice A a.length c1, .int .i64 0] w' (LaidPost w' w'.heap.size a)) := fun w' h => by
  have := rmoved_any a 0 A c1 w' h.ra (by omega) HOK1.out
  rwa [map_mv_zero] at this
 have FN : Hid (∀ w', RpS w A B a b c1 c2 w' -> Calls Try.prog 38 #[.slice B b.length c2, .int .i64 (a.length : Int)] w' (LaidPost w' w'.heap.size (b.map (mvN (a.length : Int))))) := fun w' h =>
  rmoved_any b (a.length : Int) B c2 w' h.rb (by omega) HOK2.out
 have HM2 : Hid ((b.map (mvN (a.length : Int))).length = b.length) := List.length_map _
 obtain ⟨m, hm⟩ : ∃ m, m = b.map (mvN (a.length : Int)) := ⟨_, rfl⟩
 have HMM := Lib.hid hm
 rw [<- hm] at FN HM2
 clear hm
 have hml : 0 < m.length := by rw [HM2.out]; exact hp2
 have hl3 : a.length + m.length < 1073741824 := by rw [HM2.out]; omega
 refine wp_region_stable_tail 9 (S := (RpS w A B a b c1 c2)) (hSt := fun _ _ h hb => h.later hb) (plan := [[(4, none)], [(8, some 0)], [(9, some 1)], [(5, none)], [(11, some 3)], [(4, none)], [(13, some 5)], [(14, some 6)], [(12, some 4), (15, some 7)]]) rfl rfl (by kernel_rfl) (by kernel_rfl) (by kernel_rfl) (by kernel_rfl) ?hS ?_
 rotate_left
 iterate 2 first
  | (refine chain_skip (by rfl) (by rfl) ?_)
  | (apply chain_want (by rfl)
     ·intro act wx hS hr
      simp at hr
      have e0 := hS.bx.cell 0
      have e1 := hS.by_.cell 0
      simp at e0 e1
      go_simp
      (try go_ints)
      first
       | exact Done.same
    )
 (refine chain_rel (OwnB (w.heap.size + 3) a) (OwnB.later (w.heap.size + 3) a) (by rfl) ?_ ?_
  ·intro act wx hS hr
   simp at hr
   have e0 := hS.bx.cell 0
   have e1 := hS.by_.cell 0
   simp at e0 e1
   all_goals go_simp
   ((with_reducible refine (FM.out _ hS).mono ?_); intro e w' hp; obtain ⟨v, rfl, ho, hb⟩ := hp; exact Done.rel hb ⟨ho.base hS.res.lt, Nat.le_trans hS.res.lt hb.size⟩)
 )
 iterate 5 first
  | (refine chain_skip (by rfl) (by rfl) ?_)
  | (apply chain_want (by rfl)
     ·intro act wx hS hr
      simp at hr
      have e0 := hS.bx.cell 0
      have e1 := hS.by_.cell 0
      simp at e0 e1
      go_simp
      (try go_ints)
      first
       | exact Done.same
    )
 (refine chain_rel (SomeN m) (SomeN.later m) (by rfl) ?_ ?_
  ·intro act wx hS hr
   simp at hr
   have e0 := hS.bx.cell 0
   have e1 := hS.by_.cell 0
   simp at e0 e1
   all_goals go_simp
   ((with_reducible refine (FN.out _ hS).mono ?_); intro e w' hp; obtain ⟨v, rfl, ho, hb⟩ := hp; exact Done.rel hb (ho.someN hml))
 )
 show ∀ w', _ -> _
 intro wz hz
 simp [Act.put]
 case hS => exact HS0.out
 intro v hv u hu
 obtain ⟨b0, o0, c0, rfl, hr0⟩ := hu
 refine wpList_append_nrow rfl (.tmp 10) (.tmp 16) rfl (w.heap.size + 3) v a rfl hv.1 b0 o0 c0 m rfl hr0 hl3 hv.2 ?_
 intro v' w7 ho7 hb7
 have hlow7 : w.heap.size + 3 <= w7.heap.size := Nat.le_trans hv.2 (hb7 _ (Nat.le_refl _)).size
 have HB7 := Lib.hid (hz.bel.trans (hb7 w.heap.size (by omega)))
 have hB7 := hb7 (w.heap.size + 3) (Nat.le_refl _)
 have HX7 := Lib.hid (hz.bx.below hB7 (by omega))
 have HY7 := Lib.hid (hz.by_.below hB7 (by omega))
 have HR7 := Lib.hid (hz.res.below hB7 (by omega))
 obtain ⟨L, hL⟩ : ∃ L, L = a ++ m := ⟨_, rfl⟩
 rw [<- hL] at ho7
 have HLL := Lib.hid hL
 have HO7 := Lib.hid ho7
 clear ho7 hb7 hz hv hr0 hB7 hL
 have e0 := HX7.out.cell 0
 have e1 := HY7.out.cell 0
 simp at e0 e1
 have hmin : -9223372036854775808 <= (a.length : Int) - 1 := by omega
 have hmin2 : -9223372036854775808 <= (a.length : Int) + (b.length : Int) - 1 := by omega
 have hmax2 : (a.length : Int) + (b.length : Int) <= 536870912 := by omega
 obtain ⟨wh, hwh⟩ : ∃ wh : Nd, wh = ⟨kind, (a.length : Int) - 1, (a.length : Int) + (b.length : Int) - 1, 0, 0, 0#256, []⟩ := ⟨_, rfl⟩
 have HWC : Hid (ndC wh = #[.int .i64 kind, .int .i64 ((a.length : Int) - 1), .int .i64 ((a.length : Int) + (b.length : Int) - 1), .int .i64 0, .int .i64 0, .int .u64 0, .int .u64 0, .int .u64 0, .int .u64 0, .string ⟨#[]⟩]) := by unfold Hid; rw [hwh, ndC_zero]; rfl
 have HPL : Hid (pairL kind a b = L ++ [wh]) := by unfold Hid pairL; rw [hwh, HLL.out, HMM.out]
 clear hwh
 have hb8 := (Below.refl w7.heap.size w7).alloc (Nat.le_refl _) (.cells (ndC wh) 58)
 have HO8 := Lib.hid (HO7.out.later hb8)
 have HR8 := Lib.hid (HR7.out.later hb8)
 have HB8 := Lib.hid (HB7.out.trans (hb8.mono HB7.out.size))
 have HK8 := Lib.hid (Blk.new w7 (ndC wh) 58)
 have hlow8 : w.heap.size + 3 <= (w7.alloc (.cells (ndC wh) 58)).heap.size := Nat.le_trans hlow7 hb8.size
 have hl4 : L.length < 1073741824 := by rw [HLL.out, List.length_append]; exact hl3
 rw [HWC.out] at HO8 HR8 HB8 HK8 hlow8
 clear hb8
 obtain ⟨A7, c7, hv7, -⟩ := HO7.out.row
 subst hv7
 simp [Act.put]
 go_simp
 go_upto_region 2 with (fail)
 go_wp2_with (at_builtin; refine wpList_append_nd rfl _ _ rfl (w.heap.size + 3) _ L rfl HO8.out w7.heap.size wh rfl (HWC.out.symm ▸ HK8.out) hl4 hlow8 ?_; intro v9 w9 ho9 hb9; have HO9 : Hid (OwnN w9 (w.heap.size + 3) v9 (pairL kind a b)) := (HPL.out.symm ▸ ho9); have HB9 := Lib.hid (HB8.out.trans (hb9 w.heap.size (by omega))); have HR9 := Lib.hid (HR8.out.below (hb9 (w.heap.size + 3) (Nat.le_refl _)) (by omega)); clear ho9 hb9; obtain ⟨A9, c9, rfl, -⟩ := HO9.out.row; have r0 := HR9.out.cell 0; simp at r0; have rf := HR9.out.frozen; have s0 := HR9.out.put10 (o := 0) (by simp))
 exact bodyPost_ret (v := .agg #[.slice A9 (pairL kind a b).length c9]) (by simp [results, Try.results26, go_sem, s0]) rfl ⟨_, rfl, (HO9.out.setCell_ne (a := ⟨w.heap.size + 2, 0, none⟩) (Nat.lt_succ_self _) _).base (by omega), HB9.out.setCell (p := ⟨w.heap.size + 2, 0, none⟩) (by show w.heap.size <= w.heap.size + 2; omega) _⟩
theorem natI_snoc (S : List Nat) (x : Nat) : natI S ++ [(x : Int)] = natI (S ++ [x]) := by unfold natI; simp
set_option maxRecDepth 100000
end Go.Proofs.Ytidoofdofdhjpaa
namespace Go.Proofs.Ytidoofdofdhjpaa
open Go Go.RowKit
set_option linter.unusedVariables false
set_option linter.unusedSimpArgs false
end Go.Proofs.Ytidoofdofdhjpaa
