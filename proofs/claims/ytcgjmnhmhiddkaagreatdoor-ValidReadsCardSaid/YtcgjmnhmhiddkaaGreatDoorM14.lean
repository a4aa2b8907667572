/- The statement NodeForms of layer 4, walked. -/
import Derived.Test.YtcgjmnhmhiddkaaGreatDoorM13
import Derived.Test.YtcgjmnhmhiddkaaGreatDoorM12
namespace Go.Proofs.YtcgjmnhmhiddkaaGreatDoor
open Go Go.RowKit
set_option linter.unusedVariables false
set_option linter.unusedSimpArgs false
theorem okN.kind9 {l : List Nd} {i : Nat} {n : Nd} (h : okN l i n) : n.kind ≤ 9 := by
  obtain ⟨_, h⟩ := h; omega
def OwnB (base : Nat) (l : List Nd) (v : Value) (w : World) : Prop := OwnN w base v l ∧ base ≤ w.heap.size
theorem OwnB.later (base : Nat) (l : List Nd) (v : Value) (w w' : World) (h : OwnB base l v w) (hb : Below w.heap.size w w') : OwnB base l v w' := ⟨h.1.later hb, Nat.le_trans h.2 hb.size⟩
def New10 (n : Nd) (v : Value) (w : World) : Prop := ∃ b, v = .slice (some ⟨b, 0, none⟩) 1 1 ∧ Blk w b (ndC n) 44
theorem New10.later (n : Nd) (v : Value) (w w' : World) (h : New10 n v w) (hb : Below w.heap.size w w') : New10 n v w' := by obtain ⟨b, h1, h2⟩ := h; exact ⟨b, h1, h2.later hb⟩
theorem OwnN.base {w : World} {b b' : Nat} {v : Value} {l : List Nd} (h : OwnN w b v l) (hb : b' ≤ b) : OwnN w b' v l := by
  obtain ⟨h0, ⟨hv, hn⟩ | ⟨g, cap, cur, hv, hg, hr⟩⟩ := h
  · exact ⟨h0, .inl ⟨hv, hn⟩⟩
  · exact ⟨h0, .inr ⟨g, cap, cur, hv, Nat.le_trans hb hg, hr⟩⟩
structure RbS (w0 : World) (A : Option Addr) (l : List Nd) (c : Nat) (w : World) : Prop where
  bel : Below w0.heap.size w0 w
  row : NRow w A l
  box : Blk w w0.heap.size #[.slice A l.length c] 25
  res : Blk w (w0.heap.size + 1) #[.slice none 0 0] 25
theorem RbS.later {w0 w w' : World} {A : Option Addr} {l : List Nd} {c : Nat} (h : RbS w0 A l c w) (hb : Below w.heap.size w w') : RbS w0 A l c w' := ⟨h.bel.trans (hb.mono h.bel.size), h.row.later hb, h.box.later hb, h.res.later hb⟩
theorem RbS.new (w : World) (A : Option Addr) (l : List Nd) (c : Nat) (h : NRow w A l) : RbS w A l c ((w.alloc (.cells #[.slice A l.length c] 25)).alloc (.cells #[.slice none 0 0] 25)) := by
  have HB := ((Below.refl w.heap.size w).alloc (Nat.le_refl _) (.cells #[.slice A l.length c] 25)).alloc (by simp) (.cells #[.slice none 0 0] 25)
  exact ⟨HB, h.later HB, (Blk.new w _ _).alloc _, Blk.new' (by simp) _ _⟩
set_option maxHeartbeats 16000000 in
set_option maxRecDepth 100000 in
theorem rwrap_any (kind lo hi : Int) (l : List Nd) (A : Option Addr) (c : Nat) (hpos : 0 < l.length) (hlen : l.length ≤ 536870912) (hok : ∀ n ∈ l, MvOk 0 n ∧ n.kind ≤ 9) (w : World) (hrow : NRow w A l) :
    Calls Tryz.prog 20 #[.int .i64 kind, .int .i64 lo, .int .i64 hi, .agg #[.slice A l.length c]] w (DPost w (wrapL kind lo hi l)) := by
  have HS0 := Lib.hid (RbS.new w A l c hrow)
  have HOK := Lib.hid hok
  clear hrow hok
  go_enter Tryz.func20, Tryz.ntmps20
  go_upto_region 1 with (fail)
  generalize (w.alloc (.cells #[.slice A l.length c] 25)).alloc (.cells #[.slice none 0 0] 25) = w1 at *
  have hmin : -9223372036854775808 ≤ (l.length : Int) - 1 := by omega
  have hl1 : l.length < 1073741824 := by omega
  obtain ⟨wh, hwh⟩ : ∃ wh : Nd, wh = ⟨kind, (l.length : Int) - 1, 0, lo, hi, 0#256, []⟩ := ⟨_, rfl⟩
  have HWH := Lib.hid hwh
  have HWC : Hid (ndC wh = #[.int .i64 kind, .int .i64 ((l.length : Int) - 1), .int .i64 0, .int .i64 lo, .int .i64 hi, .int .u64 0, .int .u64 0, .int .u64 0, .int .u64 0, .string ⟨#[]⟩]) := by unfold Hid; rw [hwh, ndC_zero]; rfl
  clear hwh
  have FM : Hid (∀ w', RbS w A l c w' → Calls Tryz.prog 33 #[.slice A l.length c, .int .i64 0] w' (LaidPost w' w'.heap.size l)) := fun w' h => by
    have := rmoved_any l 0 A c w' h.row hl1 HOK.out
    rwa [map_mv_zero] at this
  refine wp_region_stable_tail 12 (S := (RbS w A l c)) (hSt := fun _ _ h hb => h.later hb) (plan := [[(7, none)], [(9, some 0)], [(10, some 1)], [(0, none)], [(7, none)], [(13, some 4)], [(14, some 5)], [(15, some 6)], [(1, none)], [(2, none)], [(12, some 3), (16, some 7), (17, some 8), (18, some 9)], [(19, some 10)]]) rfl rfl (by kernel_rfl) (by kernel_rfl) (by kernel_rfl) (by kernel_rfl) ?hS ?_
  rotate_left
  iterate 2 first
    | (refine chain_skip (by rfl) (by rfl) ?_)
    | (apply chain_want (by rfl)
       · intro act wx hS hr
         simp at hr
         have e0 := hS.box.cell 0
         simp at e0
         go_simp
         (try go_ints)
         first
           | exact Done.same
      )
  (refine chain_rel (OwnB (w.heap.size + 2) l) (OwnB.later (w.heap.size + 2) l) (by rfl) ?_ ?_
   · intro act wx hS hr
     simp at hr
     have e0 := hS.box.cell 0
     simp at e0
     all_goals go_simp
     ((with_reducible refine (FM.out _ hS).mono ?_); intro e w' hp; obtain ⟨v, rfl, ho, hb⟩ := hp; exact Done.rel hb ⟨ho.base hS.res.lt, Nat.le_trans hS.res.lt hb.size⟩)
  )
  iterate 8 first
    | (refine chain_skip (by rfl) (by rfl) ?_)
    | (apply chain_want (by rfl)
       · intro act wx hS hr
         simp at hr
         have e0 := hS.box.cell 0
         simp at e0
         go_simp
         (try go_ints)
         first
           | exact Done.same
      )
  (refine chain_rel (New10 wh) (New10.later wh) (by rfl) ?_ ?_
   · intro act wx hS hr
     simp at hr
     have e0 := hS.box.cell 0
     simp at e0
     all_goals go_simp
     exact Done.rel ((Below.refl _ _).alloc (Nat.le_refl _) _) ⟨_, rfl, by rw [HWC.out]; exact Blk.new _ _ _⟩
  )
  show ∀ w', _ → _
  intro wz hz
  simp [Act.put]
  case hS => exact HS0.out
  intro v hv u hu
  obtain ⟨bb, rfl, hbb⟩ := hu
  refine wpList_append_nd rfl (.tmp 11) (.tmp 20) rfl (w.heap.size + 2) v l rfl hv.1 bb wh rfl hbb hl1 hv.2 ?_
  intro v' w7 ho7 hb7
  have HB7 := Lib.hid (hz.bel.trans (hb7 w.heap.size (by omega)))
  have HR7 := Lib.hid (hz.res.below (hb7 (w.heap.size + 2) (Nat.le_refl _)) (Nat.lt_succ_self _))
  have HO7 : Hid (OwnN w7 (w.heap.size + 2) v' (wrapL kind lo hi l)) := by unfold Hid wrapL; rw [HWH.out] at ho7; exact ho7
  clear ho7 hb7 hz hv hbb
  obtain ⟨A7, c7, rfl, -⟩ := HO7.out.row
  have r0 := HR7.out.cell 0
  simp at r0
  have rf := HR7.out.frozen
  have s0 := HR7.out.put10 (o := 0) (by simp)
  simp [Act.put]
  go_simp
  go_wp2
  exact bodyPost_ret (v := .agg #[.slice A7 (wrapL kind lo hi l).length c7]) (by simp [results, Tryz.results20, go_sem, s0]) rfl ⟨_, rfl, (HO7.out.setCell_ne (a := ⟨w.heap.size + 1, 0, none⟩) (Nat.lt_succ_self _) _).base (by omega), HB7.out.setCell (p := ⟨w.heap.size + 1, 0, none⟩) (Nat.le_succ _) _⟩
structure RpS (w0 : World) (A B : Option Addr) (a b : List Nd) (c1 c2 : Nat) (w : World) : Prop where
  bel : Below w0.heap.size w0 w
  ra : NRow w A a
  rb : NRow w B b
  bx : Blk w w0.heap.size #[.slice A a.length c1] 25
  by_ : Blk w (w0.heap.size + 1) #[.slice B b.length c2] 25
  res : Blk w (w0.heap.size + 2) #[.slice none 0 0] 25
theorem RpS.later {w0 w w' : World} {A B : Option Addr} {a b : List Nd} {c1 c2 : Nat} (h : RpS w0 A B a b c1 c2 w) (hb : Below w.heap.size w w') : RpS w0 A B a b c1 c2 w' := ⟨h.bel.trans (hb.mono h.bel.size), h.ra.later hb, h.rb.later hb, h.bx.later hb, h.by_.later hb, h.res.later hb⟩
theorem RpS.new (w : World) (A B : Option Addr) (a b : List Nd) (c1 c2 : Nat) (ha : NRow w A a) (hb : NRow w B b) : RpS w A B a b c1 c2 (((w.alloc (.cells #[.slice A a.length c1] 25)).alloc (.cells #[.slice B b.length c2] 25)).alloc (.cells #[.slice none 0 0] 25)) := by
  have HB := (((Below.refl w.heap.size w).alloc (Nat.le_refl _) (.cells #[.slice A a.length c1] 25)).alloc (by simp) (.cells #[.slice B b.length c2] 25)).alloc (by simp; omega) (.cells #[.slice none 0 0] 25)
  exact ⟨HB, ha.later HB, hb.later HB, ((Blk.new w _ _).alloc _).alloc _, (Blk.new' (by simp) _ _).alloc _, Blk.new' (by simp) _ _⟩
def SomeN (l : List Nd) (v : Value) (w : World) : Prop := ∃ b o c, v = .slice (some ⟨b, o, none⟩) l.length c ∧ NRow w (some ⟨b, o, none⟩) l
theorem SomeN.later (l : List Nd) (v : Value) (w w' : World) (h : SomeN l v w) (hb : Below w.heap.size w w') : SomeN l v w' := by obtain ⟨b, o, c, h1, h2⟩ := h; exact ⟨b, o, c, h1, h2.later hb⟩
theorem OwnN.someN {w : World} {base : Nat} {v : Value} {l : List Nd} (h : OwnN w base v l) (hne : 0 < l.length) : SomeN l v w := by
  obtain ⟨g, cap, cur, hv, -⟩ := h.blk hne
  obtain ⟨A, c, hv2, hr⟩ := h.row
  rw [hv] at hv2; cases hv2
  exact ⟨g, 0, cap, hv, hr⟩
set_option maxHeartbeats 16000000 in
set_option maxRecDepth 100000 in
theorem rpairs_any (kind : Int) (a b : List Nd) (A B : Option Addr) (c1 c2 : Nat) (hp1 : 0 < a.length) (hp2 : 0 < b.length) (hl1 : a.length ≤ 268435456) (hl2 : b.length ≤ 268435456) (hok1 : ∀ n ∈ a, MvOk 0 n ∧ n.kind ≤ 9) (hok2 : ∀ n ∈ b, MvOk (a.length : Int) n ∧ n.kind ≤ 9) (w : World) (ha : NRow w A a) (hb : NRow w B b) :
    Calls Tryz.prog 18 #[.int .i64 kind, .agg #[.slice A a.length c1], .agg #[.slice B b.length c2]] w (DPost w (pairL kind a b)) := by
  have HS0 := Lib.hid (RpS.new w A B a b c1 c2 ha hb)
  have HOK1 := Lib.hid hok1
  have HOK2 := Lib.hid hok2
  clear ha hb hok1 hok2
  go_enter Tryz.func18, Tryz.ntmps18
  go_upto_region 1 with (fail)
  generalize ((w.alloc (.cells #[.slice A a.length c1] 25)).alloc (.cells #[.slice B b.length c2] 25)).alloc (.cells #[.slice none 0 0] 25) = w1 at *
  have FM : Hid (∀ w', RpS w A B a b c1 c2 w' → Calls Tryz.prog 33 #[.slice A a.length c1, .int .i64 0] w' (LaidPost w' w'.heap.size a)) := fun w' h => by
    have := rmoved_any a 0 A c1 w' h.ra (by omega) HOK1.out
    rwa [map_mv_zero] at this
  have FN : Hid (∀ w', RpS w A B a b c1 c2 w' → Calls Tryz.prog 33 #[.slice B b.length c2, .int .i64 (a.length : Int)] w' (LaidPost w' w'.heap.size (b.map (mvN (a.length : Int))))) := fun w' h =>
    rmoved_any b (a.length : Int) B c2 w' h.rb (by omega) HOK2.out
  have HM2 : Hid ((b.map (mvN (a.length : Int))).length = b.length) := List.length_map _
  obtain ⟨m, hm⟩ : ∃ m, m = b.map (mvN (a.length : Int)) := ⟨_, rfl⟩
  have HMM := Lib.hid hm
  rw [← hm] at FN HM2
  clear hm
  have hml : 0 < m.length := by rw [HM2.out]; exact hp2
  have hl3 : a.length + m.length < 1073741824 := by rw [HM2.out]; omega
  refine wp_region_stable_tail 9 (S := (RpS w A B a b c1 c2)) (hSt := fun _ _ h hb => h.later hb) (plan := [[(4, none)], [(8, some 0)], [(9, some 1)], [(5, none)], [(11, some 3)], [(4, none)], [(13, some 5)], [(14, some 6)], [(12, some 4), (15, some 7)]]) rfl rfl (by kernel_rfl) (by kernel_rfl) (by kernel_rfl) (by kernel_rfl) ?hS ?_
  rotate_left
  iterate 2 first
    | (refine chain_skip (by rfl) (by rfl) ?_)
    | (apply chain_want (by rfl)
       · intro act wx hS hr
         simp at hr
         have e0 := hS.bx.cell 0
         have e1 := hS.by_.cell 0
         simp at e0 e1
         go_simp
         (try go_ints)
         first
           | exact Done.same
      )
  (refine chain_rel (OwnB (w.heap.size + 3) a) (OwnB.later (w.heap.size + 3) a) (by rfl) ?_ ?_
   · intro act wx hS hr
     simp at hr
     have e0 := hS.bx.cell 0
     have e1 := hS.by_.cell 0
     simp at e0 e1
     all_goals go_simp
     ((with_reducible refine (FM.out _ hS).mono ?_); intro e w' hp; obtain ⟨v, rfl, ho, hb⟩ := hp; exact Done.rel hb ⟨ho.base hS.res.lt, Nat.le_trans hS.res.lt hb.size⟩)
  )
  iterate 5 first
    | (refine chain_skip (by rfl) (by rfl) ?_)
    | (apply chain_want (by rfl)
       · intro act wx hS hr
         simp at hr
         have e0 := hS.bx.cell 0
         have e1 := hS.by_.cell 0
         simp at e0 e1
         go_simp
         (try go_ints)
         first
           | exact Done.same
      )
  (refine chain_rel (SomeN m) (SomeN.later m) (by rfl) ?_ ?_
   · intro act wx hS hr
     simp at hr
     have e0 := hS.bx.cell 0
     have e1 := hS.by_.cell 0
     simp at e0 e1
     all_goals go_simp
     ((with_reducible refine (FN.out _ hS).mono ?_); intro e w' hp; obtain ⟨v, rfl, ho, hb⟩ := hp; exact Done.rel hb (ho.someN hml))
  )
  show ∀ w', _ → _
  intro wz hz
  simp [Act.put]
  case hS => exact HS0.out
  intro v hv u hu
  obtain ⟨b0, o0, c0, rfl, hr0⟩ := hu
  refine wpList_append_nrow rfl (.tmp 10) (.tmp 16) rfl (w.heap.size + 3) v a rfl hv.1 b0 o0 c0 m rfl hr0 hl3 hv.2 ?_
  intro v' w7 ho7 hb7
  have hlow7 : w.heap.size + 3 ≤ w7.heap.size := Nat.le_trans hv.2 (hb7 _ (Nat.le_refl _)).size
  have HB7 := Lib.hid (hz.bel.trans (hb7 w.heap.size (by omega)))
  have hB7 := hb7 (w.heap.size + 3) (Nat.le_refl _)
  have HX7 := Lib.hid (hz.bx.below hB7 (by omega))
  have HY7 := Lib.hid (hz.by_.below hB7 (by omega))
  have HR7 := Lib.hid (hz.res.below hB7 (by omega))
  obtain ⟨L, hL⟩ : ∃ L, L = a ++ m := ⟨_, rfl⟩
  rw [← hL] at ho7
  have HLL := Lib.hid hL
  have HO7 := Lib.hid ho7
  clear ho7 hb7 hz hv hr0 hB7 hL
  have e0 := HX7.out.cell 0
  have e1 := HY7.out.cell 0
  simp at e0 e1
  have hmin : -9223372036854775808 ≤ (a.length : Int) - 1 := by omega
  have hmin2 : -9223372036854775808 ≤ (a.length : Int) + (b.length : Int) - 1 := by omega
  have hmax2 : (a.length : Int) + (b.length : Int) ≤ 536870912 := by omega
  obtain ⟨wh, hwh⟩ : ∃ wh : Nd, wh = ⟨kind, (a.length : Int) - 1, (a.length : Int) + (b.length : Int) - 1, 0, 0, 0#256, []⟩ := ⟨_, rfl⟩
  have HWC : Hid (ndC wh = #[.int .i64 kind, .int .i64 ((a.length : Int) - 1), .int .i64 ((a.length : Int) + (b.length : Int) - 1), .int .i64 0, .int .i64 0, .int .u64 0, .int .u64 0, .int .u64 0, .int .u64 0, .string ⟨#[]⟩]) := by unfold Hid; rw [hwh, ndC_zero]; rfl
  have HPL : Hid (pairL kind a b = L ++ [wh]) := by unfold Hid pairL; rw [hwh, HLL.out, HMM.out]
  clear hwh
  have hb8 := (Below.refl w7.heap.size w7).alloc (Nat.le_refl _) (.cells (ndC wh) 44)
  have HO8 := Lib.hid (HO7.out.later hb8)
  have HR8 := Lib.hid (HR7.out.later hb8)
  have HB8 := Lib.hid (HB7.out.trans (hb8.mono HB7.out.size))
  have HK8 := Lib.hid (Blk.new w7 (ndC wh) 44)
  have hlow8 : w.heap.size + 3 ≤ (w7.alloc (.cells (ndC wh) 44)).heap.size := Nat.le_trans hlow7 hb8.size
  have hl4 : L.length < 1073741824 := by rw [HLL.out, List.length_append]; exact hl3
  rw [HWC.out] at HO8 HR8 HB8 HK8 hlow8
  clear hb8
  obtain ⟨A7, c7, hv7, -⟩ := HO7.out.row
  subst hv7
  simp [Act.put]
  go_simp
  go_upto_region 2 with (fail)
  go_wp2_with (at_builtin; refine wpList_append_nd rfl _ _ rfl (w.heap.size + 3) _ L rfl HO8.out w7.heap.size wh rfl (HWC.out.symm ▸ HK8.out) hl4 hlow8 ?_; intro v9 w9 ho9 hb9; have HO9 : Hid (OwnN w9 (w.heap.size + 3) v9 (pairL kind a b)) := (HPL.out.symm ▸ ho9); have HB9 := Lib.hid (HB8.out.trans (hb9 w.heap.size (by omega))); have HR9 := Lib.hid (HR8.out.below (hb9 (w.heap.size + 3) (Nat.le_refl _)) (by omega)); clear ho9 hb9; obtain ⟨A9, c9, rfl, -⟩ := HO9.out.row; have r0 := HR9.out.cell 0; simp at r0; have rf := HR9.out.frozen; have s0 := HR9.out.put10 (o := 0) (by simp))
  exact bodyPost_ret (v := .agg #[.slice A9 (pairL kind a b).length c9]) (by simp [results, Tryz.results18, go_sem, s0]) rfl ⟨_, rfl, (HO9.out.setCell_ne (a := ⟨w.heap.size + 2, 0, none⟩) (Nat.lt_succ_self _) _).base (by omega), HB9.out.setCell (p := ⟨w.heap.size + 2, 0, none⟩) (by show w.heap.size ≤ w.heap.size + 2; omega) _⟩
structure Sd (l : List Nd) : Prop where
  form : Form l
  len : l.length ≤ 4096
  txt : Txt l
theorem Form.at_' {l : List Nd} (h : Form l) {n : Nd} (hn : n ∈ l) : ∃ i, i < l.length ∧ atN l i = n := by
  obtain ⟨i, hi, rfl⟩ := List.mem_iff_getElem.1 hn
  exact ⟨i, hi, by unfold atN; rw [List.getD_eq_getElem?_getD, List.getElem?_eq_getElem hi]; rfl⟩
theorem Sd.mv {l : List Nd} (h : Sd l) {d : Int} (h1 : -1073741824 ≤ d) (h2 : d ≤ 1073741824) : ∀ n ∈ l, MvOk d n ∧ n.kind ≤ 9 := fun n hn => by
  have hl := h.len
  obtain ⟨i, hi, rfl⟩ := h.form.at_' hn
  exact ⟨(h.form.2.1 i hi).mvOk (by omega) (txt_at h.txt i) h1 h2, (h.form.2.1 i hi).kind9⟩
theorem IsD.rwrap' {l : List Nd} {v : Value} {w : World} (h : IsD l v w) (hs : Sd l) (kind lo hi : Int) : Calls Tryz.prog 20 #[.int .i64 kind, .int .i64 lo, .int .i64 hi, v] w (DPost w (wrapL kind lo hi l)) := by
  obtain ⟨A, c, hc, rfl, hr⟩ := h
  exact rwrap_any kind lo hi l A c hs.form.1 (by have := hs.len; omega) (hs.mv (by omega) (by omega)) w hr
theorem IsD.rpair' {l m : List Nd} {u v : Value} {w : World} (h : IsD l u w) (k : IsD m v w) (hs : Sd l) (ks : Sd m) (kind : Int) : Calls Tryz.prog 18 #[.int .i64 kind, u, v] w (DPost w (pairL kind l m)) := by
  obtain ⟨A, c, hc, rfl, hr⟩ := h
  obtain ⟨B, d, hd, rfl, hq⟩ := k
  have h1 := hs.len
  have h2 := ks.len
  exact rpairs_any kind l m A B c d hs.form.1 ks.form.1 (by omega) (by omega) (hs.mv (by omega) (by omega)) (ks.mv (by omega) (by omega)) w hr hq
end Go.Proofs.YtcgjmnhmhiddkaaGreatDoor
namespace Go.Proofs.YtcgjmnhmhiddkaaGreatDoor
open Go
set_option linter.unusedVariables false
set_option linter.unusedSimpArgs false
def mayK (last k : Int) (o : Nat) : Prop :=
  if last = 8 ∨ last = 9 then k = 3
  else if last = 0 ∨ last = 5 then begK k = true
  else if last = 3 then begK k = true ∨ k = 4
  else begK k = true ∨ k = 5 ∨ k = 6 ∨ k = 7 ∨ (k = 4 ∧ 0 < o) ∨ (k = 10 ∧ o = 0)
def lastK (l : List Tk) (p : Nat) : Int := if p = 0 then 0 else (tkAt l (p - 1)).kind
def opsL (l : List Tk) : Nat → List Int
  | 0 => []
  | p + 1 => if (tkAt l p).kind = 3 then opsL l p ++ [(tkAt l p).at_] else if (tkAt l p).kind = 4 then (opsL l p).dropLast else opsL l p
def mayAt (l : List Tk) (p : Nat) : Prop := mayK (lastK l p) (tkAt l p).kind (opsL l p).length
theorem lastK_next (l : List Tk) (p : Nat) : lastK l (p + 1) = (tkAt l p).kind := by unfold lastK; rw [if_neg (by omega), Nat.add_sub_cancel]
theorem opsL_same {l : List Tk} {p : Nat} (h3 : (tkAt l p).kind ≠ 3) (h4 : (tkAt l p).kind ≠ 4) : opsL l (p + 1) = opsL l p := by rw [opsL, if_neg h3, if_neg h4]
theorem opsL_open {l : List Tk} {p : Nat} (h3 : (tkAt l p).kind = 3) : opsL l (p + 1) = opsL l p ++ [(tkAt l p).at_] := by rw [opsL, if_pos h3]
theorem opsL_close {l : List Tk} {p : Nat} (h4 : (tkAt l p).kind = 4) : opsL l (p + 1) = (opsL l p).dropLast := by rw [opsL, if_neg (by omega), if_pos h4]
def Seg (l : List Tk) (a b : Nat) : Prop := ∀ q, a ≤ q → q < b → mayAt l q ∧ (opsL l (q + 1)).length ≤ 64
theorem Seg.nil (l : List Tk) (a : Nat) : Seg l a a := fun q h1 h2 => by omega
theorem Seg.trans {l : List Tk} {a b c : Nat} (h : Seg l a b) (k : Seg l b c) : Seg l a c := fun q h1 h2 => by
  rcases Nat.lt_or_ge q b with h3 | h3
  · exact h q h1 h3
  · exact k q h3 h2
theorem Seg.one {l : List Tk} {p : Nat} (h : mayAt l p) (k : (opsL l (p + 1)).length ≤ 64) : Seg l p (p + 1) := fun q h1 h2 => by
  obtain rfl : q = p := by omega
  exact ⟨h, k⟩
def endK (last : Int) : Prop := last ≠ 0 ∧ last ≠ 3 ∧ last ≠ 5 ∧ last ≠ 8 ∧ last ≠ 9
theorem may_end {last k : Int} {o : Nat} (h : endK last) : mayK last k o ↔ begK k = true ∨ k = 5 ∨ k = 6 ∨ k = 7 ∨ (k = 4 ∧ 0 < o) ∨ (k = 10 ∧ o = 0) := by
  obtain ⟨h0, h3, h5, h8, h9⟩ := h
  unfold mayK
  rw [if_neg (by omega), if_neg (by omega), if_neg h3]
theorem beg_cases {k : Int} : begK k = true ↔ k = 1 ∨ k = 2 ∨ k = 3 ∨ k = 8 ∨ k = 9 := by
  unfold begK
  simp only [Bool.or_eq_true, decide_eq_true_iff]
  omega
def CtxK (l : List Tk) (p : Nat) : Md → Prop
  | .or | .row | .post | .atom => (lastK l p = 0 ∨ lastK l p = 5) ∨ (lastK l p = 3 ∧ (tkAt l p).kind ≠ 4) ∨ (begK (tkAt l p).kind = true ∧ lastK l p ≠ 8 ∧ lastK l p ≠ 9)
  | .orL _ => endK (lastK l p) ∧ begK (tkAt l p).kind = false ∧ (tkAt l p).kind ≠ 6 ∧ (tkAt l p).kind ≠ 7
  | .rowL _ => endK (lastK l p) ∧ (tkAt l p).kind ≠ 6 ∧ (tkAt l p).kind ≠ 7
  | .postL _ => endK (lastK l p)
  | .group => (lastK l p = 8 ∨ lastK l p = 9) ∨ (tkAt l p).kind = 3 ∧ lastK l p ≠ 8 ∧ lastK l p ≠ 9
  | .inside => lastK l p = 3
structure Ctx (l : List Tk) (m : Md) (s : PS) : Prop where
  opn : s.opn = opsL l s.read
  few : s.opn.length ≤ 64
  k : CtxK l s.read m
def ExK (l : List Tk) (p : Nat) : Md → Prop
  | .or | .orL _ => endK (lastK l p) ∧ begK (tkAt l p).kind = false ∧ (tkAt l p).kind ≠ 5 ∧ (tkAt l p).kind ≠ 6 ∧ (tkAt l p).kind ≠ 7
  | .row | .rowL _ => endK (lastK l p) ∧ begK (tkAt l p).kind = false ∧ (tkAt l p).kind ≠ 6 ∧ (tkAt l p).kind ≠ 7
  | .post | .postL _ => endK (lastK l p) ∧ (tkAt l p).kind ≠ 6 ∧ (tkAt l p).kind ≠ 7
  | .atom | .group => endK (lastK l p)
  | .inside => (lastK l p = 3 ∧ (tkAt l p).kind = 4) ∨ (endK (lastK l p) ∧ begK (tkAt l p).kind = false ∧ (tkAt l p).kind ≠ 5 ∧ (tkAt l p).kind ≠ 6 ∧ (tkAt l p).kind ≠ 7)
def faultV (l : List Tk) (f : Nat) : Int × Int := match (tkAt l f).kind, (opsL l f).getLast? with
  | 10, some p => (6, p)
  | _, _ => (7, (tkAt l f).at_)
structure Flt (l : List Tk) (a : Nat) (e p : Int) (f : Nat) : Prop where
  le : a ≤ f
  seg : Seg l a f
  what : (e = 8 ∧ (tkAt l f).kind = 3 ∧ mayAt l f ∧ 64 < (opsL l (f + 1)).length ∧ p = (tkAt l f).at_) ∨ (¬ mayAt l f ∧ faultV l f = (e, p))
def Res (l : List Tk) (m : Md) (a : Nat) : PR → Prop
  | .ok k t => Seg l a t.read ∧ a ≤ t.read ∧ t.opn = opsL l t.read ∧ t.opn.length ≤ 64 ∧ ExK l t.read m
  | .bad e p => ∃ f, Flt l a e p f
  | .out => True
theorem Res.from {l : List Tk} {m : Md} {a b : Nat} {r : PR} (h : Res l m b r) (hs : Seg l a b) (hl : a ≤ b) : Res l m a r := by
  cases r with
  | ok k t => exact ⟨hs.trans h.1, Nat.le_trans hl h.2.1, h.2.2⟩
  | bad e p => obtain ⟨f, hf⟩ := h; exact ⟨f, Nat.le_trans hl hf.le, hs.trans hf.seg, hf.what⟩
  | out => trivial
theorem Res.bind {l : List Tk} {m m1 : Md} {a : Nat} {r : PR} {f : Int → PS → PR} (h : Res l m1 a r) (k : ∀ j u, r = .ok j u → u.opn = opsL l u.read → u.opn.length ≤ 64 → ExK l u.read m1 → Res l m u.read (f j u)) : Res l m a (r.bind f) := by
  cases r with
  | ok j u => exact (k j u rfl h.2.2.1 h.2.2.2.1 h.2.2.2.2).from h.1 h.2.1
  | bad e p => exact h
  | out => trivial
theorem fault_res {l : List Tk} {m : Md} {s : PS} (ho : s.opn = opsL l s.read) (hn : ¬ mayAt l s.read) : Res l m s.read (faultP l s) := by
  have e : faultP l s = .bad (faultV l s.read).1 (faultV l s.read).2 := by
    unfold faultP faultV
    rw [ho]
    split
    · rename_i h1 h2; rw [h1, h2]; rfl
    · rename_i h1
      split
      · rename_i h2 h3; exact absurd h3 (h1 _ h2)
      · rfl
  rw [e]
  exact ⟨s.read, Nat.le_refl _, Seg.nil _ _, .inr ⟨hn, rfl⟩⟩
theorem may_of_beg {last k : Int} {o : Nat} (hb : begK k = true) (h8 : last ≠ 8) (h9 : last ≠ 9) : mayK last k o := by
  unfold mayK
  rw [if_neg (by omega)]
  split
  · exact hb
  · split
    · exact .inl hb
    · exact .inl hb
theorem Res.imp {l : List Tk} {m m1 : Md} {a : Nat} {r : PR} (h : Res l m1 a r) (k : ∀ p, ExK l p m1 → ExK l p m) : Res l m a r := by
  cases r with
  | ok j u => exact ⟨h.1, h.2.1, h.2.2.1, h.2.2.2.1, k _ h.2.2.2.2⟩
  | bad e p => exact h
  | out => trivial
theorem atom_may {l : List Tk} {p : Nat} (h : CtxK l p .atom) : lastK l p ≠ 8 ∧ lastK l p ≠ 9 ∧ (mayAt l p ↔ begK (tkAt l p).kind = true) := by
  have h8 : lastK l p ≠ 8 ∧ lastK l p ≠ 9 := by
    rcases h with (h | h) | ⟨h, _⟩ | ⟨_, h1, h2⟩
    · omega
    · omega
    · omega
    · exact ⟨h1, h2⟩
  refine ⟨h8.1, h8.2, ?_, fun hb => may_of_beg hb h8.1 h8.2⟩
  intro hm
  unfold mayAt mayK at hm
  rw [if_neg (by omega)] at hm
  rcases h with h | ⟨h, h4⟩ | ⟨h, _⟩
  · rwa [if_pos h] at hm
  · rw [if_neg (by omega), if_pos h] at hm
    rcases hm with hm | hm
    · exact hm
    · exact absurd hm h4
  · exact h
theorem lay_opn (s : PS) (n : Nd) (p : Int) : (s.lay n p).opn = s.opn ∧ (s.lay n p).read = s.read := ⟨(lay_read s n p).2.1, (lay_read s n p).1⟩
theorem run_may {l : List Tk} : ∀ (n : Nat) (m : Md) (s : PS), Ctx l m s → Res l m s.read (run l n m s)
  | 0, _, _, _ => trivial
  | n + 1, .or, s, h => by
    refine Res.bind (run_may n .row s ⟨h.opn, h.few, h.k⟩) fun a u _ ho hf hx => ?_
    exact run_may n (.orL a) u ⟨ho, hf, hx⟩
  | n + 1, .orL a, s, h => by
    obtain ⟨hk, hb, h6, h7⟩ : endK (lastK l s.read) ∧ begK (tkAt l s.read).kind = false ∧ (tkAt l s.read).kind ≠ 6 ∧ (tkAt l s.read).kind ≠ 7 := h.k
    simp only [run]
    split
    · rename_i h5
      have e := opsL_same (l := l) (p := s.read) (by omega) (by omega)
      have hm : mayAt l s.read := (may_end hk).2 (by omega)
      have q : Res l .row s.next.read _ := run_may n .row s.next ⟨by simp only [PS.next]; rw [e, h.opn], h.few, .inl (.inr (by simp only [PS.next]; rw [lastK_next, h5]))⟩
      have q2 := q.from (a := s.read) (Seg.one hm (by rw [e, ← h.opn]; exact h.few)) (Nat.le_succ _)
      refine Res.bind q2 fun b u _ ho hf hx => ?_
      have r := run_may n (.orL (u.count : Int)) (u.lay { kind := 5, a := a, b := b } (-1)) ⟨by rw [(lay_opn u _ _).1, (lay_opn u _ _).2]; exact ho, by rw [(lay_opn u _ _).1]; exact hf, by rw [(lay_opn u _ _).2]; exact hx⟩
      rw [(lay_opn u _ _).2] at r
      exact r
    · rename_i h5
      exact ⟨Seg.nil _ _, Nat.le_refl _, h.opn, h.few, hk, hb, h5, h6, h7⟩
  | n + 1, .row, s, h => by
    refine Res.bind (run_may n .post s ⟨h.opn, h.few, h.k⟩) fun a u _ ho hf hx => ?_
    exact run_may n (.rowL a) u ⟨ho, hf, hx⟩
  | n + 1, .rowL a, s, h => by
    obtain ⟨hk, h6, h7⟩ : endK (lastK l s.read) ∧ (tkAt l s.read).kind ≠ 6 ∧ (tkAt l s.read).kind ≠ 7 := h.k
    simp only [run]
    split
    · rename_i hb
      refine Res.bind (run_may n .post s ⟨h.opn, h.few, .inr (.inr ⟨hb, hk.2.2.2.1, hk.2.2.2.2⟩)⟩) fun b u _ ho hf hx => ?_
      have r := run_may n (.rowL (u.count : Int)) (u.lay { kind := 4, a := a, b := b } (-1)) ⟨by rw [(lay_opn u _ _).1, (lay_opn u _ _).2]; exact ho, by rw [(lay_opn u _ _).1]; exact hf, by rw [(lay_opn u _ _).2]; exact hx⟩
      rw [(lay_opn u _ _).2] at r
      exact r
    · rename_i hb
      exact ⟨Seg.nil _ _, Nat.le_refl _, h.opn, h.few, hk, by simpa using hb, h6, h7⟩
  | n + 1, .post, s, h => by
    refine Res.bind (run_may n .atom s ⟨h.opn, h.few, h.k⟩) fun a u _ ho hf hx => ?_
    exact run_may n (.postL a) u ⟨ho, hf, hx⟩
  | n + 1, .postL a, s, h => by
    have hk : endK (lastK l s.read) := h.k
    have step : ∀ (s' : PS), s'.read = s.read + 1 → s'.opn = s.opn → ((tkAt l s.read).kind = 6 ∨ (tkAt l s.read).kind = 7) → Res l (.postL a) s.read (run l n (.postL (s.count : Int)) s') := fun s' hr ho h67 => by
      have e := opsL_same (l := l) (p := s.read) (by omega) (by omega)
      have hm : mayAt l s.read := (may_end hk).2 (by omega)
      have q : Res l (.postL (s.count : Int)) s'.read _ := run_may n (.postL (s.count : Int)) s' ⟨by rw [ho, hr, e, h.opn], by rw [ho]; exact h.few, by
        show endK (lastK l s'.read)
        rw [hr, lastK_next]; unfold endK; omega⟩
      rw [hr] at q
      exact q.from (Seg.one hm (by rw [e, ← h.opn]; exact h.few)) (Nat.le_succ _)
    simp only [run]
    split
    · rename_i h6
      exact step _ (by simp only [PS.next]; rw [(lay_opn s _ _).2]) (by simp only [PS.next]; rw [(lay_opn s _ _).1]) (.inl h6)
    · split
      · rename_i h7
        exact step _ (by simp only [PS.next]; rw [(lay_opn s _ _).2]) (by simp only [PS.next]; rw [(lay_opn s _ _).1]) (.inr h7)
      · rename_i h6 h7
        exact ⟨Seg.nil _ _, Nat.le_refl _, h.opn, h.few, hk, h6, h7⟩
  | n + 1, .atom, s, h => by
    obtain ⟨h8, h9, hmay⟩ := atom_may (l := l) (p := s.read) h.k
    have leaf : ∀ (nd : Nd), ((tkAt l s.read).kind = 1 ∨ (tkAt l s.read).kind = 2) → Res l .atom s.read (layK s.next nd (-1)) := fun nd hk => by
      have e := opsL_same (l := l) (p := s.read) (by omega) (by omega)
      have hm : mayAt l s.read := hmay.2 (beg_cases.2 (by omega))
      refine ⟨?_, ?_, ?_, ?_, ?_⟩
      · rw [(lay_opn s.next nd (-1)).2]; exact Seg.one hm (by rw [e, ← h.opn]; exact h.few)
      · rw [(lay_opn s.next nd (-1)).2]; exact Nat.le_succ _
      · rw [(lay_opn s.next nd (-1)).1, (lay_opn s.next nd (-1)).2]; simp only [PS.next]; rw [e, h.opn]
      · rw [(lay_opn s.next nd (-1)).1]; exact h.few
      · rw [(lay_opn s.next nd (-1)).2]
        show endK (lastK l (s.read + 1))
        rw [lastK_next]; unfold endK; omega
    have frame : ∀ (kd : Int), ((tkAt l s.read).kind = 8 ∨ (tkAt l s.read).kind = 9) → Res l .atom s.read ((run l n .group s.next).bind fun g s => layK s { kind := kd, a := g } (-1)) := fun kd hk => by
      have e := opsL_same (l := l) (p := s.read) (by omega) (by omega)
      have hm : mayAt l s.read := hmay.2 (beg_cases.2 (by omega))
      have q : Res l .group s.next.read _ := run_may n .group s.next ⟨by simp only [PS.next]; rw [e, h.opn], h.few, .inl (by simp only [PS.next]; rw [lastK_next]; exact hk)⟩
      have q2 := q.from (a := s.read) (Seg.one hm (by rw [e, ← h.opn]; exact h.few)) (Nat.le_succ _)
      refine Res.bind q2 fun g u _ ho hf hx => ?_
      refine ⟨?_, ?_, ?_, ?_, ?_⟩
      · rw [(lay_opn u _ _).2]; exact Seg.nil _ _
      · rw [(lay_opn u _ _).2]; exact Nat.le_refl _
      · rw [(lay_opn u _ _).1, (lay_opn u _ _).2]; exact ho
      · rw [(lay_opn u _ _).1]; exact hf
      · rw [(lay_opn u _ _).2]; exact hx
    simp only [run]
    split
    · rename_i hk; exact leaf _ (.inl hk)
    · split
      · rename_i hk; exact leaf _ (.inr hk)
      · split
        · rename_i hk
          exact (run_may n .group s ⟨h.opn, h.few, .inr ⟨hk, h8, h9⟩⟩).imp fun p hx => hx
        · split
          · rename_i hk; exact frame 8 (.inl hk)
          · split
            · rename_i hk; exact frame 9 (.inr hk)
            · rename_i k1 k2 k3 k8 k9
              exact fault_res h.opn (fun hm => by
                have := beg_cases.1 (hmay.1 hm)
                omega)
  | n + 1, .group, s, h => by
    have hc : (lastK l s.read = 8 ∨ lastK l s.read = 9) ∨ (tkAt l s.read).kind = 3 ∧ lastK l s.read ≠ 8 ∧ lastK l s.read ≠ 9 := h.k
    simp only [run]
    split
    · rename_i h3
      have e := opsL_open (l := l) (p := s.read) h3
      have hm : mayAt l s.read := by
        rcases hc with hc | ⟨_, h8, h9⟩
        · unfold mayAt mayK; rw [if_pos hc]; exact h3
        · exact may_of_beg (beg_cases.2 (by omega)) h8 h9
      split
      · rename_i hd
        exact ⟨s.read, Nat.le_refl _, Seg.nil _ _, .inl ⟨rfl, h3, hm, by rw [e, ← h.opn, List.length_append]; exact hd, rfl⟩⟩
      · rename_i hd
        have q : Res l .inside (s.read + 1) _ := run_may n .inside { s.next with opn := s.opn ++ [(tkAt l s.read).at_] } ⟨by simp only [PS.next]; rw [e, h.opn], by simp only [List.length_append, List.length_cons, List.length_nil]; omega, by simp only [PS.next]; show lastK l (s.read + 1) = 3; rw [lastK_next]; exact h3⟩
        have q2 := q.from (a := s.read) (Seg.one hm (by rw [e, ← h.opn, List.length_append]; simp only [List.length_cons, List.length_nil]; omega)) (Nat.le_succ _)
        refine Res.bind q2 fun g u hr ho hf hx => ?_
        have hu := (run_read n _ _ _ _ hr).2.1
        have hpos : 0 < (opsL l u.read).length := by rw [← ho, hu]; simp
        split
        · rename_i h4
          have hm4 : mayAt l u.read := by
            rcases hx with ⟨hl, _⟩ | ⟨hl, _⟩
            · unfold mayAt mayK; rw [if_neg (by omega), if_neg (by omega), if_pos hl]; exact .inr h4
            · exact (may_end hl).2 (.inr (.inr (.inr (.inr (.inl ⟨h4, hpos⟩)))))
          have e4 := opsL_close (l := l) (p := u.read) h4
          have hle : (opsL l (u.read + 1)).length ≤ 64 := by rw [e4, List.length_dropLast, ← ho]; omega
          refine ⟨Seg.one hm4 hle, Nat.le_succ _, ?_, ?_, ?_⟩
          · show u.opn.dropLast = opsL l (u.read + 1)
            rw [e4, ho]
          · show u.opn.dropLast.length ≤ 64
            rw [List.length_dropLast]; omega
          · show endK (lastK l (u.read + 1))
            rw [lastK_next, h4]; unfold endK; omega
        · rename_i h4
          refine fault_res ho fun hm => ?_
          rcases hx with ⟨_, h⟩ | ⟨hl, hb, h5, h6, h7⟩
          · exact h4 h
          · rcases (may_end hl).1 hm with h | h | h | h | ⟨h, _⟩ | ⟨_, h⟩
            · rw [h] at hb; cases hb
            · exact h5 h
            · exact h6 h
            · exact h7 h
            · exact h4 h
            · omega
    · rename_i h3
      refine fault_res h.opn fun hm => ?_
      rcases hc with hc | ⟨hc, _⟩
      · unfold mayAt mayK at hm; rw [if_pos hc] at hm; exact h3 hm
      · exact h3 hc
  | n + 1, .inside, s, h => by
    have hk : lastK l s.read = 3 := h.k
    simp only [run]
    split
    · rename_i h4
      refine ⟨?_, ?_, ?_, ?_, ?_⟩
      · rw [(lay_opn s _ _).2]; exact Seg.nil _ _
      · rw [(lay_opn s _ _).2]; exact Nat.le_refl _
      · rw [(lay_opn s _ _).1, (lay_opn s _ _).2]; exact h.opn
      · rw [(lay_opn s _ _).1]; exact h.few
      · rw [(lay_opn s _ _).2]; exact .inl ⟨hk, h4⟩
    · rename_i h4
      exact (run_may n .or s ⟨h.opn, h.few, .inr (.inl ⟨hk, h4⟩)⟩).imp fun p hx => .inr hx
inductive DM where
  | or | row | post | atom | group | inside
inductive Dv (l : List Tk) : DM → Nat → Nat → List Nd → List Int → Prop where
  | cls {a : Nat} (h : (tkAt l a).kind = 1) : Dv l .atom a (a + 1) [{ kind := 2, cls := (tkAt l a).cls }] [-1]
  | text {a : Nat} (h : (tkAt l a).kind = 2) : Dv l .atom a (a + 1) [{ kind := 3, text := (tkAt l a).text }] [-1]
  | brk {a b : Nat} {D : List Nd} {A : List Int} (h : (tkAt l a).kind = 3) (d : Dv l .group a b D A) : Dv l .atom a b D A
  | frame {a b : Nat} {D : List Nd} {A : List Int} (h : (tkAt l a).kind = 8 ∨ (tkAt l a).kind = 9) (d : Dv l .group (a + 1) b D A) : Dv l .atom a b (wrapL (tkAt l a).kind 0 0 D) (A ++ [-1])
  | group {a b : Nat} {D : List Nd} {A : List Int} (h : (tkAt l a).kind = 3) (d : Dv l .inside (a + 1) b D A) (h4 : (tkAt l b).kind = 4) : Dv l .group a (b + 1) D A
  | none {a : Nat} (h : (tkAt l a).kind = 4) : Dv l .inside a a [{ kind := 1 }] [-1]
  | some {a b : Nat} {D : List Nd} {A : List Int} (h : (tkAt l a).kind ≠ 4) (d : Dv l .or a b D A) : Dv l .inside a b D A
  | post0 {a b : Nat} {D : List Nd} {A : List Int} (d : Dv l .atom a b D A) : Dv l .post a b D A
  | star {a b : Nat} {D : List Nd} {A : List Int} (d : Dv l .post a b D A) (h : (tkAt l b).kind = 6) : Dv l .post a (b + 1) (wrapL 6 0 0 D) (A ++ [(tkAt l b).at_])
  | rep {a b : Nat} {D : List Nd} {A : List Int} (d : Dv l .post a b D A) (h : (tkAt l b).kind = 7) : Dv l .post a (b + 1) (wrapL 7 (tkAt l b).lo (tkAt l b).hi D) (A ++ [(tkAt l b).at_])
  | row0 {a b : Nat} {D : List Nd} {A : List Int} (d : Dv l .post a b D A) : Dv l .row a b D A
  | row {a b c : Nat} {D E : List Nd} {A B : List Int} (d : Dv l .row a b D A) (h : begK (tkAt l b).kind = true) (e : Dv l .post b c E B) : Dv l .row a c (pairL 4 D E) (A ++ B ++ [-1])
  | or0 {a b : Nat} {D : List Nd} {A : List Int} (d : Dv l .row a b D A) : Dv l .or a b D A
  | or {a b c : Nat} {D E : List Nd} {A B : List Int} (d : Dv l .or a b D A) (h : (tkAt l b).kind = 5) (e : Dv l .row (b + 1) c E B) : Dv l .or a c (pairL 5 D E) (A ++ B ++ [-1])
theorem wrapL_len (kind lo hi : Int) (l : List Nd) : (wrapL kind lo hi l).length = l.length + 1 := by unfold wrapL; rw [List.length_append]; rfl
theorem pairL_len (kind : Int) (l m : List Nd) : (pairL kind l m).length = l.length + m.length + 1 := by unfold pairL; rw [List.length_append, List.length_append, List.length_map]; rfl
theorem wrapL_mv (kind lo hi : Int) (hk : 6 ≤ kind ∧ kind ≤ 9) (D : List Nd) (c : Nat) : (wrapL kind lo hi D).map (mvN (c : Int)) = D.map (mvN (c : Int)) ++ [{ kind := kind, a := ((c + D.length : Nat) : Int) - 1, lo := lo, hi := hi }] := by
  unfold wrapL
  rw [List.map_append]
  congr 1
  simp only [List.map_cons, List.map_nil]
  unfold mvN
  rw [if_pos hk]
  simp only
  congr 2
  omega
theorem pairL_mv (kind : Int) (hk : kind = 4 ∨ kind = 5) (D E : List Nd) (c : Nat) : (pairL kind D E).map (mvN (c : Int)) = (D.map (mvN (c : Int)) ++ E.map (mvN ((c + D.length : Nat) : Int))) ++ [{ kind := kind, a := ((c + D.length : Nat) : Int) - 1, b := ((c + D.length + E.length : Nat) : Int) - 1 }] := by
  unfold pairL
  rw [List.map_append, List.map_append, map_mv_add]
  congr 1
  · congr 2
    rw [show (D.length : Int) + (c : Int) = ((c + D.length : Nat) : Int) by omega]
  · simp only [List.map_cons, List.map_nil]
    unfold mvN
    rw [if_neg (by simp only; omega), if_pos hk]
    simp only
    congr 2 <;> omega
structure Bs (N0 : List Nd) (A0 : List Int) (c0 : Nat) (s : PS) : Prop where
  cnt : s.count = c0
  nd : s.count ≤ 4096 → s.nodes = N0 ∧ s.ats = A0
structure Ld (l : List Tk) (N0 : List Nd) (A0 : List Int) (c0 a : Nat) (m : DM) (D : List Nd) (A : List Int) (k : Int) (s : PS) : Prop where
  dv : Dv l m a s.read D A
  cnt : s.count = c0 + D.length
  k : k = (s.count : Int) - 1
  nd : s.count ≤ 4096 → s.nodes = N0 ++ D.map (mvN (c0 : Int)) ∧ s.ats = A0 ++ A
theorem lay_cases (s : PS) (n : Nd) (p : Int) : (s.lay n p).count = s.count + 1 ∧ (s.lay n p).read = s.read ∧ ((s.lay n p).count ≤ 4096 → (s.lay n p).nodes = s.nodes ++ [n] ∧ (s.lay n p).ats = s.ats ++ [p]) := by
  refine ⟨(lay_read s n p).2.2, (lay_read s n p).1, fun h => ?_⟩
  rw [(lay_read s n p).2.2] at h
  unfold PS.lay
  rw [if_pos (by omega)]
  exact ⟨rfl, rfl⟩
theorem Bs.next {N0 : List Nd} {A0 : List Int} {c0 : Nat} {s : PS} (h : Bs N0 A0 c0 s) : Bs N0 A0 c0 s.next := ⟨h.cnt, h.nd⟩
section
variable {l : List Tk} {N0 : List Nd} {A0 : List Int} {c0 a : Nat} {m : DM} {D E : List Nd} {A B : List Int} {k j : Int} {s t : PS}
theorem Ld.mode {m' : DM} {a' : Nat} (h : Ld l N0 A0 c0 a m D A k s) (d : Dv l m a s.read D A → Dv l m' a' s.read D A) : Ld l N0 A0 c0 a' m' D A k s := ⟨d h.dv, h.cnt, h.k, h.nd⟩
theorem Bs.leaf (h : Bs N0 A0 c0 s) {n : Nd} (hn : ∀ c, mvN c n = n) {b : Nat} (d : Dv l m b s.read [n] [-1]) : Ld l N0 A0 c0 b m [n] [-1] (s.count : Int) (s.lay n (-1)) := by
  obtain ⟨h1, h2, h3⟩ := lay_cases s n (-1)
  refine ⟨by rw [h2]; exact d, by rw [h1, h.cnt]; rfl, by rw [h1]; omega, fun hc => ?_⟩
  obtain ⟨e1, e2⟩ := h3 hc
  obtain ⟨e3, e4⟩ := h.nd (by omega)
  rw [e1, e2, e3, e4]
  exact ⟨by simp [hn], rfl⟩
theorem Ld.wrap (h : Ld l N0 A0 c0 a m D A k s) {kind lo hi : Int} (hk : 6 ≤ kind ∧ kind ≤ 9) (p : Int) : (s.lay { kind := kind, a := k, lo := lo, hi := hi } p).count = c0 + (wrapL kind lo hi D).length ∧ (s.lay { kind := kind, a := k, lo := lo, hi := hi } p).read = s.read ∧ ((s.lay { kind := kind, a := k, lo := lo, hi := hi } p).count ≤ 4096 → (s.lay { kind := kind, a := k, lo := lo, hi := hi } p).nodes = N0 ++ (wrapL kind lo hi D).map (mvN (c0 : Int)) ∧ (s.lay { kind := kind, a := k, lo := lo, hi := hi } p).ats = A0 ++ (A ++ [p])) := by
  obtain ⟨h1, h2, h3⟩ := lay_cases s { kind := kind, a := k, lo := lo, hi := hi } p
  refine ⟨by rw [h1, wrapL_len, h.cnt]; omega, h2, fun hc => ?_⟩
  obtain ⟨e1, e2⟩ := h3 hc
  obtain ⟨e3, e4⟩ := h.nd (by omega)
  rw [e1, e2, e3, e4, wrapL_mv _ _ _ hk, h.k, h.cnt]
  exact ⟨by rw [List.append_assoc], by rw [List.append_assoc]⟩
theorem Ld.pair (h : Ld l N0 A0 c0 a m D A k s) {m2 : DM} {b : Nat} (e : Ld l s.nodes s.ats s.count b m2 E B j t) {kind : Int} (hk : kind = 4 ∨ kind = 5) : (t.lay { kind := kind, a := k, b := j } (-1)).count = c0 + (pairL kind D E).length ∧ (t.lay { kind := kind, a := k, b := j } (-1)).read = t.read ∧ ((t.lay { kind := kind, a := k, b := j } (-1)).count ≤ 4096 → (t.lay { kind := kind, a := k, b := j } (-1)).nodes = N0 ++ (pairL kind D E).map (mvN (c0 : Int)) ∧ (t.lay { kind := kind, a := k, b := j } (-1)).ats = A0 ++ (A ++ B ++ [-1])) := by
  obtain ⟨h1, h2, h3⟩ := lay_cases t { kind := kind, a := k, b := j } (-1)
  have ec := e.cnt
  have hcn := h.cnt
  refine ⟨by rw [h1, pairL_len]; omega, h2, fun hc => ?_⟩
  obtain ⟨e1, e2⟩ := h3 hc
  obtain ⟨e3, e4⟩ := e.nd (by omega)
  obtain ⟨e5, e6⟩ := h.nd (by omega)
  rw [e1, e2, e3, e4, e5, e6, pairL_mv _ hk, h.k, e.k, ec, hcn]
  exact ⟨by simp only [List.append_assoc], by simp only [List.append_assoc]⟩
end
def RunDv (l : List Tk) (s : PS) (k : Int) (t : PS) : Md → Prop
  | .or => ∀ N0 A0 c0, Bs N0 A0 c0 s → ∃ D A, Ld l N0 A0 c0 s.read .or D A k t
  | .orL k0 => ∀ N0 A0 c0 a D0 B0, Ld l N0 A0 c0 a .or D0 B0 k0 s → ∃ D A, Ld l N0 A0 c0 a .or D A k t
  | .row => ∀ N0 A0 c0, Bs N0 A0 c0 s → ∃ D A, Ld l N0 A0 c0 s.read .row D A k t
  | .rowL k0 => ∀ N0 A0 c0 a D0 B0, Ld l N0 A0 c0 a .row D0 B0 k0 s → ∃ D A, Ld l N0 A0 c0 a .row D A k t
  | .post => ∀ N0 A0 c0, Bs N0 A0 c0 s → ∃ D A, Ld l N0 A0 c0 s.read .post D A k t
  | .postL k0 => ∀ N0 A0 c0 a D0 B0, Ld l N0 A0 c0 a .post D0 B0 k0 s → ∃ D A, Ld l N0 A0 c0 a .post D A k t
  | .atom => ∀ N0 A0 c0, Bs N0 A0 c0 s → ∃ D A, Ld l N0 A0 c0 s.read .atom D A k t
  | .group => ∀ N0 A0 c0, Bs N0 A0 c0 s → ∃ D A, Ld l N0 A0 c0 s.read .group D A k t
  | .inside => ∀ N0 A0 c0, Bs N0 A0 c0 s → ∃ D A, Ld l N0 A0 c0 s.read .inside D A k t
theorem bsD_self (s : PS) : Bs s.nodes s.ats s.count s := ⟨rfl, fun _ => ⟨rfl, rfl⟩⟩
theorem run_dv {l : List Tk} : ∀ (n : Nat) (m : Md) (s : PS) (k : Int) (t : PS), run l n m s = .ok k t → RunDv l s k t m
  | 0, _, _, _, _, h => by cases h
  | n + 1, .or, s, k, t, h => by
    intro N0 A0 c0 hb
    obtain ⟨a, u, h1, h2⟩ := bind_ok h
    obtain ⟨D, A, d⟩ := (run_dv n .row s a u h1 : RunDv l s a u .row) N0 A0 c0 hb
    exact (run_dv n (.orL a) u k t h2 : RunDv l u k t (.orL a)) N0 A0 c0 s.read D A (d.mode .or0)
  | n + 1, .orL k0, s, k, t, h => by
    intro N0 A0 c0 a D0 B0 d
    simp only [run] at h
    split at h
    · rename_i h5
      obtain ⟨b, u, h1, h2⟩ := bind_ok h
      obtain ⟨E, B, e⟩ := (run_dv n .row s.next b u h1 : RunDv l s.next b u .row) s.nodes s.ats s.count (bsD_self s).next
      obtain ⟨q1, q2, q3⟩ := d.pair e (kind := 5) (.inr rfl)
      exact (run_dv n (.orL (u.count : Int)) _ k t h2 : RunDv l _ k t (.orL (u.count : Int))) N0 A0 c0 a (pairL 5 D0 E) (B0 ++ B ++ [-1]) ⟨by rw [q2]; exact .or d.dv h5 e.dv, q1, by rw [(lay_cases u _ _).1]; omega, q3⟩
    · cases h; exact ⟨D0, B0, d⟩
  | n + 1, .row, s, k, t, h => by
    intro N0 A0 c0 hb
    obtain ⟨a, u, h1, h2⟩ := bind_ok h
    obtain ⟨D, A, d⟩ := (run_dv n .post s a u h1 : RunDv l s a u .post) N0 A0 c0 hb
    exact (run_dv n (.rowL a) u k t h2 : RunDv l u k t (.rowL a)) N0 A0 c0 s.read D A (d.mode .row0)
  | n + 1, .rowL k0, s, k, t, h => by
    intro N0 A0 c0 a D0 B0 d
    simp only [run] at h
    split at h
    · rename_i hbg
      obtain ⟨b, u, h1, h2⟩ := bind_ok h
      obtain ⟨E, B, e⟩ := (run_dv n .post s b u h1 : RunDv l s b u .post) s.nodes s.ats s.count (bsD_self s)
      obtain ⟨q1, q2, q3⟩ := d.pair e (kind := 4) (.inl rfl)
      exact (run_dv n (.rowL (u.count : Int)) _ k t h2 : RunDv l _ k t (.rowL (u.count : Int))) N0 A0 c0 a (pairL 4 D0 E) (B0 ++ B ++ [-1]) ⟨by rw [q2]; exact .row d.dv hbg e.dv, q1, by rw [(lay_cases u _ _).1]; omega, q3⟩
    · cases h; exact ⟨D0, B0, d⟩
  | n + 1, .post, s, k, t, h => by
    intro N0 A0 c0 hb
    obtain ⟨a, u, h1, h2⟩ := bind_ok h
    obtain ⟨D, A, d⟩ := (run_dv n .atom s a u h1 : RunDv l s a u .atom) N0 A0 c0 hb
    exact (run_dv n (.postL a) u k t h2 : RunDv l u k t (.postL a)) N0 A0 c0 s.read D A (d.mode .post0)
  | n + 1, .postL k0, s, k, t, h => by
    intro N0 A0 c0 a D0 B0 d
    simp only [run] at h
    split at h
    · rename_i h6
      obtain ⟨q1, q2, q3⟩ := d.wrap (kind := 6) (lo := 0) (hi := 0) (by omega) (tkAt l s.read).at_
      exact (run_dv n (.postL (s.count : Int)) _ k t h : RunDv l _ k t (.postL (s.count : Int))) N0 A0 c0 a (wrapL 6 0 0 D0) (B0 ++ [(tkAt l s.read).at_]) ⟨by simp only [PS.next]; rw [(lay_cases s _ _).2.1]; exact .star d.dv h6, q1, by simp only [PS.next]; rw [(lay_cases s _ _).1]; omega, q3⟩
    · split at h
      · rename_i h7
        obtain ⟨q1, q2, q3⟩ := d.wrap (kind := 7) (lo := (tkAt l s.read).lo) (hi := (tkAt l s.read).hi) (by omega) (tkAt l s.read).at_
        exact (run_dv n (.postL (s.count : Int)) _ k t h : RunDv l _ k t (.postL (s.count : Int))) N0 A0 c0 a (wrapL 7 (tkAt l s.read).lo (tkAt l s.read).hi D0) (B0 ++ [(tkAt l s.read).at_]) ⟨by simp only [PS.next]; rw [(lay_cases s _ _).2.1]; exact .rep d.dv h7, q1, by simp only [PS.next]; rw [(lay_cases s _ _).1]; omega, q3⟩
      · cases h; exact ⟨D0, B0, d⟩
  | n + 1, .atom, s, k, t, h => by
    intro N0 A0 c0 hb
    simp only [run] at h
    split at h
    · rename_i h1
      cases h
      exact ⟨_, _, hb.next.leaf (n := { kind := 2, cls := (tkAt l s.read).cls }) (fun c => by unfold mvN; rw [if_neg (by simp), if_neg (by simp)]) (.cls h1)⟩
    · split at h
      · rename_i h2
        cases h
        exact ⟨_, _, hb.next.leaf (n := { kind := 3, text := (tkAt l s.read).text }) (fun c => by unfold mvN; rw [if_neg (by simp), if_neg (by simp)]) (.text h2)⟩
      · split at h
        · rename_i h3
          obtain ⟨D, A, d⟩ := (run_dv n .group s k t h : RunDv l s k t .group) N0 A0 c0 hb
          exact ⟨D, A, d.mode (.brk h3)⟩
        · split at h
          · rename_i h8
            obtain ⟨b, u, h1, h2⟩ := bind_ok h
            cases h2
            obtain ⟨D, A, d⟩ := (run_dv n .group s.next b u h1 : RunDv l s.next b u .group) N0 A0 c0 hb.next
            obtain ⟨q1, q2, q3⟩ := d.wrap (kind := 8) (lo := 0) (hi := 0) (by omega) (-1)
            have hf := Dv.frame (.inl h8) d.dv
            rw [h8] at hf
            exact ⟨_, _, by rw [q2]; exact hf, q1, by rw [(lay_cases u _ _).1]; omega, q3⟩
          · split at h
            · rename_i h9
              obtain ⟨b, u, h1, h2⟩ := bind_ok h
              cases h2
              obtain ⟨D, A, d⟩ := (run_dv n .group s.next b u h1 : RunDv l s.next b u .group) N0 A0 c0 hb.next
              obtain ⟨q1, q2, q3⟩ := d.wrap (kind := 9) (lo := 0) (hi := 0) (by omega) (-1)
              have hf := Dv.frame (.inr h9) d.dv
              rw [h9] at hf
              exact ⟨_, _, by rw [q2]; exact hf, q1, by rw [(lay_cases u _ _).1]; omega, q3⟩
            · exact absurd h fault_not_ok
  | n + 1, .group, s, k, t, h => by
    intro N0 A0 c0 hb
    simp only [run] at h
    split at h
    · rename_i h3
      split at h
      · cases h
      · obtain ⟨b, u, h1, h2⟩ := bind_ok h
        split at h2
        · rename_i h4
          cases h2
          obtain ⟨D, A, d⟩ := (run_dv n .inside _ k u h1 : RunDv l _ k u .inside) N0 A0 c0 ⟨hb.cnt, hb.nd⟩
          exact ⟨D, A, .group h3 d.dv h4, d.cnt, d.k, d.nd⟩
        · exact absurd h2 fault_not_ok
    · exact absurd h fault_not_ok
  | n + 1, .inside, s, k, t, h => by
    intro N0 A0 c0 hb
    simp only [run] at h
    split at h
    · rename_i h4
      cases h
      exact ⟨_, _, hb.leaf (n := { kind := 1 }) (fun c => by unfold mvN; rw [if_neg (by simp), if_neg (by simp)]) (.none h4)⟩
    · rename_i h4
      obtain ⟨D, A, d⟩ := (run_dv n .or s k t h : RunDv l s k t .or) N0 A0 c0 hb
      exact ⟨D, A, d.mode (.some h4)⟩
end Go.Proofs.YtcgjmnhmhiddkaaGreatDoor
