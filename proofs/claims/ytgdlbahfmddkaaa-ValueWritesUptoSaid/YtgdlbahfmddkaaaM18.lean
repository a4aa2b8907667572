/- The statement NodeTurned of layer 4, walked. -/
import Derived.Test.YtgdlbahfmddkaaaM17
import Derived.Test.YtgdlbahfmddkaaaM16
namespace Go.Proofs.Ytgdlbahfmddkaaa
open Go Go.RowKit
set_option linter.unusedVariables false
set_option linter.unusedSimpArgs false

theorem NRow.take {w : World} {A : Option Addr} {l : List Nd} (h : NRow w A l) (n : Nat) : NRow w A (l.take n) := fun i hi => by
  rw [List.length_take] at hi
  have e : (l.take n).getD i nd0 = l.getD i nd0 := by
    rw [List.getD_eq_getElem?_getD, List.getD_eq_getElem?_getD, List.getElem?_take, if_pos (by omega)]
  rw [e]; exact h i (by omega)
theorem Txt.take {l : List Nd} (h : Txt l) (n : Nat) : Txt (l.take n) := fun x hx => h x (List.mem_of_mem_take hx)
def OwnB (base : Nat) (l : List Nd) (v : Value) (w : World) : Prop := OwnN w base v l ∧ base ≤ w.heap.size
theorem OwnB.later (base : Nat) (l : List Nd) (v : Value) (w w' : World) (h : OwnB base l v w) (hb : Below w.heap.size w w') : OwnB base l v w' := ⟨h.1.later hb, Nat.le_trans h.2 hb.size⟩
def New10 (n : Nd) (v : Value) (w : World) : Prop := ∃ b, v = .slice (some ⟨b, 0, none⟩) 1 1 ∧ Blk w b (ndC n) 44
theorem New10.later (n : Nd) (v : Value) (w w' : World) (h : New10 n v w) (hb : Below w.heap.size w w') : New10 n v w' := by obtain ⟨b, h1, h2⟩ := h; exact ⟨b, h1, h2.later hb⟩
theorem OwnN.base {w : World} {b b' : Nat} {v : Value} {l : List Nd} (h : OwnN w b v l) (hb : b' ≤ b) : OwnN w b' v l := by
  obtain ⟨h0, ⟨hv, hn⟩ | ⟨g, cap, cur, hv, hg, hr⟩⟩ := h
  · exact ⟨h0, .inl ⟨hv, hn⟩⟩
  · exact ⟨h0, .inr ⟨g, cap, cur, hv, Nat.le_trans hb hg, hr⟩⟩
end Go.Proofs.Ytgdlbahfmddkaaa
/- The document's wholes: walked. -/
namespace Go.Proofs.Ytgdlbahfmddkaaa
open Go Go.RowKit
set_option linter.unusedVariables false
set_option linter.unusedSimpArgs false

structure RbS (w0 : World) (A : Option Addr) (l : List Nd) (c : Nat) (w : World) : Prop where
  bel : Below w0.heap.size w0 w
  row : NRow w A l
  box : Blk w w0.heap.size #[.slice A l.length c] 24
  res : Blk w (w0.heap.size + 1) #[.slice none 0 0] 24
theorem RbS.later {w0 w w' : World} {A : Option Addr} {l : List Nd} {c : Nat} (h : RbS w0 A l c w) (hb : Below w.heap.size w w') : RbS w0 A l c w' := ⟨h.bel.trans (hb.mono h.bel.size), h.row.later hb, h.box.later hb, h.res.later hb⟩
theorem RbS.new (w : World) (A : Option Addr) (l : List Nd) (c : Nat) (h : NRow w A l) : RbS w A l c ((w.alloc (.cells #[.slice A l.length c] 24)).alloc (.cells #[.slice none 0 0] 24)) := by
  have HB := ((Below.refl w.heap.size w).alloc (Nat.le_refl _) (.cells #[.slice A l.length c] 24)).alloc (by simp) (.cells #[.slice none 0 0] 24)
  exact ⟨HB, h.later HB, (Blk.new w _ _).alloc _, Blk.new' (by simp) _ _⟩
set_option maxHeartbeats 16000000 in
set_option maxRecDepth 100000 in
theorem rwrap_any (kind lo hi : Int) (l : List Nd) (A : Option Addr) (c : Nat) (hpos : 0 < l.length) (hlen : l.length ≤ 536870912) (hok : ∀ n ∈ l, MvOk 0 n ∧ n.kind ≤ 9) (w : World) (hrow : NRow w A l) :
    Calls Try.prog 21 #[.int .i64 kind, .int .i64 lo, .int .i64 hi, .agg #[.slice A l.length c]] w (DPost w (wrapL kind lo hi l)) := by
  have HS0 := Lib.hid (RbS.new w A l c hrow)
  have HOK := Lib.hid hok
  clear hrow hok
  go_enter Try.func21, Try.ntmps21
  go_upto_region 1 with (fail)
  generalize (w.alloc (.cells #[.slice A l.length c] 24)).alloc (.cells #[.slice none 0 0] 24) = w1 at *
  have hmin : -9223372036854775808 ≤ (l.length : Int) - 1 := by omega
  have hl1 : l.length < 1073741824 := by omega
  obtain ⟨wh, hwh⟩ : ∃ wh : Nd, wh = ⟨kind, (l.length : Int) - 1, 0, lo, hi, 0#256, []⟩ := ⟨_, rfl⟩
  have HWH := Lib.hid hwh
  have HWC : Hid (ndC wh = #[.int .i64 kind, .int .i64 ((l.length : Int) - 1), .int .i64 0, .int .i64 lo, .int .i64 hi, .int .u64 0, .int .u64 0, .int .u64 0, .int .u64 0, .string ⟨#[]⟩]) := by unfold Hid; rw [hwh, ndC_zero]; rfl
  clear hwh
  have FM : Hid (∀ w', RbS w A l c w' → Calls Try.prog 31 #[.slice A l.length c, .int .i64 0] w' (LaidPost w' w'.heap.size l)) := fun w' h => by
    have := rmoved_any l 0 A c w' h.row hl1 HOK.out
    rwa [map_mv_zero] at this
  refine wp_region_stable_tail 12 (S := (RbS w A l c)) (hSt := fun _ _ h hb => h.later hb) (plan := [[(7, none)], [(9, some 0)], [(10, some 1)], [(0, none)], [(7, none)], [(13, some 4)], [(14, some 5)], [(15, some 6)], [(1, none)], [(2, none)], [(12, some 3), (16, some 7), (17, some 8), (18, some 9)], [(19, some 10)]]) rfl rfl (by kernel_rfl) (by kernel_rfl) (by kernel_rfl) (by kernel_rfl) ?hS ?_
  rotate_left
  iterate 2 first
    | (refine chain_skip (by rfl) (by rfl) ?_)
    | (apply chain_want (by rfl)
       · intro act wx hS hr
         simp at hr
         have e0 := hS.box.cell 0
         simp at e0
         go_simp
         (try go_ints)
         first
           | exact Done.same
      )
  (refine chain_rel (OwnB (w.heap.size + 2) l) (OwnB.later (w.heap.size + 2) l) (by rfl) ?_ ?_
   · intro act wx hS hr
     simp at hr
     have e0 := hS.box.cell 0
     simp at e0
     all_goals go_simp
     ((with_reducible refine (FM.out _ hS).mono ?_); intro e w' hp; obtain ⟨v, rfl, ho, hb⟩ := hp; exact Done.rel hb ⟨ho.base hS.res.lt, Nat.le_trans hS.res.lt hb.size⟩)
  )
  iterate 8 first
    | (refine chain_skip (by rfl) (by rfl) ?_)
    | (apply chain_want (by rfl)
       · intro act wx hS hr
         simp at hr
         have e0 := hS.box.cell 0
         simp at e0
         go_simp
         (try go_ints)
         first
           | exact Done.same
      )
  (refine chain_rel (New10 wh) (New10.later wh) (by rfl) ?_ ?_
   · intro act wx hS hr
     simp at hr
     have e0 := hS.box.cell 0
     simp at e0
     all_goals go_simp
     exact Done.rel ((Below.refl _ _).alloc (Nat.le_refl _) _) ⟨_, rfl, by rw [HWC.out]; exact Blk.new _ _ _⟩
  )
  show ∀ w', _ → _
  intro wz hz
  simp [Act.put]
  case hS => exact HS0.out
  intro v hv u hu
  obtain ⟨bb, rfl, hbb⟩ := hu
  refine wpList_append_nd rfl (.tmp 11) (.tmp 20) rfl (w.heap.size + 2) v l rfl hv.1 bb wh rfl hbb hl1 hv.2 ?_
  intro v' w7 ho7 hb7
  have HB7 := Lib.hid (hz.bel.trans (hb7 w.heap.size (by omega)))
  have HR7 := Lib.hid (hz.res.below (hb7 (w.heap.size + 2) (Nat.le_refl _)) (Nat.lt_succ_self _))
  have HO7 : Hid (OwnN w7 (w.heap.size + 2) v' (wrapL kind lo hi l)) := by unfold Hid wrapL; rw [HWH.out] at ho7; exact ho7
  clear ho7 hb7 hz hv hbb
  obtain ⟨A7, c7, rfl, -⟩ := HO7.out.row
  have r0 := HR7.out.cell 0
  simp at r0
  have rf := HR7.out.frozen
  have s0 := HR7.out.put10 (o := 0) (by simp)
  simp [Act.put]
  go_simp
  go_wp2
  exact bodyPost_ret (v := .agg #[.slice A7 (wrapL kind lo hi l).length c7]) (by simp [results, Try.results21, go_sem, s0]) rfl ⟨_, rfl, (HO7.out.setCell_ne (a := ⟨w.heap.size + 1, 0, none⟩) (Nat.lt_succ_self _) _).base (by omega), HB7.out.setCell (p := ⟨w.heap.size + 1, 0, none⟩) (Nat.le_succ _) _⟩
end Go.Proofs.Ytgdlbahfmddkaaa
/- Sizes of nodes and descriptions: walked. -/
namespace Go.Proofs.Ytgdlbahfmddkaaa
open Go Go.RowKit
set_option linter.unusedVariables false
set_option linter.unusedSimpArgs false

end Go.Proofs.Ytgdlbahfmddkaaa
/- Sizes of nodes: the loop, walked. -/
namespace Go.Proofs.Ytgdlbahfmddkaaa
open Go Go.RowKit
set_option linter.unusedVariables false
set_option linter.unusedSimpArgs false

/-- What a node of a description must be, for its size to be told. -/
structure NdOk (n : Nd) : Prop where
  kind : 1 ≤ n.kind ∧ n.kind ≤ 9
  hi : -9223372036854775808 ≤ n.hi ∧ n.hi ≤ 9223372036854775807
  text : n.text.length ≤ 281474976710656
theorem natI_snoc (S : List Nat) (x : Nat) : natI S ++ [(x : Int)] = natI (S ++ [x]) := by unfold natI; simp
end Go.Proofs.Ytgdlbahfmddkaaa
