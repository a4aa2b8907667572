/- Leaf, Wrap, Pair: walked. -/
import Derived.Test.YtgehepiphdphjaaDoorNodeForm
import Derived.Laws.MakeOwn
namespace Go.Proofs.YtgehepiphdphjaaDoor
open Go Go.RowKit
set_option linter.unusedVariables false
set_option linter.unusedSimpArgs false

theorem NRow.ofBlk {w : World} {b : Nat} {n : Nd} (h : Blk w b (ndC n) 59) : NRow w (some ⟨b, 0, none⟩) [n] := fun i hi => by
  obtain rfl : i = 0 := by simpa using hi
  refine ⟨b, 0, rfl, h.lt, fun j hj => ?_⟩
  rw [Nat.zero_mul, Nat.zero_add, h.cell]; rfl
set_option maxHeartbeats 8000000 in
set_option maxRecDepth 100000 in
theorem leaf_any (n : Nd) (hm : MvOk 0 n) (w : World) : Calls Tryd.prog 53 #[.agg (ndC n)] w (DPost w [n]) := by
  have HMV : Hid (mvN 0 n = n) := mvN_zero n
  have HM := Lib.hid hm
  have hb := ((Below.refl w.heap.size w).alloc (Nat.le_refl _) (.cells (ndC n) 59)).alloc (by simp) (.cells #[.slice none 0 0] 49)
  have HB := Lib.hid hb
  have HN : Hid (Blk ((w.alloc (.cells (ndC n) 59)).alloc (.cells #[.slice none 0 0] 49)) w.heap.size (ndC n) 59) := (Blk.new w _ _).alloc _
  have HR : Hid (Blk ((w.alloc (.cells (ndC n) 59)).alloc (.cells #[.slice none 0 0] 49)) (w.heap.size + 1) #[.slice none 0 0] 49) := by
    unfold Hid
    have := Blk.new (w.alloc (.cells (ndC n) 59)) #[.slice none 0 0] 49
    simpa using this
  clear hm hb
  unfold ndC at HB HN HR ⊢
  go_enter Tryd.func53, Tryd.ntmps53
  go_upto_region 1 with (fail)
  generalize (w.alloc (.cells #[.int .i64 n.kind, .int .i64 n.a, .int .i64 n.b, .int .i64 n.lo, .int .i64 n.hi, .int .u64 (wd n.cls 0), .int .u64 (wd n.cls 1), .int .u64 (wd n.cls 2), .int .u64 (wd n.cls 3), .string (bs n.text)] 59)).alloc (.cells #[.slice none 0 0] 49) = w1 at *
  obtain ⟨g0, g1, g2, g3, g4, g5, g6, g7, g8, g9⟩ := ten_cells HN.out
  have HB2 := Lib.hid ((Below.refl w1.heap.size w1).alloc (Nat.le_refl _) (.cells (ndC n) 59))
  have HN2 := Lib.hid (NRow.ofBlk (Blk.new w1 (ndC n) 59))
  have hlow : w.heap.size + 1 < w1.heap.size := HR.out.lt
  have LC : Hid (Calls Tryd.prog 55 #[.slice none 0 0, .slice (some ⟨w1.heap.size, 0, none⟩) 1 1, .int .i64 0] (w1.alloc (.cells (ndC n) 59)) (LaidPost (w1.alloc (.cells (ndC n) 59)) (w1.alloc (.cells (ndC n) 59)).heap.size [n])) := by
    have h := laid_any [] [n] 0 (.slice none 0 0) (some ⟨w1.heap.size, 0, none⟩) 1 (w1.alloc (.cells (ndC n) 59)).heap.size _ (OwnN.nil _ _) HN2.out (fun b o e => by cases e; simp) (Nat.le_refl _) (by simp) (fun x hx => by simp at hx; subst hx; exact HM.out)
    unfold Hid
    rw [List.nil_append, List.map_cons, List.map_nil, HMV.out] at h
    exact h
  unfold ndC at HB2 HN2 LC
  go_wp2_with fail
  refine LC.out.mono ?_; intro e w4 hp; obtain ⟨s, rfl, ho, hb4⟩ := hp
  obtain ⟨A2, c2, rfl, -⟩ := ho.row
  have HO := Lib.hid ho
  have hb5 := hb4.trans ((Below.refl _ _))
  have HR4 := Lib.hid ((HR.out.later HB2.out).later hb4)
  have HB4 := Lib.hid ((HB.out.trans (HB2.out.mono HB.out.size)).trans (hb4.mono (by simp; omega)))
  clear hb4 hb5 ho LC g0 g1 g2 g3 g4 g5 g6 g7 g8 g9
  have r0 := HR4.out.cell 0
  simp at r0
  have rf := HR4.out.frozen
  have s0 := HR4.out.put10 (o := 0) (by simp)
  go_wp2
  exact bodyPost_ret (v := .agg #[.slice A2 1 c2]) (by simp [results, Tryd.results53, go_sem, s0]) rfl ⟨_, rfl, (HO.out.setCell_ne (a := ⟨w.heap.size + 1, 0, none⟩) (by simp; omega) _).weaken (by simp; omega), HB4.out.setCell (p := ⟨w.heap.size + 1, 0, none⟩) (Nat.le_succ _) _⟩
/-- A row at the head of a block of its own. -/
def ownP (g cap : Nat) (L : List Nd) (w : World) : Prop := OwnN w g (.slice (some ⟨g, 0, none⟩) L.length cap) L
theorem ownP.later {g cap : Nat} {L : List Nd} {w w' : World} (h : ownP g cap L w) (hb : Below w.heap.size w w') : ownP g cap L w' := OwnN.later h hb
theorem ownP.front {g cap : Nat} {L X : List Nd} {w : World} (h : ownP g cap (L ++ X) w) : ownP g cap L w := by
  obtain ⟨h0, ⟨hv, hn⟩ | ⟨g', cap', cur, hv, hb, hg, hc, hm, hs, ht⟩⟩ := h
  · cases hv
  · cases hv
    refine ⟨flat10_length L, .inr ⟨g, cap, cur, rfl, hb, hg, ?_, hm, hs, ?_⟩⟩
    · rw [List.length_append] at hc; omega
    · rw [List.length_append, flat10_append] at ht
      have h2 : List.take (L.length * 10) (flat10 L ++ flat10 X) = flat10 L := by rw [List.take_append_of_le_length (by rw [flat10_length]; omega), List.take_of_length_le (by rw [flat10_length]; omega)]
      have := congrArg (List.take (L.length * 10)) ht
      rw [List.take_take, Nat.min_eq_left (by omega), h2] at this
      exact this
theorem ownP.lt {g cap : Nat} {L : List Nd} {w : World} (h : ownP g cap L w) : g < w.heap.size := by
  obtain ⟨h0, ⟨hv, hn⟩ | ⟨g', cap', cur, hv, hb, hg, hr⟩⟩ := h
  · cases hv
  · cases hv
    exact Blk.lt (w := w) (b := g) (vs := cur) (t := 59) hg
/-- How worlds go on where one row is written: what is owned before stays owned, and so does what is owned behind. -/
def RW (g cap : Nat) (L0 L1 : List Nd) (w w' : World) : Prop := w.grownBy w' (some g) ∧ (ownP g cap L0 w → ownP g cap L0 w') ∧ (ownP g cap L1 w → ownP g cap L1 w')
theorem RW.of {g cap : Nat} {L0 L1 : List Nd} (w w' : World) (hb : Below w.heap.size w w') : RW g cap L0 L1 w w' := ⟨gb_of hb, fun h => h.later hb, fun h => h.later hb⟩
theorem Blk.grow {w w' : World} {b g : Nat} {vs : Array Value} {t : TypeId} (h : Blk w b vs t) (hne : b ≠ g) (hg : w.grownBy w' (some g)) : Blk w' b vs t := (hg.block b h.lt (fun e => hne (Option.some.inj e))).trans h
structure WrS (w0 : World) (g cap : Nat) (L0 : List Nd) (A : Option Addr) (m : List Nd) (c bd br bw : Nat) (wh : Nd) (w : World) : Prop where
  bel : Below w0.heap.size w0 w
  row : NRow w A m
  box : Blk w bd #[.slice A m.length c] 49
  res : Blk w br #[.slice none 0 0] 49
  who : Blk w bw (ndC wh) 59
  own : ownP g cap L0 w
structure WrN (w0 : World) (g : Nat) (A : Option Addr) (bd br bw : Nat) : Prop where
  low : w0.heap.size ≤ g
  a : ∀ b o, A = some ⟨b, o, none⟩ → b ≠ g
  d : bd ≠ g
  r : br < g
  w : bw ≠ g
theorem WrS.grow {w0 w w' : World} {g cap : Nat} {L0 L1 : List Nd} {A : Option Addr} {m : List Nd} {c bd br bw : Nat} {wh : Nd} (hn : WrN w0 g A bd br bw) (h : WrS w0 g cap L0 A m c bd br bw wh w) (hr : RW g cap L0 L1 w w') : WrS w0 g cap L0 A m c bd br bw wh w' :=
  ⟨h.bel.trans ⟨hr.1.os, hr.1.tape, hr.1.output, hr.1.size, fun k hk => hr.1.block k (Nat.lt_of_lt_of_le hk h.bel.size) (fun e => by have h1 := Option.some.inj e; have h2 := hn.low; omega)⟩, h.row.gb hn.a hr.1, h.box.grow hn.d hr.1, h.res.grow (by have := hn.r; omega) hr.1, h.who.grow hn.w hr.1, hr.2.1 h.own⟩
/-- A new row of one node. -/
def NewN (g : Nat) (wh : Nd) (v : Value) (w : World) : Prop := ∃ b, v = .slice (some ⟨b, 0, none⟩) 1 1 ∧ Blk w b (ndC wh) 59 ∧ b ≠ g
theorem NewN.grow {g cap : Nat} {L0 L1 : List Nd} (wh : Nd) (v : Value) (w w' : World) (h : NewN g wh v w) (hr : RW g cap L0 L1 w w') : NewN g wh v w' := by
  obtain ⟨b, h1, h2, h3⟩ := h
  exact ⟨b, h1, h2.grow h3 hr.1, h3⟩
/-- The row behind the call. -/
def LaidV (g cap : Nat) (L1 : List Nd) (v : Value) (w : World) : Prop := v = .slice (some ⟨g, 0, none⟩) L1.length cap ∧ ownP g cap L1 w
theorem LaidV.grow {g cap : Nat} {L0 : List Nd} (L1 : List Nd) (v : Value) (w w' : World) (h : LaidV g cap L1 v w) (hr : RW g cap L0 L1 w w') : LaidV g cap L1 v w' := ⟨h.1, hr.2.2 h.2⟩
theorem wpList_make_nd {w : World} {ops : Array Oper} {rest : List Oper} {o : Oper} {a : Act} {Q : Exit → Act → World → Prop} (hgd : o.guard = none) (l c : Operand) (hop : o.op = Op.makeSlice 47 l c)
    (C : Int) (n : Nat) (hl : a.eval l = .int .i64 0) (hc : a.eval c = .int .i64 C) (hC : C = (n : Int)) (hn : n ≤ 1073741824)
    (hK : ∀ w', ownP w.heap.size n [] w' → Below w.heap.size w w' → wpList Tryd.prog ops Q rest (a.put o.dst (.slice (some ⟨w.heap.size, 0, none⟩) 0 n)) w') : wpList Tryd.prog ops Q (o :: rest) a w := by
  obtain ⟨ib, hib, hz0, hz1, hz2⟩ := info_parts infoNd
  exact wpList_make_own w hgd l c 47 hop w.heap.size 59 ib _ 10 Tryd.underlying47 hib hz0 hz1 .i64 .i64 C n hl hc hC (by rw [hz2]; omega) (by unfold maxLen; omega) (Nat.le_refl _)
    fun w' h1 h2 => hK w' h1 ⟨h2.os, h2.tape, h2.output, h2.size, fun k hk => h2.block k hk (by simp)⟩
theorem laid_wr {w0 : World} {g cap : Nat} {L0 : List Nd} {A : Option Addr} {m : List Nd} {c bd br bw : Nat} {wh : Nd} (hn : WrN w0 g A bd br bw) (d : Int) (hroom : L0.length + m.length ≤ cap) (hlen : L0.length + m.length < 1073741824) (hok : ∀ n ∈ m, MvOk d n)
    {w : World} (h : WrS w0 g cap L0 A m c bd br bw wh w) : Calls Tryd.prog 55 #[.slice (some ⟨g, 0, none⟩) L0.length cap, .slice A m.length c, .int .i64 d] w
      (fun e w' => ∃ v, e = .returned v ∧ LaidV g cap (L0 ++ m.map (mvN d)) v w' ∧ RW g cap L0 (L0 ++ m.map (mvN d)) w w') :=
  (laid_fits L0 m d g cap A c w h.own h.row hn.a hroom hlen hok).mono fun e w' hp => by
    obtain ⟨h1, h2, h3⟩ := hp
    exact ⟨_, h1, ⟨rfl, h2⟩, h3, fun _ => ownP.front h2, fun _ => h2⟩
set_option maxHeartbeats 16000000 in
set_option maxRecDepth 100000 in
theorem wrap_any (kind lo hi : Int) (l : List Nd) (A : Option Addr) (c : Nat) (hpos : 0 < l.length) (hlen : l.length ≤ 536870912) (hok : ∀ n ∈ l, MvOk 0 n) (w : World) (hrow : NRow w A l) :
    Calls Tryd.prog 30 #[.int .i64 kind, .int .i64 lo, .int .i64 hi, .agg #[.slice A l.length c]] w (DPost w (wrapL kind lo hi l)) := by
  have HA : Hid (∀ b o, A = some ⟨b, o, none⟩ → b < w.heap.size) := fun b o e => by
    obtain ⟨b', o', h1, h2, _⟩ := hrow 0 hpos
    rw [e] at h1; cases h1; exact h2
  have HS0 := Lib.hid (SbS.new w A l c hrow)
  have HOK := Lib.hid hok
  clear hrow hok
  go_enter Tryd.func30, Tryd.ntmps30
  go_upto_region 1 with (fail)
  generalize (w.alloc (.cells #[.slice A l.length c] 49)).alloc (.cells #[.slice none 0 0] 49) = w1 at *
  have e0 := HS0.out.fst.box.cell 0
  simp at e0
  have hmin : -9223372036854775808 ≤ (l.length : Int) - 1 := by omega
  go_upto_region 2 with (fail)
  have hb2 := (Below.refl w1.heap.size w1).alloc (Nat.le_refl _) (.cells (ndC ⟨kind, (l.length : Int) - 1, 0, lo, hi, 0#256, []⟩) 59)
  have HS2 := Lib.hid (HS0.out.later hb2)
  have HW2 := Lib.hid (Blk.new w1 (ndC ⟨kind, (l.length : Int) - 1, 0, lo, hi, 0#256, []⟩) 59)
  have hbw : w.heap.size + 1 < w1.heap.size := HS0.out.res.lt
  obtain ⟨wh, hwh⟩ : ∃ wh : Nd, wh = ⟨kind, (l.length : Int) - 1, 0, lo, hi, 0#256, []⟩ := ⟨_, rfl⟩
  have HWH := Lib.hid hwh
  have HWC : Hid (ndC wh = #[.int .i64 kind, .int .i64 ((l.length : Int) - 1), .int .i64 0, .int .i64 lo, .int .i64 hi, .int .u64 0, .int .u64 0, .int .u64 0, .int .u64 0, .string ⟨#[]⟩]) := by unfold Hid; rw [hwh, ndC_zero]; rfl
  rw [← hwh, HWC.out] at HS2 HW2
  clear hb2 e0 hwh
  generalize w1.alloc (.cells #[.int .i64 kind, .int .i64 ((l.length : Int) - 1), .int .i64 0, .int .i64 lo, .int .i64 hi, .int .u64 0, .int .u64 0, .int .u64 0, .int .u64 0, .string ⟨#[]⟩] 59) = w2 at *
  generalize w1.heap.size = bw at *
  have hbw2 : bw < w2.heap.size := HW2.out.lt
  have e0 := HS2.out.fst.box.cell 0
  simp at e0
  go_wp2_with (refine wpList_make_nd rfl _ _ rfl _ (l.length + 1) rfl rfl rfl (by omega) ?_; intro w3 ho3 hb3; have HO3 := Lib.hid ho3; have HS3 := Lib.hid (HS2.out.later hb3); have HW3 := Lib.hid (HW2.out.later hb3); clear ho3 hb3 e0)
  obtain ⟨g, hg⟩ : ∃ g, g = w2.heap.size := ⟨_, rfl⟩
  rw [← hg] at HO3 hbw2 ⊢
  clear hg
  obtain ⟨cap, hcap⟩ : ∃ cap, cap = l.length + 1 := ⟨_, rfl⟩
  rw [← hcap] at HO3 ⊢
  have HCAP := Lib.hid hcap
  have HN : Hid (WrN w g A w.heap.size (w.heap.size + 1) bw) := ⟨by omega, fun b o e => by have := HA.out b o e; omega, by omega, by omega, by omega⟩
  have HS : Hid (WrS w g cap [] A l c w.heap.size (w.heap.size + 1) bw wh w3) := ⟨HS3.out.fst.bel, HS3.out.fst.row, HS3.out.fst.box, HS3.out.res, by rw [HWC.out]; exact HW3.out, HO3.out⟩
  have HC : Hid (∀ w', WrS w g cap [] A l c w.heap.size (w.heap.size + 1) bw wh w' → Calls Tryd.prog 55 #[.slice (some ⟨g, 0, none⟩) 0 cap, .slice A l.length c, .int .i64 0] w' (fun e w'' => ∃ v, e = .returned v ∧ LaidV g cap l v w'' ∧ RW g cap [] l w' w'')) := fun w' h => by
    have := laid_wr HN.out 0 (by simp; omega) (by simp; omega) HOK.out h
    rw [map_mv_zero, List.nil_append] at this
    exact this
  have hR : ∀ w w', Below w.heap.size w w' → RW g cap [] l w w' := fun w w' => RW.of w w'
  have HR := Lib.hid hR
  have HHE := Lib.hid (fun (w' : World) => HWC.out)
  clear hcap hR HS3 HW3 HO3 HS2 HW2 HS0
  refine G.wp_region_stable_tail (R := (RW g cap [] l)) HR.out 6 (S := (WrS w g cap [] A l c w.heap.size (w.heap.size + 1) bw wh)) (hSt := fun _ _ h hr => h.grow HN.out hr) (plan := [[(10, none)], [(7, none)], [(25, some 1)], [(24, some 0), (26, some 2)], [(9, none)], [(28, some 4)]]) rfl rfl (by kernel_rfl) (by kernel_rfl) (by kernel_rfl) (by kernel_rfl) ?hS ?_
  rotate_left
  iterate 3 first
    | (refine G.chain_skip (by rfl) (by rfl) ?_)
    | (apply G.chain_want (by rfl)
       · intro act wx hS hr
         simp at hr
         have e0 := hS.box.cell 0
         have g0 := hS.who.cell
         rw [HWC.out] at g0
         have f0 := g0 0
         have f1 := g0 1
         have f2 := g0 2
         have f3 := g0 3
         have f4 := g0 4
         have f5 := g0 5
         have f6 := g0 6
         have f7 := g0 7
         have f8 := g0 8
         have f9 := g0 9
         clear g0
         simp at e0 f0 f1 f2 f3 f4 f5 f6 f7 f8 f9
         go_simp
         (try go_ints)
         first
           | exact G.Done.same HR.out
      )
  (refine G.chain_rel (LaidV g cap l) (LaidV.grow l) (by rfl) ?_ ?_
   · intro act wx hS hr
     simp at hr
     have e0 := hS.box.cell 0
     have g0 := hS.who.cell
     rw [HWC.out] at g0
     have f0 := g0 0
     have f1 := g0 1
     have f2 := g0 2
     have f3 := g0 3
     have f4 := g0 4
     have f5 := g0 5
     have f6 := g0 6
     have f7 := g0 7
     have f8 := g0 8
     have f9 := g0 9
     clear g0
     simp at e0 f0 f1 f2 f3 f4 f5 f6 f7 f8 f9
     all_goals go_simp
     ((with_reducible refine (HC.out _ hS).mono ?_); rintro e w' ⟨v, rfl, hv, hr⟩; exact G.Done.rel hr hv)
  )
  iterate 1 first
    | (refine G.chain_skip (by rfl) (by rfl) ?_)
    | (apply G.chain_want (by rfl)
       · intro act wx hS hr
         simp at hr
         have e0 := hS.box.cell 0
         have g0 := hS.who.cell
         rw [HWC.out] at g0
         have f0 := g0 0
         have f1 := g0 1
         have f2 := g0 2
         have f3 := g0 3
         have f4 := g0 4
         have f5 := g0 5
         have f6 := g0 6
         have f7 := g0 7
         have f8 := g0 8
         have f9 := g0 9
         clear g0
         simp at e0 f0 f1 f2 f3 f4 f5 f6 f7 f8 f9
         go_simp
         (try go_ints)
         first
           | exact G.Done.same HR.out
      )
  (refine G.chain_rel (NewN g wh) (NewN.grow wh) (by rfl) ?_ ?_
   · intro act wx hS hr
     simp at hr
     have e0 := hS.box.cell 0
     have g0 := hS.who.cell
     rw [HWC.out] at g0
     have f0 := g0 0
     have f1 := g0 1
     have f2 := g0 2
     have f3 := g0 3
     have f4 := g0 4
     have f5 := g0 5
     have f6 := g0 6
     have f7 := g0 7
     have f8 := g0 8
     have f9 := g0 9
     clear g0
     simp at e0 f0 f1 f2 f3 f4 f5 f6 f7 f8 f9
     all_goals go_simp
     exact G.Done.rel (HR.out _ _ ((Below.refl _ _).alloc (Nat.le_refl _) _)) ⟨_, rfl, by rw [HWC.out]; exact Blk.new _ _ _, by have := hS.own.lt; omega⟩
  )
  show ∀ w', _ → _
  intro wz hz
  simp [Act.put]
  case hS => exact HS.out
  intro v hv u hu
  obtain ⟨hv1, hv2⟩ := hv
  subst hv1
  obtain ⟨bb, rfl, hbb, hbne⟩ := hu
  have HZ := Lib.hid hz
  have HV := Lib.hid hv2
  have HBB := Lib.hid hbb
  have hroom : (l).length + 1 ≤ cap := by have := HCAP.out; (try simp at this ⊢); omega
  have HRM := Lib.hid hroom
  clear hz hv2 hbb hbne hroom
  have hbr := HN.out.r
  have hlow := HN.out.low
  have hbr2 : ¬ ((w.heap.size + 1) = g) := by omega
  go_wp2_with (at_builtin; refine wpList_append_nd_fits rfl _ _ rfl g g cap l rfl HV.out bb wh rfl HBB.out HRM.out ?_; intro w7 ho7 hb7; have HO7 := Lib.hid ho7; have HB7 := Lib.hid hb7; clear ho7 hb7; have HR7 := Lib.hid (HZ.out.res.grow hbr2 HB7.out); have HE7 : Hid (Below w.heap.size w w7) := HZ.out.bel.grown HB7.out HZ.out.bel.size (fun k hk => by cases hk; exact hlow); have r0 := HR7.out.cell 0; simp at r0; have rf := HR7.out.frozen; have s0 := HR7.out.put10 (o := 0) (by simp))
  have HWL : Hid (wrapL kind lo hi l = l ++ [wh]) := by unfold Hid wrapL; rw [HWH.out]
  have HO8 : Hid (OwnN w7 g (.slice (some ⟨g, 0, none⟩) (l.length + 1) cap) (wrapL kind lo hi l)) := by unfold Hid; rw [HWL.out]; have := HO7.out; rw [List.length_append] at this; exact this
  exact bodyPost_ret (v := .agg #[.slice (some ⟨g, 0, none⟩) (l.length + 1) cap]) (by simp [results, Tryd.results30, go_sem, s0]) rfl ⟨_, rfl, (HO8.out.setCell_ne (a := ⟨w.heap.size + 1, 0, none⟩) hbr _).weaken hlow, HE7.out.setCell (p := ⟨w.heap.size + 1, 0, none⟩) (Nat.le_succ _) _⟩
theorem wp_make_nd {w : World} {o : Oper} {a : Act} {K : Act → World → Prop} {Q : Exit → Act → World → Prop} (l c : Operand) (hop : o.op = Op.makeSlice 47 l c)
    (C : Int) (n : Nat) (hl : a.eval l = .int .i64 0) (hc : a.eval c = .int .i64 C) (hC : C = (n : Int)) (hn : n ≤ 1073741824)
    (hK : ∀ w', ownP w.heap.size n [] w' → Below w.heap.size w w' → K (a.put o.dst (.slice (some ⟨w.heap.size, 0, none⟩) 0 n)) w') : o.wp Tryd.prog a w K Q := by
  obtain ⟨ib, hib, hz0, hz1, hz2⟩ := info_parts infoNd
  obtain ⟨w', hrun, r1, r2⟩ := run_make_own (P := Tryd.prog) w w.heap.size 47 59 ib _ 10 Tryd.underlying47 hib hz0 hz1 .i64 .i64 n (by rw [hz2]; omega) (by unfold maxLen; omega) (Nat.le_refl _)
  subst hC
  unfold Oper.wp
  simp [execOp, hop, hl, hc, hrun, Result.andThen]
  exact hK w' r1 ⟨r2.os, r2.tape, r2.output, r2.size, fun k hk => r2.block k hk (by simp)⟩
def MadeN (lo cap : Nat) (v : Value) (w : World) : Prop := ∃ g, v = .slice (some ⟨g, 0, none⟩) 0 cap ∧ ownP g cap [] w ∧ lo ≤ g
theorem MadeN.later (lo cap : Nat) (v : Value) (w w' : World) (h : MadeN lo cap v w) (hb : Below w.heap.size w w') : MadeN lo cap v w' := by
  obtain ⟨g, h1, h2, h3⟩ := h
  exact ⟨g, h1, h2.later hb, h3⟩
structure PrS (w0 : World) (A B : Option Addr) (a b : List Nd) (c1 c2 lo bw : Nat) (wh : Nd) (w : World) : Prop where
  bel : Below w0.heap.size w0 w
  ra : NRow w A a
  rb : NRow w B b
  ba : Blk w w0.heap.size #[.slice A a.length c1] 49
  bb : Blk w (w0.heap.size + 1) #[.slice B b.length c2] 49
  res : Blk w (w0.heap.size + 2) #[.slice none 0 0] 49
  who : Blk w bw (ndC wh) 59
  low : lo ≤ w.heap.size
theorem PrS.later {w0 w w' : World} {A B : Option Addr} {a b : List Nd} {c1 c2 lo bw : Nat} {wh : Nd} (h : PrS w0 A B a b c1 c2 lo bw wh w) (hb : Below w.heap.size w w') : PrS w0 A B a b c1 c2 lo bw wh w' :=
  ⟨h.bel.trans (hb.mono h.bel.size), h.ra.later hb, h.rb.later hb, h.ba.later hb, h.bb.later hb, h.res.later hb, h.who.later hb, Nat.le_trans h.low hb.size⟩
theorem PrS.new (w : World) (A B : Option Addr) (a b : List Nd) (c1 c2 : Nat) (wh : Nd) (ha : NRow w A a) (hb : NRow w B b) :
    PrS w A B a b c1 c2 (w.heap.size + 4) (w.heap.size + 3) wh ((((w.alloc (.cells #[.slice A a.length c1] 49)).alloc (.cells #[.slice B b.length c2] 49)).alloc (.cells #[.slice none 0 0] 49)).alloc (.cells (ndC wh) 59)) := by
  have HB := ((((Below.refl w.heap.size w).alloc (Nat.le_refl _) (.cells #[.slice A a.length c1] 49)).alloc (by simp) (.cells #[.slice B b.length c2] 49)).alloc (by simp; omega) (.cells #[.slice none 0 0] 49)).alloc (by simp; omega) (.cells (ndC wh) 59)
  refine ⟨HB, ha.later HB, hb.later HB, (((Blk.new w _ _).alloc _).alloc _).alloc _, ?_, ?_, ?_, by simp⟩
  · have := ((Blk.new (w.alloc (.cells #[.slice A a.length c1] 49)) #[.slice B b.length c2] 49).alloc (.cells #[.slice none 0 0] 49)).alloc (.cells (ndC wh) 59)
    simpa using this
  · have := (Blk.new ((w.alloc (.cells #[.slice A a.length c1] 49)).alloc (.cells #[.slice B b.length c2] 49)) #[.slice none 0 0] 49).alloc (.cells (ndC wh) 59)
    simpa using this
  · have := Blk.new (((w.alloc (.cells #[.slice A a.length c1] 49)).alloc (.cells #[.slice B b.length c2] 49)).alloc (.cells #[.slice none 0 0] 49)) (ndC wh) 59
    simpa using this
set_option maxHeartbeats 16000000 in
set_option maxRecDepth 100000 in
theorem pair_any (kind : Int) (l m : List Nd) (A B : Option Addr) (c1 c2 : Nat) (hp1 : 0 < l.length) (hp2 : 0 < m.length) (hl1 : l.length ≤ 536870912) (hl2 : m.length ≤ 536870910) (hok1 : ∀ n ∈ l, MvOk 0 n) (hok2 : ∀ n ∈ m, MvOk (l.length : Int) n) (w : World) (ha : NRow w A l) (hb : NRow w B m) :
    Calls Tryd.prog 29 #[.int .i64 kind, .agg #[.slice A l.length c1], .agg #[.slice B m.length c2]] w (DPost w (pairL kind l m)) := by
  have HA : Hid (∀ b o, A = some ⟨b, o, none⟩ → b < w.heap.size) := fun b o e => by
    obtain ⟨b', o', h1, h2, _⟩ := ha 0 hp1
    rw [e] at h1; cases h1; exact h2
  have HB : Hid (∀ b o, B = some ⟨b, o, none⟩ → b < w.heap.size) := fun b o e => by
    obtain ⟨b', o', h1, h2, _⟩ := hb 0 hp2
    rw [e] at h1; cases h1; exact h2
  obtain ⟨wh, hwh⟩ : ∃ wh : Nd, wh = ⟨kind, (l.length : Int) - 1, (l.length : Int) + (m.length : Int) - 1, 0, 0, 0#256, []⟩ := ⟨_, rfl⟩
  have HWH := Lib.hid hwh
  have HWC : Hid (ndC wh = #[.int .i64 kind, .int .i64 ((l.length : Int) - 1), .int .i64 ((l.length : Int) + (m.length : Int) - 1), .int .i64 0, .int .i64 0, .int .u64 0, .int .u64 0, .int .u64 0, .int .u64 0, .string ⟨#[]⟩]) := by unfold Hid; rw [hwh, ndC_zero]; rfl
  have HS0 := Lib.hid (PrS.new w A B l m c1 c2 wh ha hb)
  rw [HWC.out] at HS0
  have HOK1 := Lib.hid hok1
  have HOK2 := Lib.hid hok2
  clear hwh ha hb hok1 hok2
  have hmin : -9223372036854775808 ≤ (l.length : Int) - 1 := by omega
  have hmin2 : -9223372036854775808 ≤ (l.length : Int) + (m.length : Int) - 1 := by omega
  go_enter Tryd.func29, Tryd.ntmps29
  go_upto_region 3 with (fail)
  generalize (((w.alloc (.cells #[.slice A l.length c1] 49)).alloc (.cells #[.slice B m.length c2] 49)).alloc (.cells #[.slice none 0 0] 49)).alloc (.cells #[.int .i64 kind, .int .i64 ((l.length : Int) - 1), .int .i64 ((l.length : Int) + (m.length : Int) - 1), .int .i64 0, .int .i64 0, .int .u64 0, .int .u64 0, .int .u64 0, .int .u64 0, .string ⟨#[]⟩] 59) = w2 at *
  have hs1 : IntKind.i64.wrap ((l.length : Int) + (m.length : Int)) = (l.length : Int) + (m.length : Int) := wrap_in (by omega) (by omega)
  have hs2 : IntKind.i64.wrap ((l.length : Int) + (m.length : Int) + 1) = (l.length : Int) + (m.length : Int) + 1 := wrap_in (by omega) (by omega)
  have hcap : (l.length : Int) + (m.length : Int) + 1 = ((l.length + m.length + 1 : Nat) : Int) := by omega
  have HCAP0 := Lib.hid hcap
  clear hcap
  have hbnd : l.length + m.length + 1 ≤ 1073741824 := by omega
  obtain ⟨cap, hcap⟩ : ∃ cap, cap = l.length + m.length + 1 := ⟨_, rfl⟩
  have HCAP := Lib.hid hcap
  rw [← hcap] at HCAP0 hbnd
  clear hcap
  refine wp_region_stable_tail 9 (S := (PrS w A B l m c1 c2 (w.heap.size + 4) (w.heap.size + 3) wh)) (hSt := fun _ _ h hb => h.later hb) (plan := [[(7, none)], [(5, none)], [(24, some 1)], [(25, some 2)], [(23, some 0), (26, some 3)], [(27, some 4)], [(28, some 5)], [(4, none)], [(30, some 7)]]) rfl rfl (by kernel_rfl) (by kernel_rfl) (by kernel_rfl) (by kernel_rfl) ?hS ?_
  rotate_left
  iterate 6 first
    | (refine chain_skip (by rfl) (by rfl) ?_)
    | (apply chain_want (by rfl)
       · intro act wx hS hr
         simp at hr
         have e0 := hS.ba.cell 0
         have e1 := hS.bb.cell 0
         simp at e0 e1
         go_simp
         (try go_ints)
         first
           | exact Done.same
      )
  (refine chain_rel (MadeN (w.heap.size + 4) cap) (MadeN.later _ _) (by rfl) ?_ ?_
   · intro act wx hS hr
     simp at hr
     have e0 := hS.ba.cell 0
     have e1 := hS.bb.cell 0
     simp at e0 e1
     refine wp_make_nd _ _ rfl _ cap rfl (by simp [Act.eval, hr]) HCAP0.out hbnd fun w' ho hb => Done.rel hb ⟨_, rfl, ho, hS.low⟩
     all_goals go_simp
  )
  iterate 2 first
    | (refine chain_skip (by rfl) (by rfl) ?_)
    | (apply chain_want (by rfl)
       · intro act wx hS hr
         simp at hr
         have e0 := hS.ba.cell 0
         have e1 := hS.bb.cell 0
         simp at e0 e1
         go_simp
         (try go_ints)
         first
           | exact Done.same
      )
  show ∀ w', _ → _
  intro wz hz
  simp [Act.put]
  case hS => exact HS0.out
  intro v hv
  obtain ⟨g, rfl, ho, hlo⟩ := hv
  have HZ := Lib.hid hz
  have HO := Lib.hid ho
  clear hz ho hs1 hs2
  have LC : Hid (Calls Tryd.prog 55 #[.slice (some ⟨g, 0, none⟩) 0 cap, .slice A l.length c1, .int .i64 0] wz (LaidFPost wz g cap l)) := by
    have h := laid_fits [] l 0 g cap A c1 wz HO.out HZ.out.ra (fun b o e => by have := HA.out b o e; omega) (by have := HCAP.out; simp; omega) (by simp; omega) HOK1.out
    rw [map_mv_zero, List.nil_append] at h
    exact h
  go_wp2_with fail
  refine LC.out.mono ?_; intro e w4 hp; obtain ⟨rfl, ho4, hg4⟩ := hp
  have HN : Hid (WrN w g B (w.heap.size + 1) (w.heap.size + 2) (w.heap.size + 3)) := ⟨by omega, fun b o e => by have := HB.out b o e; omega, by omega, by omega, by omega⟩
  have HS : Hid (WrS w g cap l B m c2 (w.heap.size + 1) (w.heap.size + 2) (w.heap.size + 3) wh w4) :=
    ⟨HZ.out.bel.grown hg4 HZ.out.bel.size (fun k hk => by cases hk; omega), HZ.out.rb.gb HN.out.a hg4, HZ.out.bb.grow (by omega) hg4, HZ.out.res.grow (by omega) hg4, HZ.out.who.grow (by omega) hg4, ho4⟩
  obtain ⟨L1, hL1⟩ : ∃ L1, L1 = l ++ m.map (mvN (l.length : Int)) := ⟨_, rfl⟩
  have HLL := Lib.hid hL1
  have HC : Hid (∀ w', WrS w g cap l B m c2 (w.heap.size + 1) (w.heap.size + 2) (w.heap.size + 3) wh w' → Calls Tryd.prog 55 #[.slice (some ⟨g, 0, none⟩) l.length cap, .slice B m.length c2, .int .i64 (l.length : Int)] w' (fun e w'' => ∃ v, e = .returned v ∧ LaidV g cap L1 v w'' ∧ RW g cap l L1 w' w'')) := fun w' h => by
    have := laid_wr HN.out (l.length : Int) (by have := HCAP.out; omega) (by omega) HOK2.out h
    rw [← hL1] at this
    exact this
  have hR : ∀ w w', Below w.heap.size w w' → RW g cap l L1 w w' := fun w w' => RW.of w w'
  have HR := Lib.hid hR
  have HL1 : Hid (L1.length + 1 ≤ cap) := by unfold Hid; rw [hL1, HCAP.out]; simp
  clear hR hg4 ho4 LC hL1 hlo
  go_upto_region 4 with (fail)
  refine G.wp_region_stable_tail (R := (RW g cap l L1)) HR.out 7 (S := (WrS w g cap l B m c2 (w.heap.size + 1) (w.heap.size + 2) (w.heap.size + 3) wh)) (hSt := fun _ _ h hr => h.grow HN.out hr) (plan := [[(9, none)], [(5, none)], [(34, some 1)], [(7, none)], [(33, some 0), (35, some 2), (36, some 3)], [(8, none)], [(38, some 5)]]) rfl rfl (by kernel_rfl) (by kernel_rfl) (by kernel_rfl) (by kernel_rfl) ?hS ?_
  rotate_left
  iterate 4 first
    | (refine G.chain_skip (by rfl) (by rfl) ?_)
    | (apply G.chain_want (by rfl)
       · intro act wx hS hr
         simp at hr
         have e0 := hS.box.cell 0
         have g0 := hS.who.cell
         rw [HWC.out] at g0
         have f0 := g0 0
         have f1 := g0 1
         have f2 := g0 2
         have f3 := g0 3
         have f4 := g0 4
         have f5 := g0 5
         have f6 := g0 6
         have f7 := g0 7
         have f8 := g0 8
         have f9 := g0 9
         clear g0
         simp at e0 f0 f1 f2 f3 f4 f5 f6 f7 f8 f9
         go_simp
         (try go_ints)
         first
           | exact G.Done.same HR.out
      )
  (refine G.chain_rel (LaidV g cap L1) (LaidV.grow L1) (by rfl) ?_ ?_
   · intro act wx hS hr
     simp at hr
     have e0 := hS.box.cell 0
     have g0 := hS.who.cell
     rw [HWC.out] at g0
     have f0 := g0 0
     have f1 := g0 1
     have f2 := g0 2
     have f3 := g0 3
     have f4 := g0 4
     have f5 := g0 5
     have f6 := g0 6
     have f7 := g0 7
     have f8 := g0 8
     have f9 := g0 9
     clear g0
     simp at e0 f0 f1 f2 f3 f4 f5 f6 f7 f8 f9
     all_goals go_simp
     ((with_reducible refine (HC.out _ hS).mono ?_); rintro e w' ⟨v, rfl, hv, hr⟩; exact G.Done.rel hr hv)
  )
  iterate 1 first
    | (refine G.chain_skip (by rfl) (by rfl) ?_)
    | (apply G.chain_want (by rfl)
       · intro act wx hS hr
         simp at hr
         have e0 := hS.box.cell 0
         have g0 := hS.who.cell
         rw [HWC.out] at g0
         have f0 := g0 0
         have f1 := g0 1
         have f2 := g0 2
         have f3 := g0 3
         have f4 := g0 4
         have f5 := g0 5
         have f6 := g0 6
         have f7 := g0 7
         have f8 := g0 8
         have f9 := g0 9
         clear g0
         simp at e0 f0 f1 f2 f3 f4 f5 f6 f7 f8 f9
         go_simp
         (try go_ints)
         first
           | exact G.Done.same HR.out
      )
  (refine G.chain_rel (NewN g wh) (NewN.grow wh) (by rfl) ?_ ?_
   · intro act wx hS hr
     simp at hr
     have e0 := hS.box.cell 0
     have g0 := hS.who.cell
     rw [HWC.out] at g0
     have f0 := g0 0
     have f1 := g0 1
     have f2 := g0 2
     have f3 := g0 3
     have f4 := g0 4
     have f5 := g0 5
     have f6 := g0 6
     have f7 := g0 7
     have f8 := g0 8
     have f9 := g0 9
     clear g0
     simp at e0 f0 f1 f2 f3 f4 f5 f6 f7 f8 f9
     all_goals go_simp
     exact G.Done.rel (HR.out _ _ ((Below.refl _ _).alloc (Nat.le_refl _) _)) ⟨_, rfl, by rw [HWC.out]; exact Blk.new _ _ _, by have := hS.own.lt; omega⟩
  )
  show ∀ w', _ → _
  intro wy hy
  simp [Act.put]
  case hS => exact HS.out
  intro v hv u hu
  obtain ⟨hv1, hv2⟩ := hv
  subst hv1
  obtain ⟨bb, rfl, hbb, hbne⟩ := hu
  have HY := Lib.hid hy
  have HV := Lib.hid hv2
  have HBB := Lib.hid hbb
  clear hy hv2 hbb hbne
  have hbr := HN.out.r
  have hlow := HN.out.low
  have hbr2 : ¬ (w.heap.size + 2 = g) := by omega
  go_wp2_with (at_builtin; refine wpList_append_nd_fits rfl _ _ rfl g g cap L1 rfl HV.out bb wh rfl HBB.out HL1.out ?_; intro w7 ho7 hb7; have HO7 := Lib.hid ho7; have HB7 := Lib.hid hb7; clear ho7 hb7; have HR7 := Lib.hid (HY.out.res.grow hbr2 HB7.out); have HE7 : Hid (Below w.heap.size w w7) := HY.out.bel.grown HB7.out HY.out.bel.size (fun k hk => by cases hk; exact hlow); have r0 := HR7.out.cell 0; simp at r0; have rf := HR7.out.frozen; have s0 := HR7.out.put10 (o := 0) (by simp))
  have HWL : Hid (pairL kind l m = L1 ++ [wh]) := by unfold Hid pairL; rw [HWH.out, HLL.out]
  have HO8 : Hid (OwnN w7 g (.slice (some ⟨g, 0, none⟩) (L1.length + 1) cap) (pairL kind l m)) := by unfold Hid; rw [HWL.out]; have := HO7.out; rw [List.length_append] at this; exact this
  exact bodyPost_ret (v := .agg #[.slice (some ⟨g, 0, none⟩) (L1.length + 1) cap]) (by simp [results, Tryd.results29, go_sem, s0]) rfl ⟨_, rfl, (HO8.out.setCell_ne (a := ⟨w.heap.size + 2, 0, none⟩) hbr _).weaken hlow, HE7.out.setCell (p := ⟨w.heap.size + 2, 0, none⟩) (by show w.heap.size ≤ w.heap.size + 2; omega) _⟩
end Go.Proofs.YtgehepiphdphjaaDoor
