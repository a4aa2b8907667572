/- One token, or its fault: walked. -/
import Derived.Test.YtcgjmnhmhiddkaaDoorM14
import Derived.Test.YtcgjmnhmhiddkaaDoorM08
import Derived.Test.YtcgjmnhmhiddkaaDoorM03
import Derived.Deep.RegionHeld3
import Derived.Laws.AppendOwn
namespace Go.Proofs.YtcgjmnhmhiddkaaDoor
open Go Go.RowKit
set_option linter.unusedVariables false

def oneR : One → Value
  | .tok t n => .tuple #[.agg (tokC t), .int .i64 ((n : Int) + 1), .int .i64 0]
  | .bad e => .tuple #[.agg z9, .int .i64 0, .int .i64 (e : Int)]
structure RdS (w : World) (cl : ByteArray) (fl : Int) (fn : Value) (w' : World) : Prop where
  bel : Below w.heap.size w w'
  box : Blk w' w.heap.size #[.string cl, .int .i64 fl, fn] 58
  res : Blk w' (w.heap.size + 1) z9 61
  u8 : U8T w'
theorem RdS.later {w : World} {cl : ByteArray} {fl : Int} {fn : Value} {w1 w2 : World} (h : RdS w cl fl fn w1) (hb : Below w1.heap.size w1 w2) : RdS w cl fl fn w2 :=
  ⟨h.bel.trans (hb.mono h.bel.size), h.box.later hb, h.res.later hb, h.u8.later hb⟩
theorem RdS.new (w : World) (cl : ByteArray) (fl : Int) (fn : Value) (hT : U8T w) :
    RdS w cl fl fn ((w.alloc (.cells #[.string cl, .int .i64 fl, fn] 58)).alloc (.cells #[.int .i64 0, .int .i64 0, .int .u64 0, .int .u64 0, .int .u64 0, .int .u64 0, .string ⟨#[]⟩, .int .i64 0, .int .i64 0] 61)) := by
  have hb : Below w.heap.size w ((w.alloc (.cells #[.string cl, .int .i64 fl, fn] 58)).alloc (.cells #[.int .i64 0, .int .i64 0, .int .u64 0, .int .u64 0, .int .u64 0, .int .u64 0, .string ⟨#[]⟩, .int .i64 0, .int .i64 0] 61)) := by go_grown
  exact ⟨hb, (Blk.new _ _ _).alloc _, Blk.new' (by simp) _ _, hT.later hb⟩
theorem box_cells {w : World} {b : Nat} {t : TypeId} {x y z : Value} (h : Blk w b #[x, y, z] t) : w.cell? ⟨b, 0, none⟩ = some x ∧ w.cell? ⟨b, 1, none⟩ = some y ∧ w.cell? ⟨b, 2, none⟩ = some z := ⟨h.cell 0, h.cell 1, h.cell 2⟩

set_option maxHeartbeats 8000000 in
set_option maxRecDepth 100000 in
theorem read_cls (s : ByteArray) (rest : List UInt8) (w : World) (hT : U8T w) (hl : rest.length ≤ 1073741824) (h1 : (1 : Int) ≤ (s.size : Int)) (hx : s.extract 1 s.size = bs rest) :
    Calls Tryd.prog 16 #[.agg #[.string ⟨#[62]⟩, .int .i64 2, (.func (.func 22) #[] #[])], .string s] w (Ans w (oneR (closed 62 2 rest clsF))) := by
  have hsz : (bs rest).size ≤ 4294967296 := by rw [bs_size]; omega
  have HX := Lib.hid hx
  have HR := Lib.hid (RdS.new w ⟨#[62]⟩ 2 (.func (.func 22) #[] #[]) hT)
  clear hx hT
  cases hc : cutAt 62 rest with
  | none =>
    have HC : Hid (cutAt 62 (bs rest).data.toList = none) := hc
    have HV : Hid (oneR (closed 62 2 rest clsF) = .tuple #[.agg z9, .int .i64 0, .int .i64 2]) := by unfold Hid closed; rw [hc]; rfl
    clear hc
    generalize oneR (closed 62 2 rest clsF) = v at *
    go_enter Tryd.func16, Tryd.ntmps16
    go_upto_region 1 with (fail)
    refine wp_region_stable (S := (RdS w ⟨#[62]⟩ 2 (.func (.func 22) #[] #[]))) (hSt := fun _ _ h hb => h.later hb) (plan := [[(1, none)], [(13, some 0)], [(2, none)], [(15, some 2)], [(14, some 1), (16, some 3)], [(17, some 4)], [(12, some 5)], [(12, some 5)], [(12, some 5)], [(18, some 6)], [(19, some 7)], [(20, some 8)]]) (by kernel_rfl) (by kernel_rfl) (by kernel_rfl) ?hS ?_
    rotate_left
    iterate 12 first
      | (refine chain_skip (by rfl) (by rfl) ?_)
      | (apply chain_want (by rfl)
         · intro act wx hS hr
           simp at hr
           have hx := HX.out
           obtain ⟨b0, b1, b2⟩ := box_cells hS.box
           go_simp
           (try go_ints)
           first
             | ((with_reducible refine (cut_miss _ _ _ HC.out).mono ?_); rintro e w' ⟨rfl, hb⟩; exact Done.mk hb)
             | exact Done.same
        )
    show ∀ w', _ → _
    intro wz hz
    simp [Act.put]
    case hS => exact HR.out
    obtain ⟨b0, b1, b2⟩ := box_cells hz.box
    have HZ := Lib.hid hz
    clear hz
    go_upto_region 3 with (fail)
    have hk := HZ.out.res
    unfold z9 at hk
    have ef := hk.frozen
    obtain ⟨e0, e1, e2, e3, e4, e5, e6, e7, e8⟩ := nine_cells hk
    obtain ⟨s0, s1, s2, s3, s4, s5, s6, s7, s8⟩ := nine hk
    clear hk
    have S0 := Lib.hid s0
    have S1 := Lib.hid s1
    have S2 := Lib.hid s2
    have S3 := Lib.hid s3
    have S4 := Lib.hid s4
    have S5 := Lib.hid s5
    have S6 := Lib.hid s6
    have S7 := Lib.hid s7
    have S8 := Lib.hid s8
    clear s0 s1 s2 s3 s4 s5 s6 s7 s8
    go_region_held3 (fun w' => w'.cell? ⟨w.heap.size, 1, none⟩ = some (.int .i64 2)) (go_keep) (fail)
    go_wp2
    exact bodyPost_ret (v := .tuple #[.agg #[.int .i64 0, .int .i64 0, .int .u64 0, .int .u64 0, .int .u64 0, .int .u64 0, .string ⟨#[]⟩, .int .i64 0, .int .i64 0], .int .i64 0, .int .i64 2]) (by simp [results, Tryd.results16, go_sem, S0.out, S1.out, S2.out, S3.out, S4.out, S5.out, S6.out, S7.out, S8.out]) rfl ⟨by rw [HV.out]; rfl, (below9 HZ.out.bel (Nat.le_succ _) _ _ _ _ _ _ _ _ _).drew⟩
  | some p =>
    obtain ⟨x, y⟩ := p
    have HC : Hid (cutAt 62 (bs rest).data.toList = some (x, y)) := hc
    have hxl : x.length ≤ 1073741824 := by have := congrArg List.length (cutAt_some hc).1; simp at this; omega
    have hcl : closed 62 2 rest clsF = clsF x := by unfold closed; rw [hc]
    clear hc
    cases hv : classV x with
    | none =>
      have HN : Hid (tokR ((classV x).map clsTok) = .tuple #[.agg #[.int .i64 0, .int .i64 0, .int .u64 0, .int .u64 0, .int .u64 0, .int .u64 0, .string ⟨#[]⟩, .int .i64 0, .int .i64 0], .bool false]) := by unfold Hid; rw [hv]; rfl
      have HV : Hid (oneR (closed 62 2 rest clsF) = .tuple #[.agg z9, .int .i64 0, .int .i64 2]) := by unfold Hid; rw [hcl]; unfold clsF; rw [hv]; rfl
      clear hv hcl
      generalize oneR (closed 62 2 rest clsF) = v at *
      go_enter Tryd.func16, Tryd.ntmps16
      go_upto_region 1 with (fail)
      refine wp_region_stable (S := (RdS w ⟨#[62]⟩ 2 (.func (.func 22) #[] #[]))) (hSt := fun _ _ h hb => h.later hb) (plan := [[(1, none)], [(13, some 0)], [(2, none)], [(15, some 2)], [(14, some 1), (16, some 3)], [(17, some 4)], [(12, some 5)], [(12, some 5)], [(12, some 5)], [(18, some 6)], [(19, some 7)], [(20, some 8)]]) (by kernel_rfl) (by kernel_rfl) (by kernel_rfl) ?hS ?_
      rotate_left
      iterate 12 first
        | (refine chain_skip (by rfl) (by rfl) ?_)
        | (apply chain_want (by rfl)
           · intro act wx hS hr
             simp at hr
             have hx := HX.out
             obtain ⟨b0, b1, b2⟩ := box_cells hS.box
             go_simp
             (try go_ints)
             first
               | ((with_reducible refine (cut_hit _ _ _ _ _ HC.out hsz).mono ?_); rintro e w' ⟨rfl, hb⟩; exact Done.mk hb)
               | exact Done.same
          )
      show ∀ w', _ → _
      intro wz hz
      simp [Act.put]
      case hS => exact HR.out
      obtain ⟨b0, b1, b2⟩ := box_cells hz.box
      have HZ := Lib.hid hz
      clear hz
      go_wp2_with fail
      refine (clstok_any x _ hxl).mono ?_; rintro e w3 ⟨rfl, hb3⟩
      rw [HN.out]
      have HZ3 := Lib.hid ((HZ.out.later hb3).later ((Below.refl _ _).alloc (Nat.le_refl _) (.cells #[.int .i64 0, .int .i64 0, .int .u64 0, .int .u64 0, .int .u64 0, .int .u64 0, .string ⟨#[]⟩, .int .i64 0, .int .i64 0] 61)))
      clear hb3 HN b0 b1 b2
      go_upto_region 6 with (fail)
      generalize w3.alloc (.cells #[.int .i64 0, .int .i64 0, .int .u64 0, .int .u64 0, .int .u64 0, .int .u64 0, .string ⟨#[]⟩, .int .i64 0, .int .i64 0] 61) = w4 at *
      obtain ⟨b0, b1, b2⟩ := box_cells HZ3.out.box
      have hk := HZ3.out.res
      unfold z9 at hk
      have ef := hk.frozen
      obtain ⟨e0, e1, e2, e3, e4, e5, e6, e7, e8⟩ := nine_cells hk
      obtain ⟨s0, s1, s2, s3, s4, s5, s6, s7, s8⟩ := nine hk
      clear hk
      have S0 := Lib.hid s0
      have S1 := Lib.hid s1
      have S2 := Lib.hid s2
      have S3 := Lib.hid s3
      have S4 := Lib.hid s4
      have S5 := Lib.hid s5
      have S6 := Lib.hid s6
      have S7 := Lib.hid s7
      have S8 := Lib.hid s8
      clear s0 s1 s2 s3 s4 s5 s6 s7 s8
      go_region_held3 (fun w' => w'.cell? ⟨w.heap.size, 1, none⟩ = some (.int .i64 2)) (go_keep) (fail)
      go_wp2
      exact bodyPost_ret (v := .tuple #[.agg #[.int .i64 0, .int .i64 0, .int .u64 0, .int .u64 0, .int .u64 0, .int .u64 0, .string ⟨#[]⟩, .int .i64 0, .int .i64 0], .int .i64 0, .int .i64 2]) (by simp [results, Tryd.results16, go_sem, S0.out, S1.out, S2.out, S3.out, S4.out, S5.out, S6.out, S7.out, S8.out]) rfl ⟨by rw [HV.out]; rfl, (below9 HZ3.out.bel (Nat.le_succ _) _ _ _ _ _ _ _ _ _).drew⟩
    | some t =>
      have HN : Hid (tokR ((classV x).map clsTok) = .tuple #[.agg (tokC (clsTok t)), .bool true]) := by unfold Hid; rw [hv]; rfl
      have HV : Hid (oneR (closed 62 2 rest clsF) = .tuple #[.agg (tokC (clsTok t)), .int .i64 (((x.length + 1 : Nat) : Int) + 1), .int .i64 0]) := by unfold Hid; rw [hcl]; unfold clsF; rw [hv]; rfl
      clear hv hcl
      generalize oneR (closed 62 2 rest clsF) = v at *
      have hxs : ((bs x).size : Int) = (x.length : Int) := by rw [bs_size]
      have HXS := Lib.hid hxs
      have hxs0 : (0 : Int) ≤ ((bs x).size : Int) := by omega
      have hxs1 : ((bs x).size : Int) ≤ 1073741824 := by omega
      clear hxs
      go_enter Tryd.func16, Tryd.ntmps16
      go_upto_region 1 with (fail)
      refine wp_region_stable (S := (RdS w ⟨#[62]⟩ 2 (.func (.func 22) #[] #[]))) (hSt := fun _ _ h hb => h.later hb) (plan := [[(1, none)], [(13, some 0)], [(2, none)], [(15, some 2)], [(14, some 1), (16, some 3)], [(17, some 4)], [(12, some 5)], [(12, some 5)], [(12, some 5)], [(18, some 6)], [(19, some 7)], [(20, some 8)]]) (by kernel_rfl) (by kernel_rfl) (by kernel_rfl) ?hS ?_
      rotate_left
      iterate 12 first
        | (refine chain_skip (by rfl) (by rfl) ?_)
        | (apply chain_want (by rfl)
           · intro act wx hS hr
             simp at hr
             have hx := HX.out
             obtain ⟨b0, b1, b2⟩ := box_cells hS.box
             go_simp
             (try go_ints)
             first
               | ((with_reducible refine (cut_hit _ _ _ _ _ HC.out hsz).mono ?_); rintro e w' ⟨rfl, hb⟩; exact Done.mk hb)
               | exact Done.same
          )
      show ∀ w', _ → _
      intro wz hz
      simp [Act.put]
      case hS => exact HR.out
      obtain ⟨b0, b1, b2⟩ := box_cells hz.box
      have HZ := Lib.hid hz
      clear hz
      go_wp2_with fail
      refine (clstok_any x _ hxl).mono ?_; rintro e w3 ⟨rfl, hb3⟩
      rw [HN.out]
      have HZ3 := Lib.hid ((HZ.out.later hb3).later ((Below.refl _ _).alloc (Nat.le_refl _) (.cells (tokC (clsTok t)) 61)))
      have HT3 := Lib.hid (Blk.new w3 (tokC (clsTok t)) 61)
      have hlt3 := (HZ.out.later hb3).res.lt
      clear hb3 HN b0 b1 b2
      have h255 : ¬ (((clsTok t).hi : Nat) : Int) > 255 := by show ¬ ((0 : Nat) : Int) > 255; decide
      have hlh : ¬ (((clsTok t).lo : Nat) : Int) > (((clsTok t).hi : Nat) : Int) := by show ¬ ((0 : Nat) : Int) > ((0 : Nat) : Int); decide
      have h255' : ¬ (255 : Int) < (((clsTok t).hi : Nat) : Int) := h255
      have hlh' : ¬ (((clsTok t).hi : Nat) : Int) < (((clsTok t).lo : Nat) : Int) := hlh
      unfold tokC at HZ3 HT3 ⊢
      (try unfold tokC at HV)
      go_upto_region 7 with (fail)
      generalize ((clsTok t).kind : Int) = K at *
      generalize ((clsTok t).at_ : Int) = A at *
      generalize ((clsTok t).lo : Int) = L at *
      generalize ((clsTok t).hi : Int) = H at *
      generalize (wd (clsTok t).cls 0 : Int) = c0 at *
      generalize (wd (clsTok t).cls 1 : Int) = c1 at *
      generalize (wd (clsTok t).cls 2 : Int) = c2 at *
      generalize (wd (clsTok t).cls 3 : Int) = c3 at *
      generalize bs (clsTok t).text = T at *
      generalize w3.alloc (.cells #[.int .i64 K, .int .i64 A, .int .u64 c0, .int .u64 c1, .int .u64 c2, .int .u64 c3, .string T, .int .i64 L, .int .i64 H] 61) = w4 at *
      generalize w3.heap.size = bt at *
      have hft := HT3.out.frozen
      obtain ⟨d0, d1, d2, d3, d4, d5, d6, d7, d8⟩ := nine_cells HT3.out
      obtain ⟨b0, b1, b2⟩ := box_cells HZ3.out.box
      have hbne : bt ≠ w.heap.size + 1 := by omega
      have hbne' : ¬ (w.heap.size + 1 = bt) := by omega
      go_upto_region 9 with (fail)
      have hk := HZ3.out.res
      unfold z9 at hk
      have ef := hk.frozen
      obtain ⟨e0, e1, e2, e3, e4, e5, e6, e7, e8⟩ := nine_cells hk
      obtain ⟨s0, s1, s2, s3, s4, s5, s6, s7, s8⟩ := nine hk
      clear hk
      have S0 := Lib.hid s0
      have S1 := Lib.hid s1
      have S2 := Lib.hid s2
      have S3 := Lib.hid s3
      have S4 := Lib.hid s4
      have S5 := Lib.hid s5
      have S6 := Lib.hid s6
      have S7 := Lib.hid s7
      have S8 := Lib.hid s8
      clear s0 s1 s2 s3 s4 s5 s6 s7 s8
      go_region_held3 (fun w' => w'.cell? ⟨bt, 0, none⟩ = some (.int .i64 K) ∧ w'.cell? ⟨bt, 1, none⟩ = some (.int .i64 A) ∧ w'.cell? ⟨bt, 2, none⟩ = some (.int .u64 c0) ∧ w'.cell? ⟨bt, 3, none⟩ = some (.int .u64 c1) ∧ w'.cell? ⟨bt, 4, none⟩ = some (.int .u64 c2) ∧ w'.cell? ⟨bt, 5, none⟩ = some (.int .u64 c3) ∧ w'.cell? ⟨bt, 6, none⟩ = some (.string T) ∧ w'.cell? ⟨bt, 7, none⟩ = some (.int .i64 L) ∧ w'.cell? ⟨bt, 8, none⟩ = some (.int .i64 H) ∧ w'.cell? ⟨w.heap.size, 0, none⟩ = some (.string ⟨#[62]⟩)) (go_keep) (fail)
      go_wp2
      have e : (((x.length + 1 : Nat) : Int) + 1) = 1 + ((bs x).size : Int) + 1 := by rw [bs_size]; omega
      have hw1 : IntKind.i64.wrap (1 + ((bs x).size : Int)) = 1 + ((bs x).size : Int) := IntWalk.i64_in _ (by omega)
      have hw2 : IntKind.i64.wrap (1 + ((bs x).size : Int) + 1) = 1 + ((bs x).size : Int) + 1 := IntWalk.i64_in _ (by omega)
      exact bodyPost_ret (v := .tuple #[.agg #[.int .i64 K, .int .i64 A, .int .u64 c0, .int .u64 c1, .int .u64 c2, .int .u64 c3, .string T, .int .i64 L, .int .i64 H], .int .i64 (1 + ((bs x).size : Int) + 1), .int .i64 0]) (by simp [results, Tryd.results16, go_sem, S0.out, S1.out, S2.out, S3.out, S4.out, S5.out, S6.out, S7.out, S8.out, hw1, hw2]) rfl ⟨by rw [HV.out, e], (below9 HZ3.out.bel (Nat.le_succ _) _ _ _ _ _ _ _ _ _).drew⟩
set_option maxHeartbeats 8000000 in
set_option maxRecDepth 100000 in
theorem read_txt (s : ByteArray) (rest : List UInt8) (w : World) (hT : U8T w) (hl : rest.length ≤ 1073741824) (h1 : (1 : Int) ≤ (s.size : Int)) (hx : s.extract 1 s.size = bs rest) :
    Calls Tryd.prog 16 #[.agg #[.string ⟨#[34]⟩, .int .i64 3, (.func (.func 23) #[] #[])], .string s] w (Ans w (oneR (closed 34 3 rest txtF))) := by
  have hsz : (bs rest).size ≤ 4294967296 := by rw [bs_size]; omega
  have HX := Lib.hid hx
  have HR := Lib.hid (RdS.new w ⟨#[34]⟩ 3 (.func (.func 23) #[] #[]) hT)
  clear hx hT
  cases hc : cutAt 34 rest with
  | none =>
    have HC : Hid (cutAt 34 (bs rest).data.toList = none) := hc
    have HV : Hid (oneR (closed 34 3 rest txtF) = .tuple #[.agg z9, .int .i64 0, .int .i64 3]) := by unfold Hid closed; rw [hc]; rfl
    clear hc
    generalize oneR (closed 34 3 rest txtF) = v at *
    go_enter Tryd.func16, Tryd.ntmps16
    go_upto_region 1 with (fail)
    refine wp_region_stable (S := (RdS w ⟨#[34]⟩ 3 (.func (.func 23) #[] #[]))) (hSt := fun _ _ h hb => h.later hb) (plan := [[(1, none)], [(13, some 0)], [(2, none)], [(15, some 2)], [(14, some 1), (16, some 3)], [(17, some 4)], [(12, some 5)], [(12, some 5)], [(12, some 5)], [(18, some 6)], [(19, some 7)], [(20, some 8)]]) (by kernel_rfl) (by kernel_rfl) (by kernel_rfl) ?hS ?_
    rotate_left
    iterate 12 first
      | (refine chain_skip (by rfl) (by rfl) ?_)
      | (apply chain_want (by rfl)
         · intro act wx hS hr
           simp at hr
           have hx := HX.out
           obtain ⟨b0, b1, b2⟩ := box_cells hS.box
           go_simp
           (try go_ints)
           first
             | ((with_reducible refine (cut_miss _ _ _ HC.out).mono ?_); rintro e w' ⟨rfl, hb⟩; exact Done.mk hb)
             | exact Done.same
        )
    show ∀ w', _ → _
    intro wz hz
    simp [Act.put]
    case hS => exact HR.out
    obtain ⟨b0, b1, b2⟩ := box_cells hz.box
    have HZ := Lib.hid hz
    clear hz
    go_upto_region 3 with (fail)
    have hk := HZ.out.res
    unfold z9 at hk
    have ef := hk.frozen
    obtain ⟨e0, e1, e2, e3, e4, e5, e6, e7, e8⟩ := nine_cells hk
    obtain ⟨s0, s1, s2, s3, s4, s5, s6, s7, s8⟩ := nine hk
    clear hk
    have S0 := Lib.hid s0
    have S1 := Lib.hid s1
    have S2 := Lib.hid s2
    have S3 := Lib.hid s3
    have S4 := Lib.hid s4
    have S5 := Lib.hid s5
    have S6 := Lib.hid s6
    have S7 := Lib.hid s7
    have S8 := Lib.hid s8
    clear s0 s1 s2 s3 s4 s5 s6 s7 s8
    go_region_held3 (fun w' => w'.cell? ⟨w.heap.size, 1, none⟩ = some (.int .i64 3)) (go_keep) (fail)
    go_wp2
    exact bodyPost_ret (v := .tuple #[.agg #[.int .i64 0, .int .i64 0, .int .u64 0, .int .u64 0, .int .u64 0, .int .u64 0, .string ⟨#[]⟩, .int .i64 0, .int .i64 0], .int .i64 0, .int .i64 3]) (by simp [results, Tryd.results16, go_sem, S0.out, S1.out, S2.out, S3.out, S4.out, S5.out, S6.out, S7.out, S8.out]) rfl ⟨by rw [HV.out]; rfl, (below9 HZ.out.bel (Nat.le_succ _) _ _ _ _ _ _ _ _ _).drew⟩
  | some p =>
    obtain ⟨x, y⟩ := p
    have HC : Hid (cutAt 34 (bs rest).data.toList = some (x, y)) := hc
    have hxl : x.length ≤ 1073741824 := by have := congrArg List.length (cutAt_some hc).1; simp at this; omega
    have hcl : closed 34 3 rest txtF = txtF x := by unfold closed; rw [hc]
    clear hc
    cases hv : textV x with
    | none =>
      have HN : Hid (tokR ((textV x).map txtTok) = .tuple #[.agg #[.int .i64 0, .int .i64 0, .int .u64 0, .int .u64 0, .int .u64 0, .int .u64 0, .string ⟨#[]⟩, .int .i64 0, .int .i64 0], .bool false]) := by unfold Hid; rw [hv]; rfl
      have HV : Hid (oneR (closed 34 3 rest txtF) = .tuple #[.agg z9, .int .i64 0, .int .i64 3]) := by unfold Hid; rw [hcl]; unfold txtF; rw [hv]; rfl
      clear hv hcl
      generalize oneR (closed 34 3 rest txtF) = v at *
      go_enter Tryd.func16, Tryd.ntmps16
      go_upto_region 1 with (fail)
      refine wp_region_stable (S := (RdS w ⟨#[34]⟩ 3 (.func (.func 23) #[] #[]))) (hSt := fun _ _ h hb => h.later hb) (plan := [[(1, none)], [(13, some 0)], [(2, none)], [(15, some 2)], [(14, some 1), (16, some 3)], [(17, some 4)], [(12, some 5)], [(12, some 5)], [(12, some 5)], [(18, some 6)], [(19, some 7)], [(20, some 8)]]) (by kernel_rfl) (by kernel_rfl) (by kernel_rfl) ?hS ?_
      rotate_left
      iterate 12 first
        | (refine chain_skip (by rfl) (by rfl) ?_)
        | (apply chain_want (by rfl)
           · intro act wx hS hr
             simp at hr
             have hx := HX.out
             obtain ⟨b0, b1, b2⟩ := box_cells hS.box
             go_simp
             (try go_ints)
             first
               | ((with_reducible refine (cut_hit _ _ _ _ _ HC.out hsz).mono ?_); rintro e w' ⟨rfl, hb⟩; exact Done.mk hb)
               | exact Done.same
          )
      show ∀ w', _ → _
      intro wz hz
      simp [Act.put]
      case hS => exact HR.out
      obtain ⟨b0, b1, b2⟩ := box_cells hz.box
      have HZ := Lib.hid hz
      clear hz
      go_wp2_with fail
      refine (txttok_any x _ hxl HZ.out.u8).mono ?_; rintro e w3 ⟨rfl, hb3⟩
      rw [HN.out]
      have HZ3 := Lib.hid ((HZ.out.later hb3).later ((Below.refl _ _).alloc (Nat.le_refl _) (.cells #[.int .i64 0, .int .i64 0, .int .u64 0, .int .u64 0, .int .u64 0, .int .u64 0, .string ⟨#[]⟩, .int .i64 0, .int .i64 0] 61)))
      clear hb3 HN b0 b1 b2
      go_upto_region 6 with (fail)
      generalize w3.alloc (.cells #[.int .i64 0, .int .i64 0, .int .u64 0, .int .u64 0, .int .u64 0, .int .u64 0, .string ⟨#[]⟩, .int .i64 0, .int .i64 0] 61) = w4 at *
      obtain ⟨b0, b1, b2⟩ := box_cells HZ3.out.box
      have hk := HZ3.out.res
      unfold z9 at hk
      have ef := hk.frozen
      obtain ⟨e0, e1, e2, e3, e4, e5, e6, e7, e8⟩ := nine_cells hk
      obtain ⟨s0, s1, s2, s3, s4, s5, s6, s7, s8⟩ := nine hk
      clear hk
      have S0 := Lib.hid s0
      have S1 := Lib.hid s1
      have S2 := Lib.hid s2
      have S3 := Lib.hid s3
      have S4 := Lib.hid s4
      have S5 := Lib.hid s5
      have S6 := Lib.hid s6
      have S7 := Lib.hid s7
      have S8 := Lib.hid s8
      clear s0 s1 s2 s3 s4 s5 s6 s7 s8
      go_region_held3 (fun w' => w'.cell? ⟨w.heap.size, 1, none⟩ = some (.int .i64 3)) (go_keep) (fail)
      go_wp2
      exact bodyPost_ret (v := .tuple #[.agg #[.int .i64 0, .int .i64 0, .int .u64 0, .int .u64 0, .int .u64 0, .int .u64 0, .string ⟨#[]⟩, .int .i64 0, .int .i64 0], .int .i64 0, .int .i64 3]) (by simp [results, Tryd.results16, go_sem, S0.out, S1.out, S2.out, S3.out, S4.out, S5.out, S6.out, S7.out, S8.out]) rfl ⟨by rw [HV.out]; rfl, (below9 HZ3.out.bel (Nat.le_succ _) _ _ _ _ _ _ _ _ _).drew⟩
    | some t =>
      have HN : Hid (tokR ((textV x).map txtTok) = .tuple #[.agg (tokC (txtTok t)), .bool true]) := by unfold Hid; rw [hv]; rfl
      have HV : Hid (oneR (closed 34 3 rest txtF) = .tuple #[.agg (tokC (txtTok t)), .int .i64 (((x.length + 1 : Nat) : Int) + 1), .int .i64 0]) := by unfold Hid; rw [hcl]; unfold txtF; rw [hv]; rfl
      clear hv hcl
      generalize oneR (closed 34 3 rest txtF) = v at *
      have hxs : ((bs x).size : Int) = (x.length : Int) := by rw [bs_size]
      have HXS := Lib.hid hxs
      have hxs0 : (0 : Int) ≤ ((bs x).size : Int) := by omega
      have hxs1 : ((bs x).size : Int) ≤ 1073741824 := by omega
      clear hxs
      go_enter Tryd.func16, Tryd.ntmps16
      go_upto_region 1 with (fail)
      refine wp_region_stable (S := (RdS w ⟨#[34]⟩ 3 (.func (.func 23) #[] #[]))) (hSt := fun _ _ h hb => h.later hb) (plan := [[(1, none)], [(13, some 0)], [(2, none)], [(15, some 2)], [(14, some 1), (16, some 3)], [(17, some 4)], [(12, some 5)], [(12, some 5)], [(12, some 5)], [(18, some 6)], [(19, some 7)], [(20, some 8)]]) (by kernel_rfl) (by kernel_rfl) (by kernel_rfl) ?hS ?_
      rotate_left
      iterate 12 first
        | (refine chain_skip (by rfl) (by rfl) ?_)
        | (apply chain_want (by rfl)
           · intro act wx hS hr
             simp at hr
             have hx := HX.out
             obtain ⟨b0, b1, b2⟩ := box_cells hS.box
             go_simp
             (try go_ints)
             first
               | ((with_reducible refine (cut_hit _ _ _ _ _ HC.out hsz).mono ?_); rintro e w' ⟨rfl, hb⟩; exact Done.mk hb)
               | exact Done.same
          )
      show ∀ w', _ → _
      intro wz hz
      simp [Act.put]
      case hS => exact HR.out
      obtain ⟨b0, b1, b2⟩ := box_cells hz.box
      have HZ := Lib.hid hz
      clear hz
      go_wp2_with fail
      refine (txttok_any x _ hxl HZ.out.u8).mono ?_; rintro e w3 ⟨rfl, hb3⟩
      rw [HN.out]
      have HZ3 := Lib.hid ((HZ.out.later hb3).later ((Below.refl _ _).alloc (Nat.le_refl _) (.cells (tokC (txtTok t)) 61)))
      have HT3 := Lib.hid (Blk.new w3 (tokC (txtTok t)) 61)
      have hlt3 := (HZ.out.later hb3).res.lt
      clear hb3 HN b0 b1 b2
      have h255 : ¬ (((txtTok t).hi : Nat) : Int) > 255 := by show ¬ ((0 : Nat) : Int) > 255; decide
      have hlh : ¬ (((txtTok t).lo : Nat) : Int) > (((txtTok t).hi : Nat) : Int) := by show ¬ ((0 : Nat) : Int) > ((0 : Nat) : Int); decide
      have h255' : ¬ (255 : Int) < (((txtTok t).hi : Nat) : Int) := h255
      have hlh' : ¬ (((txtTok t).hi : Nat) : Int) < (((txtTok t).lo : Nat) : Int) := hlh
      unfold tokC at HZ3 HT3 ⊢
      (try unfold tokC at HV)
      go_upto_region 7 with (fail)
      generalize ((txtTok t).kind : Int) = K at *
      generalize ((txtTok t).at_ : Int) = A at *
      generalize ((txtTok t).lo : Int) = L at *
      generalize ((txtTok t).hi : Int) = H at *
      generalize (wd (txtTok t).cls 0 : Int) = c0 at *
      generalize (wd (txtTok t).cls 1 : Int) = c1 at *
      generalize (wd (txtTok t).cls 2 : Int) = c2 at *
      generalize (wd (txtTok t).cls 3 : Int) = c3 at *
      generalize bs (txtTok t).text = T at *
      generalize w3.alloc (.cells #[.int .i64 K, .int .i64 A, .int .u64 c0, .int .u64 c1, .int .u64 c2, .int .u64 c3, .string T, .int .i64 L, .int .i64 H] 61) = w4 at *
      generalize w3.heap.size = bt at *
      have hft := HT3.out.frozen
      obtain ⟨d0, d1, d2, d3, d4, d5, d6, d7, d8⟩ := nine_cells HT3.out
      obtain ⟨b0, b1, b2⟩ := box_cells HZ3.out.box
      have hbne : bt ≠ w.heap.size + 1 := by omega
      have hbne' : ¬ (w.heap.size + 1 = bt) := by omega
      go_upto_region 9 with (fail)
      have hk := HZ3.out.res
      unfold z9 at hk
      have ef := hk.frozen
      obtain ⟨e0, e1, e2, e3, e4, e5, e6, e7, e8⟩ := nine_cells hk
      obtain ⟨s0, s1, s2, s3, s4, s5, s6, s7, s8⟩ := nine hk
      clear hk
      have S0 := Lib.hid s0
      have S1 := Lib.hid s1
      have S2 := Lib.hid s2
      have S3 := Lib.hid s3
      have S4 := Lib.hid s4
      have S5 := Lib.hid s5
      have S6 := Lib.hid s6
      have S7 := Lib.hid s7
      have S8 := Lib.hid s8
      clear s0 s1 s2 s3 s4 s5 s6 s7 s8
      go_region_held3 (fun w' => w'.cell? ⟨bt, 0, none⟩ = some (.int .i64 K) ∧ w'.cell? ⟨bt, 1, none⟩ = some (.int .i64 A) ∧ w'.cell? ⟨bt, 2, none⟩ = some (.int .u64 c0) ∧ w'.cell? ⟨bt, 3, none⟩ = some (.int .u64 c1) ∧ w'.cell? ⟨bt, 4, none⟩ = some (.int .u64 c2) ∧ w'.cell? ⟨bt, 5, none⟩ = some (.int .u64 c3) ∧ w'.cell? ⟨bt, 6, none⟩ = some (.string T) ∧ w'.cell? ⟨bt, 7, none⟩ = some (.int .i64 L) ∧ w'.cell? ⟨bt, 8, none⟩ = some (.int .i64 H) ∧ w'.cell? ⟨w.heap.size, 0, none⟩ = some (.string ⟨#[34]⟩)) (go_keep) (fail)
      go_wp2
      have e : (((x.length + 1 : Nat) : Int) + 1) = 1 + ((bs x).size : Int) + 1 := by rw [bs_size]; omega
      have hw1 : IntKind.i64.wrap (1 + ((bs x).size : Int)) = 1 + ((bs x).size : Int) := IntWalk.i64_in _ (by omega)
      have hw2 : IntKind.i64.wrap (1 + ((bs x).size : Int) + 1) = 1 + ((bs x).size : Int) + 1 := IntWalk.i64_in _ (by omega)
      exact bodyPost_ret (v := .tuple #[.agg #[.int .i64 K, .int .i64 A, .int .u64 c0, .int .u64 c1, .int .u64 c2, .int .u64 c3, .string T, .int .i64 L, .int .i64 H], .int .i64 (1 + ((bs x).size : Int) + 1), .int .i64 0]) (by simp [results, Tryd.results16, go_sem, S0.out, S1.out, S2.out, S3.out, S4.out, S5.out, S6.out, S7.out, S8.out, hw1, hw2]) rfl ⟨by rw [HV.out, e], (below9 HZ3.out.bel (Nat.le_succ _) _ _ _ _ _ _ _ _ _).drew⟩
set_option maxHeartbeats 8000000 in
set_option maxRecDepth 100000 in
theorem read_rep (s : ByteArray) (rest : List UInt8) (w : World) (hT : U8T w) (hl : rest.length ≤ 1073741824) (h1 : (1 : Int) ≤ (s.size : Int)) (hx : s.extract 1 s.size = bs rest) :
    Calls Tryd.prog 16 #[.agg #[.string ⟨#[125]⟩, .int .i64 4, (.func (.func 24) #[] #[])], .string s] w (Ans w (oneR (closed 125 4 rest repF))) := by
  have hsz : (bs rest).size ≤ 4294967296 := by rw [bs_size]; omega
  have HX := Lib.hid hx
  have HR := Lib.hid (RdS.new w ⟨#[125]⟩ 4 (.func (.func 24) #[] #[]) hT)
  clear hx hT
  cases hc : cutAt 125 rest with
  | none =>
    have HC : Hid (cutAt 125 (bs rest).data.toList = none) := hc
    have HV : Hid (oneR (closed 125 4 rest repF) = .tuple #[.agg z9, .int .i64 0, .int .i64 4]) := by unfold Hid closed; rw [hc]; rfl
    clear hc
    generalize oneR (closed 125 4 rest repF) = v at *
    go_enter Tryd.func16, Tryd.ntmps16
    go_upto_region 1 with (fail)
    refine wp_region_stable (S := (RdS w ⟨#[125]⟩ 4 (.func (.func 24) #[] #[]))) (hSt := fun _ _ h hb => h.later hb) (plan := [[(1, none)], [(13, some 0)], [(2, none)], [(15, some 2)], [(14, some 1), (16, some 3)], [(17, some 4)], [(12, some 5)], [(12, some 5)], [(12, some 5)], [(18, some 6)], [(19, some 7)], [(20, some 8)]]) (by kernel_rfl) (by kernel_rfl) (by kernel_rfl) ?hS ?_
    rotate_left
    iterate 12 first
      | (refine chain_skip (by rfl) (by rfl) ?_)
      | (apply chain_want (by rfl)
         · intro act wx hS hr
           simp at hr
           have hx := HX.out
           obtain ⟨b0, b1, b2⟩ := box_cells hS.box
           go_simp
           (try go_ints)
           first
             | ((with_reducible refine (cut_miss _ _ _ HC.out).mono ?_); rintro e w' ⟨rfl, hb⟩; exact Done.mk hb)
             | exact Done.same
        )
    show ∀ w', _ → _
    intro wz hz
    simp [Act.put]
    case hS => exact HR.out
    obtain ⟨b0, b1, b2⟩ := box_cells hz.box
    have HZ := Lib.hid hz
    clear hz
    go_upto_region 3 with (fail)
    have hk := HZ.out.res
    unfold z9 at hk
    have ef := hk.frozen
    obtain ⟨e0, e1, e2, e3, e4, e5, e6, e7, e8⟩ := nine_cells hk
    obtain ⟨s0, s1, s2, s3, s4, s5, s6, s7, s8⟩ := nine hk
    clear hk
    have S0 := Lib.hid s0
    have S1 := Lib.hid s1
    have S2 := Lib.hid s2
    have S3 := Lib.hid s3
    have S4 := Lib.hid s4
    have S5 := Lib.hid s5
    have S6 := Lib.hid s6
    have S7 := Lib.hid s7
    have S8 := Lib.hid s8
    clear s0 s1 s2 s3 s4 s5 s6 s7 s8
    go_region_held3 (fun w' => w'.cell? ⟨w.heap.size, 1, none⟩ = some (.int .i64 4)) (go_keep) (fail)
    go_wp2
    exact bodyPost_ret (v := .tuple #[.agg #[.int .i64 0, .int .i64 0, .int .u64 0, .int .u64 0, .int .u64 0, .int .u64 0, .string ⟨#[]⟩, .int .i64 0, .int .i64 0], .int .i64 0, .int .i64 4]) (by simp [results, Tryd.results16, go_sem, S0.out, S1.out, S2.out, S3.out, S4.out, S5.out, S6.out, S7.out, S8.out]) rfl ⟨by rw [HV.out]; rfl, (below9 HZ.out.bel (Nat.le_succ _) _ _ _ _ _ _ _ _ _).drew⟩
  | some p =>
    obtain ⟨x, y⟩ := p
    have HC : Hid (cutAt 125 (bs rest).data.toList = some (x, y)) := hc
    have hxl : x.length ≤ 1073741824 := by have := congrArg List.length (cutAt_some hc).1; simp at this; omega
    have hcl : closed 125 4 rest repF = repF x := by unfold closed; rw [hc]
    clear hc
    cases hv : repV x with
    | none =>
      have HN : Hid (tokR ((repV x).map repTok) = .tuple #[.agg #[.int .i64 0, .int .i64 0, .int .u64 0, .int .u64 0, .int .u64 0, .int .u64 0, .string ⟨#[]⟩, .int .i64 0, .int .i64 0], .bool false]) := by unfold Hid; rw [hv]; rfl
      have HV : Hid (oneR (closed 125 4 rest repF) = .tuple #[.agg z9, .int .i64 0, .int .i64 4]) := by unfold Hid; rw [hcl]; unfold repF; rw [hv]; rfl
      clear hv hcl
      generalize oneR (closed 125 4 rest repF) = v at *
      go_enter Tryd.func16, Tryd.ntmps16
      go_upto_region 1 with (fail)
      refine wp_region_stable (S := (RdS w ⟨#[125]⟩ 4 (.func (.func 24) #[] #[]))) (hSt := fun _ _ h hb => h.later hb) (plan := [[(1, none)], [(13, some 0)], [(2, none)], [(15, some 2)], [(14, some 1), (16, some 3)], [(17, some 4)], [(12, some 5)], [(12, some 5)], [(12, some 5)], [(18, some 6)], [(19, some 7)], [(20, some 8)]]) (by kernel_rfl) (by kernel_rfl) (by kernel_rfl) ?hS ?_
      rotate_left
      iterate 12 first
        | (refine chain_skip (by rfl) (by rfl) ?_)
        | (apply chain_want (by rfl)
           · intro act wx hS hr
             simp at hr
             have hx := HX.out
             obtain ⟨b0, b1, b2⟩ := box_cells hS.box
             go_simp
             (try go_ints)
             first
               | ((with_reducible refine (cut_hit _ _ _ _ _ HC.out hsz).mono ?_); rintro e w' ⟨rfl, hb⟩; exact Done.mk hb)
               | exact Done.same
          )
      show ∀ w', _ → _
      intro wz hz
      simp [Act.put]
      case hS => exact HR.out
      obtain ⟨b0, b1, b2⟩ := box_cells hz.box
      have HZ := Lib.hid hz
      clear hz
      go_wp2_with fail
      refine (reptok_any x _ hxl).mono ?_; rintro e w3 ⟨rfl, hb3⟩
      rw [HN.out]
      have HZ3 := Lib.hid ((HZ.out.later hb3).later ((Below.refl _ _).alloc (Nat.le_refl _) (.cells #[.int .i64 0, .int .i64 0, .int .u64 0, .int .u64 0, .int .u64 0, .int .u64 0, .string ⟨#[]⟩, .int .i64 0, .int .i64 0] 61)))
      clear hb3 HN b0 b1 b2
      go_upto_region 6 with (fail)
      generalize w3.alloc (.cells #[.int .i64 0, .int .i64 0, .int .u64 0, .int .u64 0, .int .u64 0, .int .u64 0, .string ⟨#[]⟩, .int .i64 0, .int .i64 0] 61) = w4 at *
      obtain ⟨b0, b1, b2⟩ := box_cells HZ3.out.box
      have hk := HZ3.out.res
      unfold z9 at hk
      have ef := hk.frozen
      obtain ⟨e0, e1, e2, e3, e4, e5, e6, e7, e8⟩ := nine_cells hk
      obtain ⟨s0, s1, s2, s3, s4, s5, s6, s7, s8⟩ := nine hk
      clear hk
      have S0 := Lib.hid s0
      have S1 := Lib.hid s1
      have S2 := Lib.hid s2
      have S3 := Lib.hid s3
      have S4 := Lib.hid s4
      have S5 := Lib.hid s5
      have S6 := Lib.hid s6
      have S7 := Lib.hid s7
      have S8 := Lib.hid s8
      clear s0 s1 s2 s3 s4 s5 s6 s7 s8
      go_region_held3 (fun w' => w'.cell? ⟨w.heap.size, 1, none⟩ = some (.int .i64 4)) (go_keep) (fail)
      go_wp2
      exact bodyPost_ret (v := .tuple #[.agg #[.int .i64 0, .int .i64 0, .int .u64 0, .int .u64 0, .int .u64 0, .int .u64 0, .string ⟨#[]⟩, .int .i64 0, .int .i64 0], .int .i64 0, .int .i64 4]) (by simp [results, Tryd.results16, go_sem, S0.out, S1.out, S2.out, S3.out, S4.out, S5.out, S6.out, S7.out, S8.out]) rfl ⟨by rw [HV.out]; rfl, (below9 HZ3.out.bel (Nat.le_succ _) _ _ _ _ _ _ _ _ _).drew⟩
    | some t =>
      have HN : Hid (tokR ((repV x).map repTok) = .tuple #[.agg (tokC (repTok t)), .bool true]) := by unfold Hid; rw [hv]; rfl
      by_cases hcond : 255 < t.2 ∨ t.2 < t.1
      · have HV : Hid (oneR (closed 125 4 rest repF) = .tuple #[.agg z9, .int .i64 0, .int .i64 5]) := by unfold Hid; rw [hcl]; unfold repF; rw [hv]; simp only; rw [if_pos hcond]; rfl
        clear hv hcl
        generalize oneR (closed 125 4 rest repF) = v at *
        have hxs : ((bs x).size : Int) = (x.length : Int) := by rw [bs_size]
        have HXS := Lib.hid hxs
        have hxs0 : (0 : Int) ≤ ((bs x).size : Int) := by omega
        have hxs1 : ((bs x).size : Int) ≤ 1073741824 := by omega
        clear hxs
        go_enter Tryd.func16, Tryd.ntmps16
        go_upto_region 1 with (fail)
        refine wp_region_stable (S := (RdS w ⟨#[125]⟩ 4 (.func (.func 24) #[] #[]))) (hSt := fun _ _ h hb => h.later hb) (plan := [[(1, none)], [(13, some 0)], [(2, none)], [(15, some 2)], [(14, some 1), (16, some 3)], [(17, some 4)], [(12, some 5)], [(12, some 5)], [(12, some 5)], [(18, some 6)], [(19, some 7)], [(20, some 8)]]) (by kernel_rfl) (by kernel_rfl) (by kernel_rfl) ?hS ?_
        rotate_left
        iterate 12 first
          | (refine chain_skip (by rfl) (by rfl) ?_)
          | (apply chain_want (by rfl)
             · intro act wx hS hr
               simp at hr
               have hx := HX.out
               obtain ⟨b0, b1, b2⟩ := box_cells hS.box
               go_simp
               (try go_ints)
               first
                 | ((with_reducible refine (cut_hit _ _ _ _ _ HC.out hsz).mono ?_); rintro e w' ⟨rfl, hb⟩; exact Done.mk hb)
                 | exact Done.same
            )
        show ∀ w', _ → _
        intro wz hz
        simp [Act.put]
        case hS => exact HR.out
        obtain ⟨b0, b1, b2⟩ := box_cells hz.box
        have HZ := Lib.hid hz
        clear hz
        go_wp2_with fail
        refine (reptok_any x _ hxl).mono ?_; rintro e w3 ⟨rfl, hb3⟩
        rw [HN.out]
        have HZ3 := Lib.hid ((HZ.out.later hb3).later ((Below.refl _ _).alloc (Nat.le_refl _) (.cells (tokC (repTok t)) 61)))
        have HT3 := Lib.hid (Blk.new w3 (tokC (repTok t)) 61)
        have hlt3 := (HZ.out.later hb3).res.lt
        clear hb3 HN b0 b1 b2
        by_cases h2 : 255 < t.2
        · have h255 : (((repTok t).hi : Nat) : Int) > 255 := by show ((t.2 : Nat) : Int) > 255; omega
          have h255' : (255 : Int) < (((repTok t).hi : Nat) : Int) := h255
          unfold tokC at HZ3 HT3 ⊢
          (try unfold tokC at HV)
          go_upto_region 7 with (fail)
          generalize ((repTok t).kind : Int) = K at *
          generalize ((repTok t).at_ : Int) = A at *
          generalize ((repTok t).lo : Int) = L at *
          generalize ((repTok t).hi : Int) = H at *
          generalize (wd (repTok t).cls 0 : Int) = c0 at *
          generalize (wd (repTok t).cls 1 : Int) = c1 at *
          generalize (wd (repTok t).cls 2 : Int) = c2 at *
          generalize (wd (repTok t).cls 3 : Int) = c3 at *
          generalize bs (repTok t).text = T at *
          generalize w3.alloc (.cells #[.int .i64 K, .int .i64 A, .int .u64 c0, .int .u64 c1, .int .u64 c2, .int .u64 c3, .string T, .int .i64 L, .int .i64 H] 61) = w4 at *
          generalize w3.heap.size = bt at *
          have hft := HT3.out.frozen
          obtain ⟨d0, d1, d2, d3, d4, d5, d6, d7, d8⟩ := nine_cells HT3.out
          obtain ⟨b0, b1, b2⟩ := box_cells HZ3.out.box
          have hbne : bt ≠ w.heap.size + 1 := by omega
          have hbne' : ¬ (w.heap.size + 1 = bt) := by omega
          go_upto_region 8 with (fail)
          have hk := HZ3.out.res
          unfold z9 at hk
          have ef := hk.frozen
          obtain ⟨e0, e1, e2, e3, e4, e5, e6, e7, e8⟩ := nine_cells hk
          obtain ⟨s0, s1, s2, s3, s4, s5, s6, s7, s8⟩ := nine hk
          clear hk
          have S0 := Lib.hid s0
          have S1 := Lib.hid s1
          have S2 := Lib.hid s2
          have S3 := Lib.hid s3
          have S4 := Lib.hid s4
          have S5 := Lib.hid s5
          have S6 := Lib.hid s6
          have S7 := Lib.hid s7
          have S8 := Lib.hid s8
          clear s0 s1 s2 s3 s4 s5 s6 s7 s8
          go_wp2
          exact bodyPost_ret (v := .tuple #[.agg #[.int .i64 0, .int .i64 0, .int .u64 0, .int .u64 0, .int .u64 0, .int .u64 0, .string ⟨#[]⟩, .int .i64 0, .int .i64 0], .int .i64 0, .int .i64 5]) (by simp [results, Tryd.results16, go_sem, S0.out, S1.out, S2.out, S3.out, S4.out, S5.out, S6.out, S7.out, S8.out]) rfl ⟨by rw [HV.out]; rfl, below9 HZ3.out.bel (Nat.le_succ _) _ _ _ _ _ _ _ _ _⟩
        · have h255 : ¬ (((repTok t).hi : Nat) : Int) > 255 := by show ¬ ((t.2 : Nat) : Int) > 255; omega
          have h255' : ¬ (255 : Int) < (((repTok t).hi : Nat) : Int) := h255
          have hlh : (((repTok t).lo : Nat) : Int) > (((repTok t).hi : Nat) : Int) := by show ((t.1 : Nat) : Int) > ((t.2 : Nat) : Int); omega
          have hlh' : (((repTok t).hi : Nat) : Int) < (((repTok t).lo : Nat) : Int) := hlh
          unfold tokC at HZ3 HT3 ⊢
          (try unfold tokC at HV)
          go_upto_region 7 with (fail)
          generalize ((repTok t).kind : Int) = K at *
          generalize ((repTok t).at_ : Int) = A at *
          generalize ((repTok t).lo : Int) = L at *
          generalize ((repTok t).hi : Int) = H at *
          generalize (wd (repTok t).cls 0 : Int) = c0 at *
          generalize (wd (repTok t).cls 1 : Int) = c1 at *
          generalize (wd (repTok t).cls 2 : Int) = c2 at *
          generalize (wd (repTok t).cls 3 : Int) = c3 at *
          generalize bs (repTok t).text = T at *
          generalize w3.alloc (.cells #[.int .i64 K, .int .i64 A, .int .u64 c0, .int .u64 c1, .int .u64 c2, .int .u64 c3, .string T, .int .i64 L, .int .i64 H] 61) = w4 at *
          generalize w3.heap.size = bt at *
          have hft := HT3.out.frozen
          obtain ⟨d0, d1, d2, d3, d4, d5, d6, d7, d8⟩ := nine_cells HT3.out
          obtain ⟨b0, b1, b2⟩ := box_cells HZ3.out.box
          have hbne : bt ≠ w.heap.size + 1 := by omega
          have hbne' : ¬ (w.heap.size + 1 = bt) := by omega
          go_upto_region 8 with (fail)
          have hk := HZ3.out.res
          unfold z9 at hk
          have ef := hk.frozen
          obtain ⟨e0, e1, e2, e3, e4, e5, e6, e7, e8⟩ := nine_cells hk
          obtain ⟨s0, s1, s2, s3, s4, s5, s6, s7, s8⟩ := nine hk
          clear hk
          have S0 := Lib.hid s0
          have S1 := Lib.hid s1
          have S2 := Lib.hid s2
          have S3 := Lib.hid s3
          have S4 := Lib.hid s4
          have S5 := Lib.hid s5
          have S6 := Lib.hid s6
          have S7 := Lib.hid s7
          have S8 := Lib.hid s8
          clear s0 s1 s2 s3 s4 s5 s6 s7 s8
          go_wp2
          exact bodyPost_ret (v := .tuple #[.agg #[.int .i64 0, .int .i64 0, .int .u64 0, .int .u64 0, .int .u64 0, .int .u64 0, .string ⟨#[]⟩, .int .i64 0, .int .i64 0], .int .i64 0, .int .i64 5]) (by simp [results, Tryd.results16, go_sem, S0.out, S1.out, S2.out, S3.out, S4.out, S5.out, S6.out, S7.out, S8.out]) rfl ⟨by rw [HV.out]; rfl, below9 HZ3.out.bel (Nat.le_succ _) _ _ _ _ _ _ _ _ _⟩
      · have HV : Hid (oneR (closed 125 4 rest repF) = .tuple #[.agg (tokC (repTok t)), .int .i64 (((x.length + 1 : Nat) : Int) + 1), .int .i64 0]) := by unfold Hid; rw [hcl]; unfold repF; rw [hv]; simp only; rw [if_neg hcond]; rfl
        clear hv hcl
        generalize oneR (closed 125 4 rest repF) = v at *
        have hxs : ((bs x).size : Int) = (x.length : Int) := by rw [bs_size]
        have HXS := Lib.hid hxs
        have hxs0 : (0 : Int) ≤ ((bs x).size : Int) := by omega
        have hxs1 : ((bs x).size : Int) ≤ 1073741824 := by omega
        clear hxs
        go_enter Tryd.func16, Tryd.ntmps16
        go_upto_region 1 with (fail)
        refine wp_region_stable (S := (RdS w ⟨#[125]⟩ 4 (.func (.func 24) #[] #[]))) (hSt := fun _ _ h hb => h.later hb) (plan := [[(1, none)], [(13, some 0)], [(2, none)], [(15, some 2)], [(14, some 1), (16, some 3)], [(17, some 4)], [(12, some 5)], [(12, some 5)], [(12, some 5)], [(18, some 6)], [(19, some 7)], [(20, some 8)]]) (by kernel_rfl) (by kernel_rfl) (by kernel_rfl) ?hS ?_
        rotate_left
        iterate 12 first
          | (refine chain_skip (by rfl) (by rfl) ?_)
          | (apply chain_want (by rfl)
             · intro act wx hS hr
               simp at hr
               have hx := HX.out
               obtain ⟨b0, b1, b2⟩ := box_cells hS.box
               go_simp
               (try go_ints)
               first
                 | ((with_reducible refine (cut_hit _ _ _ _ _ HC.out hsz).mono ?_); rintro e w' ⟨rfl, hb⟩; exact Done.mk hb)
                 | exact Done.same
            )
        show ∀ w', _ → _
        intro wz hz
        simp [Act.put]
        case hS => exact HR.out
        obtain ⟨b0, b1, b2⟩ := box_cells hz.box
        have HZ := Lib.hid hz
        clear hz
        go_wp2_with fail
        refine (reptok_any x _ hxl).mono ?_; rintro e w3 ⟨rfl, hb3⟩
        rw [HN.out]
        have HZ3 := Lib.hid ((HZ.out.later hb3).later ((Below.refl _ _).alloc (Nat.le_refl _) (.cells (tokC (repTok t)) 61)))
        have HT3 := Lib.hid (Blk.new w3 (tokC (repTok t)) 61)
        have hlt3 := (HZ.out.later hb3).res.lt
        clear hb3 HN b0 b1 b2
        have h255 : ¬ (((repTok t).hi : Nat) : Int) > 255 := by show ¬ ((t.2 : Nat) : Int) > 255; omega
        have hlh : ¬ (((repTok t).lo : Nat) : Int) > (((repTok t).hi : Nat) : Int) := by show ¬ ((t.1 : Nat) : Int) > ((t.2 : Nat) : Int); omega
        have h255' : ¬ (255 : Int) < (((repTok t).hi : Nat) : Int) := h255
        have hlh' : ¬ (((repTok t).hi : Nat) : Int) < (((repTok t).lo : Nat) : Int) := hlh
        unfold tokC at HZ3 HT3 ⊢
        (try unfold tokC at HV)
        go_upto_region 7 with (fail)
        generalize ((repTok t).kind : Int) = K at *
        generalize ((repTok t).at_ : Int) = A at *
        generalize ((repTok t).lo : Int) = L at *
        generalize ((repTok t).hi : Int) = H at *
        generalize (wd (repTok t).cls 0 : Int) = c0 at *
        generalize (wd (repTok t).cls 1 : Int) = c1 at *
        generalize (wd (repTok t).cls 2 : Int) = c2 at *
        generalize (wd (repTok t).cls 3 : Int) = c3 at *
        generalize bs (repTok t).text = T at *
        generalize w3.alloc (.cells #[.int .i64 K, .int .i64 A, .int .u64 c0, .int .u64 c1, .int .u64 c2, .int .u64 c3, .string T, .int .i64 L, .int .i64 H] 61) = w4 at *
        generalize w3.heap.size = bt at *
        have hft := HT3.out.frozen
        obtain ⟨d0, d1, d2, d3, d4, d5, d6, d7, d8⟩ := nine_cells HT3.out
        obtain ⟨b0, b1, b2⟩ := box_cells HZ3.out.box
        have hbne : bt ≠ w.heap.size + 1 := by omega
        have hbne' : ¬ (w.heap.size + 1 = bt) := by omega
        go_upto_region 9 with (fail)
        have hk := HZ3.out.res
        unfold z9 at hk
        have ef := hk.frozen
        obtain ⟨e0, e1, e2, e3, e4, e5, e6, e7, e8⟩ := nine_cells hk
        obtain ⟨s0, s1, s2, s3, s4, s5, s6, s7, s8⟩ := nine hk
        clear hk
        have S0 := Lib.hid s0
        have S1 := Lib.hid s1
        have S2 := Lib.hid s2
        have S3 := Lib.hid s3
        have S4 := Lib.hid s4
        have S5 := Lib.hid s5
        have S6 := Lib.hid s6
        have S7 := Lib.hid s7
        have S8 := Lib.hid s8
        clear s0 s1 s2 s3 s4 s5 s6 s7 s8
        go_region_held3 (fun w' => w'.cell? ⟨bt, 0, none⟩ = some (.int .i64 K) ∧ w'.cell? ⟨bt, 1, none⟩ = some (.int .i64 A) ∧ w'.cell? ⟨bt, 2, none⟩ = some (.int .u64 c0) ∧ w'.cell? ⟨bt, 3, none⟩ = some (.int .u64 c1) ∧ w'.cell? ⟨bt, 4, none⟩ = some (.int .u64 c2) ∧ w'.cell? ⟨bt, 5, none⟩ = some (.int .u64 c3) ∧ w'.cell? ⟨bt, 6, none⟩ = some (.string T) ∧ w'.cell? ⟨bt, 7, none⟩ = some (.int .i64 L) ∧ w'.cell? ⟨bt, 8, none⟩ = some (.int .i64 H) ∧ w'.cell? ⟨w.heap.size, 0, none⟩ = some (.string ⟨#[125]⟩)) (go_keep) (fail)
        go_wp2
        have e : (((x.length + 1 : Nat) : Int) + 1) = 1 + ((bs x).size : Int) + 1 := by rw [bs_size]; omega
        have hw1 : IntKind.i64.wrap (1 + ((bs x).size : Int)) = 1 + ((bs x).size : Int) := IntWalk.i64_in _ (by omega)
        have hw2 : IntKind.i64.wrap (1 + ((bs x).size : Int) + 1) = 1 + ((bs x).size : Int) + 1 := IntWalk.i64_in _ (by omega)
        exact bodyPost_ret (v := .tuple #[.agg #[.int .i64 K, .int .i64 A, .int .u64 c0, .int .u64 c1, .int .u64 c2, .int .u64 c3, .string T, .int .i64 L, .int .i64 H], .int .i64 (1 + ((bs x).size : Int) + 1), .int .i64 0]) (by simp [results, Tryd.results16, go_sem, S0.out, S1.out, S2.out, S3.out, S4.out, S5.out, S6.out, S7.out, S8.out, hw1, hw2]) rfl ⟨by rw [HV.out, e], (below9 HZ3.out.bel (Nat.le_succ _) _ _ _ _ _ _ _ _ _).drew⟩
end Go.Proofs.YtcgjmnhmhiddkaaDoor
/- A token of one byte: walked. -/
namespace Go.Proofs.YtcgjmnhmhiddkaaDoor
open Go Go.RowKit
set_option linter.unusedVariables false

set_option maxHeartbeats 8000000 in
set_option maxRecDepth 100000 in
theorem read_short (K c0 c1 c2 c3 : Int) (bk : Nat) (s : ByteArray) (rest : List UInt8) (w : World) (hT : U8T w) (hl : rest.length ≤ 1073741824) (h1 : (1 : Int) ≤ (s.size : Int)) (hx : s.extract 1 s.size = bs rest)
    (hbk : Blk w bk #[.int .i64 K, .int .i64 0, .int .u64 c0, .int .u64 c1, .int .u64 c2, .int .u64 c3, .string ⟨#[]⟩, .int .i64 0, .int .i64 0] 61) :
    Calls Tryd.prog 16 #[alV bk, .string s] w (Ans w (.tuple #[.agg #[.int .i64 K, .int .i64 0, .int .u64 c0, .int .u64 c1, .int .u64 c2, .int .u64 c3, .string ⟨#[]⟩, .int .i64 0, .int .i64 0], .int .i64 1, .int .i64 0])) := by
  have hsz : (bs rest).size ≤ 4294967296 := by rw [bs_size]; omega
  have HX := Lib.hid hx
  have HR := Lib.hid (RdS.new w ⟨#[]⟩ 0 (.func (.func 31) #[] #[.pointer (some ⟨bk, 0, none⟩)]) hT)
  have HBK := Lib.hid hbk
  have hbl := hbk.lt
  clear hx hT hbk
  unfold alV
  go_enter Tryd.func16, Tryd.ntmps16
  go_upto_region 1 with (fail)
  refine wp_region_stable (S := (RdS w ⟨#[]⟩ 0 (.func (.func 31) #[] #[.pointer (some ⟨bk, 0, none⟩)]))) (hSt := fun _ _ h hb => h.later hb) (plan := [[(1, none)], [(13, some 0)], [(2, none)], [(15, some 2)], [(14, some 1), (16, some 3)], [(17, some 4)], [(12, some 5)], [(12, some 5)], [(12, some 5)], [(18, some 6)], [(19, some 7)], [(20, some 8)]]) (by kernel_rfl) (by kernel_rfl) (by kernel_rfl) ?hS ?_
  rotate_left
  iterate 12 first
    | (refine chain_skip (by rfl) (by rfl) ?_)
    | (apply chain_want (by rfl)
       · intro act wx hS hr
         simp at hr
         have hx := HX.out
         obtain ⟨b0, b1, b2⟩ := box_cells hS.box
         go_simp
         (try go_ints)
         first
           | ((with_reducible refine (cut0_any _ _ hsz).mono ?_); rintro e w' ⟨rfl, hb⟩; exact Done.mk hb)
           | exact Done.same
      )
  show ∀ w', _ → _
  intro wz hz
  simp [Act.put]
  case hS => exact HR.out
  obtain ⟨b0, b1, b2⟩ := box_cells hz.box
  have HZ := Lib.hid hz
  have HB2 := Lib.hid (HBK.out.below hz.bel hbl)
  clear hz
  go_wp2_with fail
  refine (alone1_any K c0 c1 c2 c3 bk _ _ HB2.out).mono ?_; rintro e w3 ⟨rfl, hb3⟩
  have HZ3 := Lib.hid ((HZ.out.later hb3).later ((Below.refl _ _).alloc (Nat.le_refl _) (.cells #[.int .i64 K, .int .i64 0, .int .u64 c0, .int .u64 c1, .int .u64 c2, .int .u64 c3, .string ⟨#[]⟩, .int .i64 0, .int .i64 0] 61)))
  have HT3 := Lib.hid (Blk.new w3 #[.int .i64 K, .int .i64 0, .int .u64 c0, .int .u64 c1, .int .u64 c2, .int .u64 c3, .string ⟨#[]⟩, .int .i64 0, .int .i64 0] 61)
  have hlt3 := (HZ.out.later hb3).res.lt
  clear hb3 b0 b1 b2
  go_upto_region 7 with (fail)
  generalize w3.alloc (.cells #[.int .i64 K, .int .i64 0, .int .u64 c0, .int .u64 c1, .int .u64 c2, .int .u64 c3, .string ⟨#[]⟩, .int .i64 0, .int .i64 0] 61) = w4 at *
  generalize w3.heap.size = bt at *
  have hft := HT3.out.frozen
  obtain ⟨d0, d1, d2, d3, d4, d5, d6, d7, d8⟩ := nine_cells HT3.out
  obtain ⟨b0, b1, b2⟩ := box_cells HZ3.out.box
  have hbne : bt ≠ w.heap.size + 1 := by omega
  have hbne' : ¬ (w.heap.size + 1 = bt) := by omega
  go_upto_region 9 with (fail)
  have hk := HZ3.out.res
  unfold z9 at hk
  have ef := hk.frozen
  obtain ⟨e0, e1, e2, e3, e4, e5, e6, e7, e8⟩ := nine_cells hk
  obtain ⟨s0, s1, s2, s3, s4, s5, s6, s7, s8⟩ := nine hk
  clear hk
  have S0 := Lib.hid s0
  have S1 := Lib.hid s1
  have S2 := Lib.hid s2
  have S3 := Lib.hid s3
  have S4 := Lib.hid s4
  have S5 := Lib.hid s5
  have S6 := Lib.hid s6
  have S7 := Lib.hid s7
  have S8 := Lib.hid s8
  clear s0 s1 s2 s3 s4 s5 s6 s7 s8
  go_region_held3 (fun w' => w'.cell? ⟨bt, 0, none⟩ = some (.int .i64 K) ∧ w'.cell? ⟨bt, 1, none⟩ = some (.int .i64 0) ∧ w'.cell? ⟨bt, 2, none⟩ = some (.int .u64 c0) ∧ w'.cell? ⟨bt, 3, none⟩ = some (.int .u64 c1) ∧ w'.cell? ⟨bt, 4, none⟩ = some (.int .u64 c2) ∧ w'.cell? ⟨bt, 5, none⟩ = some (.int .u64 c3) ∧ w'.cell? ⟨bt, 6, none⟩ = some (.string ⟨#[]⟩) ∧ w'.cell? ⟨bt, 7, none⟩ = some (.int .i64 0) ∧ w'.cell? ⟨bt, 8, none⟩ = some (.int .i64 0) ∧ w'.cell? ⟨w.heap.size, 0, none⟩ = some (.string ⟨#[]⟩)) (go_keep) (fail)
  go_wp2
  have hw1 : IntKind.i64.wrap 1 = 1 := IntWalk.i64_in _ (by omega)
  exact bodyPost_ret (v := .tuple #[.agg #[.int .i64 K, .int .i64 0, .int .u64 c0, .int .u64 c1, .int .u64 c2, .int .u64 c3, .string ⟨#[]⟩, .int .i64 0, .int .i64 0], .int .i64 1, .int .i64 0]) (by simp [results, Tryd.results16, go_sem, S0.out, S1.out, S2.out, S3.out, S4.out, S5.out, S6.out, S7.out, S8.out, hw1]) rfl ⟨rfl, (below9 HZ3.out.bel (Nat.le_succ _) _ _ _ _ _ _ _ _ _).drew⟩
end Go.Proofs.YtcgjmnhmhiddkaaDoor
/- The contracts of the document's answers for layer 1 (package scantlingref01). -/
namespace Go.Proofs.YtcgjmnhmhiddkaaDoor
open Go Go.RowKit
set_option linter.unusedVariables false

/-! ### Has -/
/-! ### List -/
theorem ownsRow_below {w w' : World} {base : Nat} {e : TypeId} {size : Nat} {v : Value} {n : Nat} {xs : List Value} {B : Nat} (h : w.ownsRow base e size v n xs) (hb : Below B w w') (hlt : ∀ g cap, v = .slice (some ⟨g, 0, none⟩) n cap → g < B) : w'.ownsRow base e size v n xs := by
  obtain ⟨h1, h2⟩ := h
  refine ⟨h1, ?_⟩
  rcases h2 with h2 | ⟨g, cap, cur, rfl, hg, hh, r⟩
  · exact .inl h2
  · exact .inr ⟨g, cap, cur, rfl, hg, (hb.block g (hlt g cap rfl)).trans hh, r⟩
theorem ownsRow_lt {w : World} {base : Nat} {e : TypeId} {size : Nat} {v : Value} {n : Nat} {xs : List Value} (h : w.ownsRow base e size v n xs) : ∀ g cap, v = .slice (some ⟨g, 0, none⟩) n cap → g < w.heap.size := by
  intro g cap hv
  rcases h.2 with ⟨rfl, _⟩ | ⟨g', cap', cur, rfl, _, hh, _⟩
  · cases hv
  · cases hv
    rcases Nat.lt_or_ge g w.heap.size with l | l
    · exact l
    · rw [Array.getElem?_eq_none l] at hh; cases hh
theorem ownsRow_later {w w' : World} {base : Nat} {e : TypeId} {size : Nat} {v : Value} {n : Nat} {xs : List Value} (h : w.ownsRow base e size v n xs) (hb : Below w.heap.size w w') : w'.ownsRow base e size v n xs :=
  ownsRow_below h hb (ownsRow_lt h)
/-! ### Of -/
/-! ### Not, Join, Both -/
section
variable {w w' : World} {g : Nat} {f : Nat → Bool}
end
/-! ### Least -/
/-! ### Row -/
end Go.Proofs.YtcgjmnhmhiddkaaDoor
/- Rows of tokens in memory. -/
namespace Go.Proofs.YtcgjmnhmhiddkaaDoor
open Go Go.RowKit
set_option linter.unusedVariables false

def flat9 : List Tok → List Value
  | [] => []
  | t :: l => (tokC t).toList ++ flat9 l
theorem tokC_size (t : Tok) : (tokC t).toList.length = 9 := rfl
theorem flat9_append : ∀ l m, flat9 (l ++ m) = flat9 l ++ flat9 m
  | [], _ => rfl
  | s :: l, m => by simp only [List.cons_append, flat9, flat9_append l m, List.append_assoc]
def tok0 : Tok := { kind := 0, at_ := 0 }
theorem flat9_get : ∀ (l : List Tok) (i j : Nat), i < l.length → j < 9 → (flat9 l)[i * 9 + j]? = (tokC (l.getD i tok0))[j]?
  | [], i, j, hi, _ => by simp at hi
  | s :: l, 0, j, _, hj => by
    show ((tokC s).toList ++ flat9 l)[0 * 9 + j]? = _
    rw [Nat.zero_mul, Nat.zero_add, List.getElem?_append_left (by rw [tokC_size]; exact hj)]; simp
  | s :: l, i + 1, j, hi, hj => by
    have ih := flat9_get l i j (by simpa using hi) hj
    show ((tokC s).toList ++ flat9 l)[(i + 1) * 9 + j]? = _
    rw [List.getElem?_append_right (by rw [tokC_size]; omega), tokC_size, show (i + 1) * 9 + j - 9 = i * 9 + j by omega, ih]
    simp
/-- A row of tokens that is read. -/
def TRow (w : World) (a : Option Addr) (l : List Tok) : Prop :=
  ∀ i, i < l.length → ∃ b off, a = some ⟨b, off, none⟩ ∧ b < w.heap.size ∧ ∀ j, j < 9 → w.cell? ⟨b, off + i * 9 + j, none⟩ = (tokC (l.getD i tok0))[j]?
theorem TRow.later {w w' : World} {a : Option Addr} {l : List Tok} (h : TRow w a l) (hb : Below w.heap.size w w') : TRow w' a l := fun i hi => by
  obtain ⟨b, off, ha, hlt, hc⟩ := h i hi
  exact ⟨b, off, ha, Nat.lt_of_lt_of_le hlt hb.size, fun j hj => (hb.cell (p := ⟨b, off + i * 9 + j, none⟩) hlt).trans (hc j hj)⟩
theorem TRow.nil (w : World) (a : Option Addr) : TRow w a [] := fun i hi => by simp at hi
/-- A row of tokens that a call owns. -/
def OwnT (w : World) (base : Nat) (v : Value) (l : List Tok) : Prop := w.ownsRow base 61 9 v l.length (flat9 l)
theorem OwnT.nil (w : World) (base : Nat) : OwnT w base (.slice none 0 0) [] := ⟨rfl, .inl ⟨rfl, rfl⟩⟩
theorem OwnT.later {w w' : World} {base : Nat} {v : Value} {l : List Tok} (h : OwnT w base v l) (hb : Below w.heap.size w w') : OwnT w' base v l := ownsRow_later h hb
theorem OwnT.row {w : World} {base : Nat} {v : Value} {l : List Tok} (h : OwnT w base v l) : ∃ a cap, v = .slice a l.length cap ∧ TRow w a l := by
  obtain ⟨_, ⟨hv, hn⟩ | ⟨g, cap, cur, hv, hb, hg, hc, hm, hs, ht⟩⟩ := h
  · have : l = [] := List.length_eq_zero_iff.1 hn
    subst this
    exact ⟨none, 0, hv, TRow.nil _ _⟩
  · refine ⟨_, cap, hv, fun i hi => ⟨g, 0, rfl, Blk.lt (w := w) (b := g) (vs := cur) (t := 61) hg, fun j hj => ?_⟩⟩
    have hc2 := Blk.cell (w := w) (b := g) (vs := cur) (t := 61) hg (i * 9 + j)
    rw [Nat.zero_add, hc2, ← flat9_get l i j hi hj, ← ht, List.getElem?_take, if_pos (by omega)]
    simp
theorem infoTok : (Tryd.prog.info? 61).map (fun i => (i.zero, i.size, i.bytes)) = some (some (.agg z9), 9, 80) := by kernel_rfl
/-- An append to a row of its own. -/
theorem wp_append_tok {w : World} {o : Oper} {a : Act} {K : Act → World → Prop} {Q : Exit → Act → World → Prop} (s x : Operand)
    (ho : o.op = .call { callee := .builtin .append, args := #[s, x], argTypes := #[37, 37] })
    (base : Nat) (v : Value) (l : List Tok) (hs : a.eval s = v) (hown : OwnT w base v l)
    (b : Nat) (t : Tok) (hx : a.eval x = .slice (some ⟨b, 0, none⟩) 1 1) (hnew : Blk w b (tokC t) 61) (hlen : l.length < 1073741824) (hbase : base ≤ w.heap.size)
    (h : ∀ v' w', OwnT w' base v' (l ++ [t]) → (∀ B, B ≤ base → Below B w w') → K (a.put o.dst v') w') : o.wp Tryd.prog a w K Q := by
  obtain ⟨ib, hib, hz0, hz1, hz2⟩ := info_parts infoTok
  have hf1 : flat9 [t] = (tokC t).toList := by simp [flat9]
  have hnews : ∀ (j : Nat) (u : Value), (flat9 [t])[j]? = some u → w.cell? ((⟨b, 0, none⟩ : Addr).add j) = some u := by
    intro j u hu
    have hadd : (⟨b, 0, none⟩ : Addr).add j = ⟨b, j, none⟩ := by unfold Addr.add; split <;> simp_all
    rw [hf1] at hu
    rw [hadd, hnew.cell, ← hu]; simp
  have hone : ∀ u ∈ flat9 [t], u.oneCell' = true := by
    intro u hu
    rw [hf1] at hu
    simp only [tokC, List.mem_cons, List.not_mem_nil, or_false] at hu
    rcases hu with rfl | rfl | rfl | rfl | rfl | rfl | rfl | rfl | rfl <;> rfl
  obtain ⟨v', w', hr, h2, h3, _⟩ := run_append_own (P := Tryd.prog) w base 37 o.type 61 ib _ 9 80 Tryd.underlying37 hib hz0 hz1 hz2 rfl (by decide) v l.length (flat9 l) hown ⟨b, 0, none⟩ 1 1 (flat9 [t]) rfl hnews hone (by unfold maxLen; omega) (by omega) hbase
  have h2' : OwnT w' base v' (l ++ [t]) := by unfold OwnT; rw [List.length_append, flat9_append]; exact h2
  unfold Oper.wp execOp
  simp only [ho, resolve, invoke, builtin, Sem.run_bind, Sem.run_pure, Result.andThen_ok, List.map_toArray, List.map_cons, List.map_nil, hs, hx, hr]
  exact h v' w' h2' fun B hB => (Below.refl B w).grown h3 (Nat.le_trans hB hbase) fun k hk => Nat.le_trans hB ((World.ownsRow.lt hown k hk).1)
theorem wpList_append_tok {w : World} {ops : Array Oper} {rest : List Oper} {o : Oper} {a : Act} {Q : Exit → Act → World → Prop} (hgd : o.guard = none) (s x : Operand)
    (ho : o.op = .call { callee := .builtin .append, args := #[s, x], argTypes := #[37, 37] })
    (base : Nat) (v : Value) (l : List Tok) (hs : a.eval s = v) (hown : OwnT w base v l)
    (b : Nat) (t : Tok) (hx : a.eval x = .slice (some ⟨b, 0, none⟩) 1 1) (hnew : Blk w b (tokC t) 61) (hlen : l.length < 1073741824) (hbase : base ≤ w.heap.size)
    (h : ∀ v' w', OwnT w' base v' (l ++ [t]) → (∀ B, B ≤ base → Below B w w') → wpList Tryd.prog ops Q rest (a.put o.dst v') w') : wpList Tryd.prog ops Q (o :: rest) a w :=
  wpList_plain hgd fun K hK => wp_append_tok s x ho base v l hs hown b t hx hnew hlen hbase fun v' w' h1 h2 => hK _ _ (h v' w' h1 h2)
end Go.Proofs.YtcgjmnhmhiddkaaDoor
