/- A token of one byte: walked. -/
import Derived.Test.YtcgjmnhmhiddkaaGreatDoorM26
namespace Go.Proofs.YtcgjmnhmhiddkaaGreatDoor
open Go Go.RowKit
set_option linter.unusedVariables false

set_option maxHeartbeats 8000000 in
set_option maxRecDepth 100000 in
theorem read_short (K c0 c1 c2 c3 : Int) (bk : Nat) (s : ByteArray) (rest : List UInt8) (w : World) (hT : U8T w) (hl : rest.length ≤ 1073741824) (h1 : (1 : Int) ≤ (s.size : Int)) (hx : s.extract 1 s.size = bs rest)
    (hbk : Blk w bk #[.int .i64 K, .int .i64 0, .int .u64 c0, .int .u64 c1, .int .u64 c2, .int .u64 c3, .string ⟨#[]⟩, .int .i64 0, .int .i64 0] 76) :
    Calls Tryz.prog 85 #[alV bk, .string s] w (Ans w (.tuple #[.agg #[.int .i64 K, .int .i64 0, .int .u64 c0, .int .u64 c1, .int .u64 c2, .int .u64 c3, .string ⟨#[]⟩, .int .i64 0, .int .i64 0], .int .i64 1, .int .i64 0])) := by
  have hsz : (bs rest).size ≤ 4294967296 := by rw [bs_size]; omega
  have HX := Lib.hid hx
  have HR := Lib.hid (RdS.new w ⟨#[]⟩ 0 (.func (.func 130) #[] #[.pointer (some ⟨bk, 0, none⟩)]) hT)
  have HBK := Lib.hid hbk
  have hbl := hbk.lt
  clear hx hT hbk
  unfold alV
  go_enter Tryz.func85, Tryz.ntmps85
  go_upto_region 1 with (fail)
  refine wp_region_stable (S := (RdS w ⟨#[]⟩ 0 (.func (.func 130) #[] #[.pointer (some ⟨bk, 0, none⟩)]))) (hSt := fun _ _ h hb => h.later hb) (plan := [[(1, none)], [(13, some 0)], [(2, none)], [(15, some 2)], [(14, some 1), (16, some 3)], [(17, some 4)], [(12, some 5)], [(12, some 5)], [(12, some 5)], [(18, some 6)], [(19, some 7)], [(20, some 8)]]) (by kernel_rfl) (by kernel_rfl) (by kernel_rfl) ?hS ?_
  rotate_left
  iterate 12 first
    | (refine chain_skip (by rfl) (by rfl) ?_)
    | (apply chain_want (by rfl)
       · intro act wx hS hr
         simp at hr
         have hx := HX.out
         obtain ⟨b0, b1, b2⟩ := box_cells hS.box
         go_simp
         (try go_ints)
         first
           | ((with_reducible refine (cut0_any _ _ hsz).mono ?_); rintro e w' ⟨rfl, hb⟩; exact Done.mk hb)
           | exact Done.same
      )
  show ∀ w', _ → _
  intro wz hz
  simp [Act.put]
  case hS => exact HR.out
  obtain ⟨b0, b1, b2⟩ := box_cells hz.box
  have HZ := Lib.hid hz
  have HB2 := Lib.hid (HBK.out.below hz.bel hbl)
  clear hz
  go_wp2_with fail
  refine (alone1_any K c0 c1 c2 c3 bk _ _ HB2.out).mono ?_; rintro e w3 ⟨rfl, hb3⟩
  have HZ3 := Lib.hid ((HZ.out.later hb3).later ((Below.refl _ _).alloc (Nat.le_refl _) (.cells #[.int .i64 K, .int .i64 0, .int .u64 c0, .int .u64 c1, .int .u64 c2, .int .u64 c3, .string ⟨#[]⟩, .int .i64 0, .int .i64 0] 76)))
  have HT3 := Lib.hid (Blk.new w3 #[.int .i64 K, .int .i64 0, .int .u64 c0, .int .u64 c1, .int .u64 c2, .int .u64 c3, .string ⟨#[]⟩, .int .i64 0, .int .i64 0] 76)
  have hlt3 := (HZ.out.later hb3).res.lt
  clear hb3 b0 b1 b2
  go_upto_region 7 with (fail)
  generalize w3.alloc (.cells #[.int .i64 K, .int .i64 0, .int .u64 c0, .int .u64 c1, .int .u64 c2, .int .u64 c3, .string ⟨#[]⟩, .int .i64 0, .int .i64 0] 76) = w4 at *
  generalize w3.heap.size = bt at *
  have hft := HT3.out.frozen
  obtain ⟨d0, d1, d2, d3, d4, d5, d6, d7, d8⟩ := nine_cells HT3.out
  obtain ⟨b0, b1, b2⟩ := box_cells HZ3.out.box
  have hbne : bt ≠ w.heap.size + 1 := by omega
  have hbne' : ¬ (w.heap.size + 1 = bt) := by omega
  go_upto_region 9 with (fail)
  have hk := HZ3.out.res
  unfold z9 at hk
  have ef := hk.frozen
  obtain ⟨e0, e1, e2, e3, e4, e5, e6, e7, e8⟩ := nine_cells hk
  obtain ⟨s0, s1, s2, s3, s4, s5, s6, s7, s8⟩ := nine hk
  clear hk
  have S0 := Lib.hid s0
  have S1 := Lib.hid s1
  have S2 := Lib.hid s2
  have S3 := Lib.hid s3
  have S4 := Lib.hid s4
  have S5 := Lib.hid s5
  have S6 := Lib.hid s6
  have S7 := Lib.hid s7
  have S8 := Lib.hid s8
  clear s0 s1 s2 s3 s4 s5 s6 s7 s8
  go_region_held3 (fun w' => w'.cell? ⟨bt, 0, none⟩ = some (.int .i64 K) ∧ w'.cell? ⟨bt, 1, none⟩ = some (.int .i64 0) ∧ w'.cell? ⟨bt, 2, none⟩ = some (.int .u64 c0) ∧ w'.cell? ⟨bt, 3, none⟩ = some (.int .u64 c1) ∧ w'.cell? ⟨bt, 4, none⟩ = some (.int .u64 c2) ∧ w'.cell? ⟨bt, 5, none⟩ = some (.int .u64 c3) ∧ w'.cell? ⟨bt, 6, none⟩ = some (.string ⟨#[]⟩) ∧ w'.cell? ⟨bt, 7, none⟩ = some (.int .i64 0) ∧ w'.cell? ⟨bt, 8, none⟩ = some (.int .i64 0) ∧ w'.cell? ⟨w.heap.size, 0, none⟩ = some (.string ⟨#[]⟩)) (go_keep) (fail)
  go_wp2
  have hw1 : IntKind.i64.wrap 1 = 1 := IntWalk.i64_in _ (by omega)
  exact bodyPost_ret (v := .tuple #[.agg #[.int .i64 K, .int .i64 0, .int .u64 c0, .int .u64 c1, .int .u64 c2, .int .u64 c3, .string ⟨#[]⟩, .int .i64 0, .int .i64 0], .int .i64 1, .int .i64 0]) (by simp [results, Tryz.results85, go_sem, S0.out, S1.out, S2.out, S3.out, S4.out, S5.out, S6.out, S7.out, S8.out, hw1]) rfl ⟨rfl, (below9 HZ3.out.bel (Nat.le_succ _) _ _ _ _ _ _ _ _ _).drew⟩
end Go.Proofs.YtcgjmnhmhiddkaaGreatDoor
