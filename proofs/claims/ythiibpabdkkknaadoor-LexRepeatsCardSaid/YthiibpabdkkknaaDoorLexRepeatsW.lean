/- The statement LexRepeats of layer 3, walked. -/
import Derived.Test.YthiibpabdkkknaaDoorLexAwake
import Derived.Test.YthiibpabdkkknaaDoorLexRepM
import Derived.Test.YthiibpabdkkknaaDoorLexConv
namespace Go.Proofs.YthiibpabdkkknaaDoor
open Go Go.RowKit
set_option linter.unusedVariables false
set_option linter.unusedSimpArgs false

structure CrS (w0 w : World) : Prop where
  bel : Below w0.heap.size w0 w
  u8 : U8T w
theorem CrS.later {w0 w w' : World} (h : CrS w0 w) (hb : Below w.heap.size w w') : CrS w0 w' := ⟨h.bel.trans (hb.mono h.bel.size), h.u8.later hb⟩
def RepL (w0 : World) (a : Nat) (x n : Value) (w : World) : Prop := ∃ (l : List UInt8) (k : Nat), l.length + k ≤ a + 1 ∧ x = .string (bs l) ∧ n = .int .i64 (k : Int) ∧ Digs a k l ∧ CrS w0 w
def repMeas (x n : Value) : Nat := (intOf n).toNat + (match x with | .string s => if s.size = 0 then 1 else 0 | _ => 0)
theorem newb_one (w : World) (x : UInt8) (v : Int) (h : v = (x.toNat : Int)) : NewB [x] (.slice (some ⟨w.heap.size, 0, none⟩) 1 1) (w.alloc (.cells #[.int .u8 v] 5)) := by
  subst h; exact ⟨_, rfl, Blk.new _ _ _⟩
theorem bsl_nil : (bs []).toList = [] := by rw [Lib.toList_data, bs_data]
theorem bsl_ne {l : List UInt8} (h : l ≠ []) : ¬ (bs l).toList = [] ∧ (bs l).toList.isEmpty = false := by
  rw [Lib.toList_data, bs_data]
  exact ⟨h, by cases l with | nil => exact absurd rfl h | cons a l => rfl⟩
theorem rep_z : wd 0#256 0 = 0 ∧ wd 0#256 1 = 0 ∧ wd 0#256 2 = 0 ∧ wd 0#256 3 = 0 := by decide
theorem rep_eq (a b : Nat) (w : World) : (binOp .eql 48 (.agg #[.int .i64 7, .int .i64 1, .int .u64 0, .int .u64 0, .int .u64 0, .int .u64 0, .string ⟨#[]⟩, .int .i64 (a : Int), .int .i64 (b : Int)]) (.agg #[.int .i64 7, .int .i64 1, .int .u64 0, .int .u64 0, .int .u64 0, .int .u64 0, .string ⟨#[]⟩, .int .i64 (a : Int), .int .i64 (b : Int)])).run Tryd.prog w = .ok (.bool true) w := by
  have h := eql_tok { kind := 7, at_ := 1, lo := a, hi := b } { kind := 7, at_ := 1, lo := a, hi := b } w
  obtain ⟨z0, z1, z2, z3⟩ := rep_z
  unfold tokC at h
  simp only [z0, z1, z2, z3, decide_true] at h
  exact h
theorem rep_cells {w : World} {b1 o1 a b : Nat} (h : At9 w b1 (o1 + 1 * 9) { kind := 7, at_ := 1, lo := a, hi := b }) : w.cell? ⟨b1, o1 + 9, none⟩ = some (.int .i64 7) ∧ w.cell? ⟨b1, o1 + 10, none⟩ = some (.int .i64 1) ∧ w.cell? ⟨b1, o1 + 11, none⟩ = some (.int .u64 0) ∧ w.cell? ⟨b1, o1 + 12, none⟩ = some (.int .u64 0) ∧ w.cell? ⟨b1, o1 + 13, none⟩ = some (.int .u64 0) ∧ w.cell? ⟨b1, o1 + 14, none⟩ = some (.int .u64 0) ∧ w.cell? ⟨b1, o1 + 15, none⟩ = some (.string ⟨#[]⟩) ∧ w.cell? ⟨b1, o1 + 16, none⟩ = some (.int .i64 (a : Int)) ∧ w.cell? ⟨b1, o1 + 17, none⟩ = some (.int .i64 (b : Int)) := by
  obtain ⟨z0, z1, z2, z3⟩ := rep_z
  unfold At9 at h
  simp only [z0, z1, z2, z3] at h
  exact h
set_option maxHeartbeats 16000000 in
set_option maxRecDepth 1000000 in
theorem lexrepeats_walk (a b : Nat) (ha : a < 65536) (hb : b < 65536) (w : World) (hT : U8T w) :
    Calls Tryd.prog 7 #[.int .u16 (a : Int), .int .u16 (b : Int)] w (Ans w (.bool true)) := by
  have HT := Lib.hid hT
  clear hT
  go_enter Tryd.func7, Tryd.ntmps7
  go_wp2_with fail
  refine (awake3_any _ HT.out).mono ?_; rintro e w1 ⟨rfl, hb1⟩
  have HU : Hid (CrS w w1) := ⟨hb1, HT.out.later hb1⟩
  clear hb1
  go_wp2
  go_loopw [5, 7] (RepL w a) (fun x n _ => repMeas x n)
  case atStart => exact ⟨[], a, by simp, rfl, rfl, .inl ⟨rfl, rfl⟩, HU.out⟩
  case round =>
    obtain ⟨l, k, hlk, rfl, rfl, hd, hs⟩ := hrel
    have HD := Lib.hid hd
    have HS := Lib.hid hs
    have hls : (bs l).size = l.length := rfl
    clear hd hs
    by_cases hk : 0 < k
    · have HN : Hid (Digs a (k / 10) (digB (k % 10) :: l)) := HD.out.step (.inl hk)
      have HDG := Lib.hid (digB_nat (n := k % 10) (by omega))
      have hkz : (k : Int) > 0 := by omega
      go_upto_region 8 with (fail)
      have hq10 : k % 10 < 10 := Nat.mod_lt _ (by omega)
      have hqz : (k : Int) % 10 = ((k % 10 : Nat) : Int) := by omega
      have hkq : (k : Int) / 10 = ((k / 10 : Nat) : Int) := by omega
      have hm : 0 < k → k / 10 < k := by omega
      have hm0 : k / 10 ≤ k := by omega
      generalize k % 10 = q at *
      generalize k / 10 = k2 at *
      have HDQ : Hid (48 + (q : Int) = ((digB q).toNat : Int)) := by unfold Hid; rw [HDG.out]; omega
      generalize digB q = x at *
      have hcat : bs [x] ++ bs l = bs (x :: l) := by rw [bs_append]; rfl
      have z1 : (bs [x]).size = 1 := rfl
      have hs1 : ¬ 9223372036854775807 < 1 + l.length := by omega
      have hs2 : ¬ 9223372036854775807 < 1 + (bs l).size := by omega
      refine wp_region_stable (S := (CrS w)) (hSt := fun _ _ h hb => h.later hb) (plan := [[(7, none)], [(27, some 0)], [(28, some 1)], [(29, some 2)], [(30, some 3)], [(31, some 4)], [(5, none)], [(32, some 5), (33, some 6)], [(34, some 7)]]) (by kernel_rfl) (by kernel_rfl) (by kernel_rfl) ?hS ?_
      rotate_left
      iterate 4 first
        | (refine chain_skip (by rfl) (by rfl) ?_)
        | (apply chain_want (by rfl)
           · intro act wx hS hr
             simp at hr
             go_simp
             (try go_ints)
             first
               | (obtain ⟨v, hr2, hrow⟩ := hr; simp only [hr2, Option.getD_some]; rw [conv_newb hrow]; exact Done.same (v := .string (bs [x])))
               | exact Done.same
          )
      (refine chain_rel (NewB [x]) (NewB.later [x]) (by rfl) ?_ ?_
       · intro act wx hS hr
         simp at hr
         all_goals go_simp
         exact Done.rel ((Below.refl _ _).alloc (Nat.le_refl _) _) (newb_one _ x _ HDQ.out)
      )
      iterate 4 first
        | (refine chain_skip (by rfl) (by rfl) ?_)
        | (apply chain_want (by rfl)
           · intro act wx hS hr
             simp at hr
             go_simp
             (try go_ints)
             first
               | (obtain ⟨v, hr2, hrow⟩ := hr; simp only [hr2, Option.getD_some]; rw [conv_newb hrow]; exact Done.same (v := .string (bs [x])))
               | exact Done.same
          )
      show ∀ w', _ → _
      intro wz hz
      simp [Act.put]
      case hS => exact HS.out
      intro v hv
      have HZ := Lib.hid hz
      clear hz hv
      go_wp2
      go_roundw
      case rel => exact ⟨x :: l, k2, by have := hm hk; simp; omega, rfl, by go_num, HN.out, HZ.out⟩
      case measure =>
        have hne : ¬ bs (x :: l) = ByteArray.empty := fun e => by have := congrArg ByteArray.size e; simp [bs_size] at this
        have := hm hk
        simp [repMeas, intOf, hne]; omega
    · by_cases hl : l = []
      · have HN : Hid (Digs a (k / 10) (digB (k % 10) :: l)) := HD.out.step (.inr hl)
        have HDG := Lib.hid (digB_nat (n := k % 10) (by omega))
        have hkz : ¬ (k : Int) > 0 := by omega
        have HK0 : Hid (k = 0) := by unfold Hid; omega
        have HL0 : Hid (l.length = 0) := by unfold Hid; rw [hl]; rfl
        have HLE : Hid (bs l = ByteArray.empty) := by unfold Hid; rw [hl]; rfl
        have hst : (bs l).toList = [] := by rw [hl]; exact bsl_nil
        clear hl
        go_upto_region 8 with (fail)
        have hq10 : k % 10 < 10 := Nat.mod_lt _ (by omega)
        have hqz : (k : Int) % 10 = ((k % 10 : Nat) : Int) := by omega
        have hkq : (k : Int) / 10 = ((k / 10 : Nat) : Int) := by omega
        have hm : 0 < k → k / 10 < k := by omega
        have hm0 : k / 10 ≤ k := by omega
        generalize k % 10 = q at *
        generalize k / 10 = k2 at *
        have HDQ : Hid (48 + (q : Int) = ((digB q).toNat : Int)) := by unfold Hid; rw [HDG.out]; omega
        generalize digB q = x at *
        have hcat : bs [x] ++ bs l = bs (x :: l) := by rw [bs_append]; rfl
        have z1 : (bs [x]).size = 1 := rfl
        have hs1 : ¬ 9223372036854775807 < 1 + l.length := by omega
        have hs2 : ¬ 9223372036854775807 < 1 + (bs l).size := by omega
        refine wp_region_stable (S := (CrS w)) (hSt := fun _ _ h hb => h.later hb) (plan := [[(7, none)], [(27, some 0)], [(28, some 1)], [(29, some 2)], [(30, some 3)], [(31, some 4)], [(5, none)], [(32, some 5), (33, some 6)], [(34, some 7)]]) (by kernel_rfl) (by kernel_rfl) (by kernel_rfl) ?hS ?_
        rotate_left
        iterate 4 first
          | (refine chain_skip (by rfl) (by rfl) ?_)
          | (apply chain_want (by rfl)
             · intro act wx hS hr
               simp at hr
               go_simp
               (try go_ints)
               first
                 | (obtain ⟨v, hr2, hrow⟩ := hr; simp only [hr2, Option.getD_some]; rw [conv_newb hrow]; exact Done.same (v := .string (bs [x])))
                 | exact Done.same
            )
        (refine chain_rel (NewB [x]) (NewB.later [x]) (by rfl) ?_ ?_
         · intro act wx hS hr
           simp at hr
           all_goals go_simp
           exact Done.rel ((Below.refl _ _).alloc (Nat.le_refl _) _) (newb_one _ x _ HDQ.out)
        )
        iterate 4 first
          | (refine chain_skip (by rfl) (by rfl) ?_)
          | (apply chain_want (by rfl)
             · intro act wx hS hr
               simp at hr
               go_simp
               (try go_ints)
               first
                 | (obtain ⟨v, hr2, hrow⟩ := hr; simp only [hr2, Option.getD_some]; rw [conv_newb hrow]; exact Done.same (v := .string (bs [x])))
                 | exact Done.same
            )
        show ∀ w', _ → _
        intro wz hz
        simp [Act.put]
        case hS => exact HS.out
        intro v hv
        have HZ := Lib.hid hz
        clear hz hv
        go_wp2
        go_roundw
        case rel => exact ⟨x :: l, k2, by have := HK0.out; have := HL0.out; simp; omega, rfl, by go_num, HN.out, HZ.out⟩
        case measure =>
          have hne : ¬ bs (x :: l) = ByteArray.empty := fun e => by have := congrArg ByteArray.size e; simp [bs_size] at this
          have h1 := HK0.out
          have h2 := HLE.out
          simp [repMeas, intOf, hne, h2]
          omega
      · obtain rfl : k = 0 := by omega
        have HX : Hid (l = decL a) := HD.out.done hl
        obtain ⟨hst1, hst2⟩ := bsl_ne hl
        have hkz : ¬ ((0 : Nat) : Int) > 0 := by omega
        clear hl hk
        have HSA := Lib.hid HS.out
        clear HS HD hls
        have HXA := Lib.hid HX.out
        clear HX
        have hla : (bs l).size ≤ 65537 := by rw [bs_size]; omega
        clear hlk
        generalize hlal : l = la at *
        clear hlal
        go_wp2
        clear hst1 hst2
        go_loopw [6, 8] (RepL w b) (fun x n _ => repMeas x n)
        case atStart => exact ⟨[], b, by simp, rfl, rfl, .inl ⟨rfl, rfl⟩, HSA.out⟩
        case round =>
          obtain ⟨l, k, hlk, rfl, rfl, hd, hs⟩ := hrel
          have HD := Lib.hid hd
          have HS := Lib.hid hs
          have hls : (bs l).size = l.length := rfl
          clear hd hs
          by_cases hk : 0 < k
          · have HN : Hid (Digs b (k / 10) (digB (k % 10) :: l)) := HD.out.step (.inl hk)
            have HDG := Lib.hid (digB_nat (n := k % 10) (by omega))
            have hkz : (k : Int) > 0 := by omega
            go_upto_region 12 with (fail)
            have hq10 : k % 10 < 10 := Nat.mod_lt _ (by omega)
            have hqz : (k : Int) % 10 = ((k % 10 : Nat) : Int) := by omega
            have hkq : (k : Int) / 10 = ((k / 10 : Nat) : Int) := by omega
            have hm : 0 < k → k / 10 < k := by omega
            have hm0 : k / 10 ≤ k := by omega
            generalize k % 10 = q at *
            generalize k / 10 = k2 at *
            have HDQ : Hid (48 + (q : Int) = ((digB q).toNat : Int)) := by unfold Hid; rw [HDG.out]; omega
            generalize digB q = x at *
            have hcat : bs [x] ++ bs l = bs (x :: l) := by rw [bs_append]; rfl
            have z1 : (bs [x]).size = 1 := rfl
            have hs1 : ¬ 9223372036854775807 < 1 + l.length := by omega
            have hs2 : ¬ 9223372036854775807 < 1 + (bs l).size := by omega
            refine wp_region_stable (S := (CrS w)) (hSt := fun _ _ h hb => h.later hb) (plan := [[(8, none)], [(45, some 0)], [(46, some 1)], [(47, some 2)], [(48, some 3)], [(49, some 4)], [(6, none)], [(50, some 5), (51, some 6)], [(52, some 7)]]) (by kernel_rfl) (by kernel_rfl) (by kernel_rfl) ?hS ?_
            rotate_left
            iterate 4 first
              | (refine chain_skip (by rfl) (by rfl) ?_)
              | (apply chain_want (by rfl)
                 · intro act wx hS hr
                   simp at hr
                   go_simp
                   (try go_ints)
                   first
                     | (obtain ⟨v, hr2, hrow⟩ := hr; simp only [hr2, Option.getD_some]; rw [conv_newb hrow]; exact Done.same (v := .string (bs [x])))
                     | exact Done.same
                )
            (refine chain_rel (NewB [x]) (NewB.later [x]) (by rfl) ?_ ?_
             · intro act wx hS hr
               simp at hr
               all_goals go_simp
               exact Done.rel ((Below.refl _ _).alloc (Nat.le_refl _) _) (newb_one _ x _ HDQ.out)
            )
            iterate 4 first
              | (refine chain_skip (by rfl) (by rfl) ?_)
              | (apply chain_want (by rfl)
                 · intro act wx hS hr
                   simp at hr
                   go_simp
                   (try go_ints)
                   first
                     | (obtain ⟨v, hr2, hrow⟩ := hr; simp only [hr2, Option.getD_some]; rw [conv_newb hrow]; exact Done.same (v := .string (bs [x])))
                     | exact Done.same
                )
            show ∀ w', _ → _
            intro wz hz
            simp [Act.put]
            case hS => exact HS.out
            intro v hv
            have HZ := Lib.hid hz
            clear hz hv
            go_wp2
            go_roundw
            case rel => exact ⟨x :: l, k2, by have := hm hk; simp; omega, rfl, by go_num, HN.out, HZ.out⟩
            case measure =>
              have hne : ¬ bs (x :: l) = ByteArray.empty := fun e => by have := congrArg ByteArray.size e; simp [bs_size] at this
              have := hm hk
              simp [repMeas, intOf, hne]; omega
          · by_cases hl : l = []
            · have HN : Hid (Digs b (k / 10) (digB (k % 10) :: l)) := HD.out.step (.inr hl)
              have HDG := Lib.hid (digB_nat (n := k % 10) (by omega))
              have hkz : ¬ (k : Int) > 0 := by omega
              have HK0 : Hid (k = 0) := by unfold Hid; omega
              have HL0 : Hid (l.length = 0) := by unfold Hid; rw [hl]; rfl
              have HLE : Hid (bs l = ByteArray.empty) := by unfold Hid; rw [hl]; rfl
              have hst : (bs l).toList = [] := by rw [hl]; exact bsl_nil
              clear hl
              go_upto_region 12 with (fail)
              have hq10 : k % 10 < 10 := Nat.mod_lt _ (by omega)
              have hqz : (k : Int) % 10 = ((k % 10 : Nat) : Int) := by omega
              have hkq : (k : Int) / 10 = ((k / 10 : Nat) : Int) := by omega
              have hm : 0 < k → k / 10 < k := by omega
              have hm0 : k / 10 ≤ k := by omega
              generalize k % 10 = q at *
              generalize k / 10 = k2 at *
              have HDQ : Hid (48 + (q : Int) = ((digB q).toNat : Int)) := by unfold Hid; rw [HDG.out]; omega
              generalize digB q = x at *
              have hcat : bs [x] ++ bs l = bs (x :: l) := by rw [bs_append]; rfl
              have z1 : (bs [x]).size = 1 := rfl
              have hs1 : ¬ 9223372036854775807 < 1 + l.length := by omega
              have hs2 : ¬ 9223372036854775807 < 1 + (bs l).size := by omega
              refine wp_region_stable (S := (CrS w)) (hSt := fun _ _ h hb => h.later hb) (plan := [[(8, none)], [(45, some 0)], [(46, some 1)], [(47, some 2)], [(48, some 3)], [(49, some 4)], [(6, none)], [(50, some 5), (51, some 6)], [(52, some 7)]]) (by kernel_rfl) (by kernel_rfl) (by kernel_rfl) ?hS ?_
              rotate_left
              iterate 4 first
                | (refine chain_skip (by rfl) (by rfl) ?_)
                | (apply chain_want (by rfl)
                   · intro act wx hS hr
                     simp at hr
                     go_simp
                     (try go_ints)
                     first
                       | (obtain ⟨v, hr2, hrow⟩ := hr; simp only [hr2, Option.getD_some]; rw [conv_newb hrow]; exact Done.same (v := .string (bs [x])))
                       | exact Done.same
                  )
              (refine chain_rel (NewB [x]) (NewB.later [x]) (by rfl) ?_ ?_
               · intro act wx hS hr
                 simp at hr
                 all_goals go_simp
                 exact Done.rel ((Below.refl _ _).alloc (Nat.le_refl _) _) (newb_one _ x _ HDQ.out)
              )
              iterate 4 first
                | (refine chain_skip (by rfl) (by rfl) ?_)
                | (apply chain_want (by rfl)
                   · intro act wx hS hr
                     simp at hr
                     go_simp
                     (try go_ints)
                     first
                       | (obtain ⟨v, hr2, hrow⟩ := hr; simp only [hr2, Option.getD_some]; rw [conv_newb hrow]; exact Done.same (v := .string (bs [x])))
                       | exact Done.same
                  )
              show ∀ w', _ → _
              intro wz hz
              simp [Act.put]
              case hS => exact HS.out
              intro v hv
              have HZ := Lib.hid hz
              clear hz hv
              go_wp2
              go_roundw
              case rel => exact ⟨x :: l, k2, by have := HK0.out; have := HL0.out; simp; omega, rfl, by go_num, HN.out, HZ.out⟩
              case measure =>
                have hne : ¬ bs (x :: l) = ByteArray.empty := fun e => by have := congrArg ByteArray.size e; simp [bs_size] at this
                have h1 := HK0.out
                have h2 := HLE.out
                simp [repMeas, intOf, hne, h2]
                omega
            · obtain rfl : k = 0 := by omega
              have HXB : Hid (l = decL b) := HD.out.done hl
              obtain ⟨hst1, hst2⟩ := bsl_ne hl
              have hkz : ¬ ((0 : Nat) : Int) > 0 := by omega
              have hlb : (bs l).size ≤ 65537 := by rw [bs_size]; omega
              have HSB := Lib.hid HS.out
              clear hl hk HS HD hls hlk
              generalize hlal : l = lb at *
              clear hlal
              have e1 : (⟨#[46, 123]⟩ : ByteArray) ++ bs la ++ ⟨#[44]⟩ ++ bs lb ++ ⟨#[125]⟩ = bs (46 :: 123 :: (la ++ 44 :: (lb ++ [125]))) := by
                show bs [46, 123] ++ bs la ++ bs [44] ++ bs lb ++ bs [125] = _
                rw [bs_append, bs_append, bs_append, bs_append]; congr 1; simp
              have e2 : (⟨#[123]⟩ : ByteArray) ++ bs la ++ ⟨#[44, 48]⟩ ++ bs lb ++ ⟨#[125]⟩ = bs (123 :: (la ++ 44 :: 48 :: (lb ++ [125]))) := by
                show bs [123] ++ bs la ++ bs [44, 48] ++ bs lb ++ bs [125] = _
                rw [bs_append, bs_append, bs_append, bs_append]; congr 1; simp
              have R2 := Lib.hid (rep_zero a b)
              rw [← HXA.out, ← HXB.out] at R2
              simp only [List.append_assoc, List.cons_append] at R2
              have HL1 : Hid ((46 :: 123 :: (la ++ 44 :: (lb ++ [125])) : List UInt8).length ≤ 1073741823) := by unfold Hid; rw [bs_size] at hla hlb; simp; omega
              have HL2 : Hid ((123 :: (la ++ 44 :: 48 :: (lb ++ [125])) : List UInt8).length ≤ 1073741823) := by unfold Hid; rw [bs_size] at hla hlb; simp; omega
              by_cases hg : a ≤ b ∧ b ≤ 255
              · have R1 := Lib.hid (rep_ok hg.1 hg.2)
                rw [← HXA.out, ← HXB.out] at R1
                simp only [List.append_assoc, List.cons_append] at R1
                have g1 : ¬ (a : Int) > (b : Int) := by omega
                have g2 : ¬ (b : Int) > 255 := by omega
                have g3 : (b : Int) ≤ 255 := by omega
                clear hg
                go_wp2_with fail
                refine (read_ok R1.out _ HSB.out.u8 HL1.out).mono ?_; rintro e w4 ⟨A1, c1, rfl, hr1, hb4⟩
                obtain ⟨b1, o1, rfl, -, -⟩ := hr1 0 (by simp)
                have HS4 := Lib.hid (HSB.out.later hb4)
                have HR4 := Lib.hid hr1
                clear hr1 hb4
                go_wp2_with fail
                refine (read_bad R2.out _ HS4.out.u8 HL2.out).mono ?_; rintro e w5 ⟨rfl, hb5⟩
                have HS5 := Lib.hid (HS4.out.later hb5)
                have hr5 := HR4.out.later hb5
                have hq : ∀ w : World, (binOp .eql 48 (.agg #[.int .i64 7, .int .i64 1, .int .u64 0, .int .u64 0, .int .u64 0, .int .u64 0, .string ⟨#[]⟩, .int .i64 (a : Int), .int .i64 (b : Int)]) (.agg #[.int .i64 7, .int .i64 1, .int .u64 0, .int .u64 0, .int .u64 0, .int .u64 0, .string ⟨#[]⟩, .int .i64 (a : Int), .int .i64 (b : Int)])).run Tryd.prog w = .ok (.bool true) w := fun w => rep_eq a b w
                have hgd : ∀ (o1 o2 : Operand) (v1 v2 : Array Value) (w : World), (eqGuard .eql 48 o1 o2 (.agg v1) (.agg v2)).run Tryd.prog w = .ok () w := fun o1 o2 v1 v2 w => by simp [eqGuard, go_sem]
                have gx : w5.cell? ⟨b1, o1 + 9, none⟩ = some (.int .i64 7) ∧ w5.cell? ⟨b1, o1 + 10, none⟩ = some (.int .i64 1) ∧ w5.cell? ⟨b1, o1 + 11, none⟩ = some (.int .u64 0) ∧ w5.cell? ⟨b1, o1 + 12, none⟩ = some (.int .u64 0) ∧ w5.cell? ⟨b1, o1 + 13, none⟩ = some (.int .u64 0) ∧ w5.cell? ⟨b1, o1 + 14, none⟩ = some (.int .u64 0) ∧ w5.cell? ⟨b1, o1 + 15, none⟩ = some (.string ⟨#[]⟩) ∧ w5.cell? ⟨b1, o1 + 16, none⟩ = some (.int .i64 (a : Int)) ∧ w5.cell? ⟨b1, o1 + 17, none⟩ = some (.int .i64 (b : Int)) := rep_cells (hr5.at (i := 1) (by simp) rfl)
                obtain ⟨gx0, gx1, gx2, gx3, gx4, gx5, gx6, gx7, gx8⟩ := gx
                clear hb5 hr5 e1 e2
                go_wp2
                go_ret
                exact ⟨rfl, HS5.out.bel⟩
              · have HG := Lib.hid hg
                have R1 := Lib.hid (rep_bad (a := a) (b := b) (by omega))
                clear hg
                rw [← HXA.out, ← HXB.out] at R1
                simp only [List.append_assoc, List.cons_append] at R1
                go_wp2_with fail
                refine (read_bad R1.out _ HSB.out.u8 HL1.out).mono ?_; rintro e w4 ⟨rfl, hb4⟩
                have HS4 := Lib.hid (HSB.out.later hb4)
                clear hb4
                go_wp2_with fail
                refine (read_bad R2.out _ HS4.out.u8 HL2.out).mono ?_; rintro e w5 ⟨rfl, hb5⟩
                have HS5 := Lib.hid (HS4.out.later hb5)
                clear hb5 e1 e2
                by_cases g1 : (a : Int) > (b : Int)
                · clear HG
                  go_wp2
                  go_ret
                  exact ⟨rfl, HS5.out.bel⟩
                · have g2 : (b : Int) > 255 := by have := HG.out; omega
                  clear HG
                  go_wp2
                  go_ret
                  exact ⟨rfl, HS5.out.bel⟩
end Go.Proofs.YthiibpabdkkknaaDoor
