/- The pieces of each kind's text: walked. -/
import Derived.Test.YtpbadglfegcdjaaGreatDoorM19
import Derived.Test.YtpbadglfegcdjaaGreatDoorM24
import Derived.Test.YtpbadglfegcdjaaGreatDoorM23
import Derived.Test.YtpbadglfegcdjaaGreatDoorM14
import Derived.Test.YtpbadglfegcdjaaGreatDoorM05
import Derived.Test.YtpbadglfegcdjaaGreatDoorCards
import Derived.Test.YtpbadglfegcdjaaGreatDoorTie
import Derived.Lib.LaidIn
import Derived.Lib.LaidU8
import Derived.Lib.LaidU8T
import Derived.Test.YtpbadglfegcdjaaGreatDoorProg
import Derived.WalkKit
import Derived.Carry
import Derived.Below
import Derived.Laws.EntriesVeiled
namespace Go.Proofs.YtpbadglfegcdjaaGreatDoor
open Go Go.RowKit
set_option linter.unusedVariables false
set_option linter.unusedSimpArgs false
set_option maxRecDepth 100000

/-- The library's table of tens. -/
def T10 (w : World) : Prop := Lib.TabIs Tryz.prog w "internal/strconv.uint64pow10" .u64 Lib.pow10Tab
theorem T10.later {w w' : World} (h : T10 w) (hb : Below w.heap.size w w') : T10 w' := by
  unfold T10 Lib.TabIs World.var? at h ⊢
  rw [show Tryz.prog.globalNamed "internal/strconv.uint64pow10" = some 3 by kernel_rfl] at h ⊢
  simp only [Option.bind_some] at h ⊢
  have hlt : 3 < w.heap.size := by
    rcases Nat.lt_or_ge 3 w.heap.size with h' | h'
    · exact h'
    · rw [Array.getElem?_eq_none h'] at h; cases h
  rw [hb.block _ hlt]
  exact h
theorem below_gd (w : World) (k : Nat) (os : Array Obj) : Below w.heap.size w (Sort.grow (w.drewN k) os) :=
  ⟨rfl, rfl, rfl, by unfold Sort.grow; show w.heap.size ≤ (w.heap ++ os).size; simp, fun i hi => by unfold Sort.grow; show (w.heap ++ os)[i]? = _; rw [Array.getElem?_append_left hi]⟩
theorem itoa_decT : ∀ n : Fin 256, Lib.itoa (n.val : Int) = decT n.val := by decide +kernel
theorem itoa_any (n : Nat) (hn : n < 256) (w : World) (hT : T10 w) : Calls Tryz.prog 86 #[.int .i64 (n : Int)] w (Ans w (.string (bs (decT n)))) := by
  have h := Any.strconv_Itoa laysItoa (n : Int) (by omega) (by omega) w hT
  refine h.mono ?_
  rintro e w' ⟨rfl, k, os, rfl⟩
  exact ⟨by rw [itoa_decT ⟨n, hn⟩]; rfl, below_gd w k os⟩
structure KtS (w0 : World) (n : Nd) (w : World) : Prop where
  k : KnS w0 n w
  t : T10 w
theorem KtS.later {w0 w w' : World} {n : Nd} (h : KtS w0 n w) (hb : Below w.heap.size w w') : KtS w0 n w' := ⟨h.k.later hb, h.t.later hb⟩
set_option maxHeartbeats 8000000 in
theorem bounds_any (n : Nd) (h1 : 0 ≤ n.lo) (h2 : n.lo ≤ 255) (h3 : 0 ≤ n.hi) (h4 : n.hi ≤ 255) (w : World) (hT : T10 w) : Calls Tryz.prog 69 #[.agg (ndC n)] w (Ans w (.string (bs (bndT n.lo n.hi)))) := by
  have HS0 : Hid (KtS w n (w.alloc (.cells (ndC n) 43))) := ⟨KnS.new w n, hT.later ((Below.refl _ _).alloc (Nat.le_refl _) _)⟩
  have hbn : bndT n.lo n.hi = 123 :: (decT n.lo.toNat ++ 44 :: (decT n.hi.toNat ++ [125])) := rfl
  obtain ⟨kind, a, b, lo, hi, cls_, text⟩ := n
  simp only at h1 h2 h3 h4 hbn
  obtain ⟨x, rfl⟩ : ∃ x : Nat, lo = (x : Int) := ⟨lo.toNat, by omega⟩
  obtain ⟨y, rfl⟩ : ∃ y : Nat, hi = (y : Int) := ⟨hi.toNat, by omega⟩
  rw [Int.toNat_natCast, Int.toNat_natCast] at hbn
  have HX : Hid (∀ w', T10 w' → Calls Tryz.prog 86 #[.int .i64 (x : Int)] w' (Ans w' (.string (bs (decT x))))) := fun w' h => itoa_any x (by omega) w' h
  have HY : Hid (∀ w', T10 w' → Calls Tryz.prog 86 #[.int .i64 (y : Int)] w' (Ans w' (.string (bs (decT y))))) := fun w' h => itoa_any y (by omega) w' h
  have hx3 : (bs (decT x)).size ≤ 3 := by rw [bs_size]; exact decT_bound x
  have hy3 : (bs (decT y)).size ≤ 3 := by rw [bs_size]; exact decT_bound y
  have HV : Hid (⟨#[123]⟩ ++ bs (decT x) ++ ⟨#[44]⟩ ++ bs (decT y) ++ ⟨#[125]⟩ = bs (bndT (x : Int) (y : Int))) := by
    unfold Hid
    rw [hbn, show (⟨#[123]⟩ : ByteArray) = bs [123] from rfl, show (⟨#[44]⟩ : ByteArray) = bs [44] from rfl, show (⟨#[125]⟩ : ByteArray) = bs [125] from rfl, bs_append, bs_append, bs_append, bs_append]
    simp
  clear hbn hT
  generalize bndT (x : Int) (y : Int) = v at *
  generalize decT x = dx at *
  generalize decT y = dy at *
  unfold ndC at HS0 ⊢
  simp only at HS0 ⊢
  go_enter Tryz.func69, Tryz.ntmps69
  go_upto_region 1 with (fail)
  generalize w.alloc (.cells #[.int .i64 kind, .int .i64 a, .int .i64 b, .int .i64 (x : Int), .int .i64 (y : Int), .int .u64 (wd cls_ 0), .int .u64 (wd cls_ 1), .int .u64 (wd cls_ 2), .int .u64 (wd cls_ 3), .string (bs text)] 43) = w1 at *
  refine wp_region_stable (S := (KtS w ⟨kind, a, b, (x : Int), (y : Int), cls_, text⟩)) (hSt := fun _ _ h hb => h.later hb) (plan := [[(1, none)], [(3, some 0)], [(4, some 1)], [(5, some 2)], [(6, some 3)], [(1, none)], [(8, some 5)], [(9, some 6)], [(7, some 4), (10, some 7)], [(11, some 8)], [(12, some 9)]]) (by kernel_rfl) (by kernel_rfl) (by kernel_rfl) ?hS ?_
  rotate_left
  iterate 11 first
    | (refine chain_skip (by rfl) (by rfl) ?_)
    | (apply chain_want (by rfl)
       · intro act wx hS hr
         simp at hr
         obtain ⟨f0, f1, f2, f3, f4, f5, f6, f7, f8, f9⟩ := ten_cells hS.k.box
         have q1 : ¬ 9223372036854775807 < 1 + (bs dx).size := by omega
         have q2 : ¬ 9223372036854775807 < 1 + (bs dx).size + 1 := by omega
         have q3 : ¬ 9223372036854775807 < 1 + (bs dx).size + 1 + (bs dy).size := by omega
         have q4 : ¬ 9223372036854775807 < 1 + (bs dx).size + 1 + (bs dy).size + 1 := by omega
         go_simp
         (try go_ints)
         first
           | ((with_reducible refine (HX.out _ hS.t).mono ?_); rintro e w' ⟨rfl, hb⟩; exact Done.mk hb)
           | ((with_reducible refine (HY.out _ hS.t).mono ?_); rintro e w' ⟨rfl, hb⟩; exact Done.mk hb)
           | exact Done.same
      )
  show ∀ w', _ → _
  intro wz hz
  simp [Act.put]
  case hS => exact HS0.out
  have HZ := Lib.hid hz
  clear hz
  go_wp2
  go_ret
  exact ⟨by rw [← HV.out]; rfl, HZ.out.k.bel⟩
set_option maxHeartbeats 8000000 in
theorem kinds1_any (n : Nd) (w : World) : Calls Tryz.prog 61 #[.agg (ndC n)] w (PcPost w (brk [])) := by
  have BR := Lib.hid (fun w' => bracketed_any [] (by simp) (.slice none 0 0) w' (.inl ⟨rfl, rfl⟩))
  have HS0 := Lib.hid (KnS.new w n)
  have HP := Lib.hid (fun i lev w' => part_any6 i lev w')
  have HG := Lib.hid (fun s w' => sign_any s w')
  obtain ⟨kind, a, b, lo, hi, cls_, text⟩ := n
  unfold ndC at HS0 ⊢
  simp only at HS0 ⊢
  simp only [pcC] at HP HG
  go_enter Tryz.func61, Tryz.ntmps61
  go_upto_region 1 with (fail)
  generalize w.alloc (.cells #[.int .i64 kind, .int .i64 a, .int .i64 b, .int .i64 lo, .int .i64 hi, .int .u64 (wd cls_ 0), .int .u64 (wd cls_ 1), .int .u64 (wd cls_ 2), .int .u64 (wd cls_ 3), .string (bs text)] 43) = w1 at *
  obtain ⟨f0, f1, f2, f3, f4, f5, f6, f7, f8, f9⟩ := ten_cells HS0.out.box
  go_wp2_with fail
  refine (BR.out _).mono ?_; rintro e w2 ⟨v, rfl, ho, hb⟩
  obtain ⟨a7, c7, rfl, -⟩ := ho.row
  have HO7 := Lib.hid (ho.lower HS0.out.bel.size)
  have HB7 := Lib.hid (HS0.out.bel.trans (hb.mono HS0.out.bel.size))
  clear ho hb
  generalize (brk []).length = m at *
  go_wp2
  go_ret
  exact ⟨_, rfl, HO7.out, HB7.out⟩
set_option maxHeartbeats 8000000 in
theorem kinds2_any (n : Nd) (w : World) : Calls Tryz.prog 62 #[.agg (ndC n)] w (PcPost w [.sg (clsT n.cls)]) := by
  have CL := Lib.hid (fun w' => class_any6 n.cls w')
  unfold cls at CL
  have HS0 := Lib.hid (KnS.new w n)
  have HP := Lib.hid (fun i lev w' => part_any6 i lev w')
  have HG := Lib.hid (fun s w' => sign_any s w')
  obtain ⟨kind, a, b, lo, hi, cls_, text⟩ := n
  unfold ndC at HS0 ⊢
  simp only at HS0 ⊢
  simp only [pcC] at HP HG
  go_enter Tryz.func62, Tryz.ntmps62
  go_upto_region 1 with (fail)
  generalize w.alloc (.cells #[.int .i64 kind, .int .i64 a, .int .i64 b, .int .i64 lo, .int .i64 hi, .int .u64 (wd cls_ 0), .int .u64 (wd cls_ 1), .int .u64 (wd cls_ 2), .int .u64 (wd cls_ 3), .string (bs text)] 43) = w1 at *
  obtain ⟨f0, f1, f2, f3, f4, f5, f6, f7, f8, f9⟩ := ten_cells HS0.out.box
  simp only at CL
  go_wp2_with fail
  refine (CL.out _).mono ?_; rintro e w2 ⟨rfl, hb⟩
  have HS2 := Lib.hid (HS0.out.later hb)
  clear hb
  go_wp2_with fail
  refine (HG.out _ _).mono ?_; rintro e w3 ⟨rfl, hb⟩
  have HZ := Lib.hid (HS2.out.later hb)
  clear hb
  go_wp2
  go_ret
  exact HZ.out.post rfl rfl (by omega)
set_option maxHeartbeats 8000000 in
theorem kinds7_any (n : Nd) (h1 : 0 ≤ n.lo) (h2 : n.lo ≤ 255) (h3 : 0 ≤ n.hi) (h4 : n.hi ≤ 255) (w : World) (hT : T10 w) : Calls Tryz.prog 68 #[.agg (ndC n)] w (PcPost w [.nd n.a 2, .sg (bndT n.lo n.hi)]) := by
  have BD := Lib.hid (fun w' h => bounds_any n h1 h2 h3 h4 w' h)
  have HT1 : Hid (T10 (w.alloc (.cells (ndC n) 43))) := hT.later ((Below.refl _ _).alloc (Nat.le_refl _) _)
  clear hT
  obtain ⟨v, hv⟩ : ∃ v, bndT n.lo n.hi = v := ⟨_, rfl⟩
  rw [hv] at BD ⊢
  clear hv h1 h2 h3 h4
  unfold ndC at BD HT1
  have HS0 := Lib.hid (KnS.new w n)
  have HP := Lib.hid (fun i lev w' => part_any6 i lev w')
  have HG := Lib.hid (fun s w' => sign_any s w')
  obtain ⟨kind, a, b, lo, hi, cls_, text⟩ := n
  unfold ndC at HS0 ⊢
  simp only at HS0 ⊢
  simp only [pcC] at HP HG
  go_enter Tryz.func68, Tryz.ntmps68
  go_upto_region 1 with (fail)
  generalize w.alloc (.cells #[.int .i64 kind, .int .i64 a, .int .i64 b, .int .i64 lo, .int .i64 hi, .int .u64 (wd cls_ 0), .int .u64 (wd cls_ 1), .int .u64 (wd cls_ 2), .int .u64 (wd cls_ 3), .string (bs text)] 43) = w1 at *
  obtain ⟨f0, f1, f2, f3, f4, f5, f6, f7, f8, f9⟩ := ten_cells HS0.out.box
  simp only at BD HT1
  have HS1 : Hid (KtS w ⟨kind, a, b, lo, hi, cls_, text⟩ w1) := ⟨HS0.out, HT1.out⟩
  refine wp_region_stable_tail 6 (S := (KtS w ⟨kind, a, b, lo, hi, cls_, text⟩)) (hSt := fun _ _ h hb => h.later hb) (plan := [[(1, none)], [(3, some 0)], [(4, some 1)], [(1, none)], [(6, some 3)], [(7, some 4)]]) rfl rfl (by kernel_rfl) (by kernel_rfl) (by kernel_rfl) (by kernel_rfl) ?hS ?_
  rotate_left
  iterate 6 first
    | (refine chain_skip (by rfl) (by rfl) ?_)
    | (apply chain_want (by rfl)
       · intro act wx hS hr
         simp at hr
         obtain ⟨f0, f1, f2, f3, f4, f5, f6, f7, f8, f9⟩ := ten_cells hS.k.box
         go_simp
         (try go_ints)
         first
           | ((with_reducible refine (HP.out _ _ _).mono ?_); rintro e w' ⟨rfl, hb⟩; exact Done.mk hb)
           | ((with_reducible refine (BD.out _ hS.t).mono ?_); rintro e w' ⟨rfl, hb⟩; exact Done.mk hb)
           | ((with_reducible refine (HG.out _ _).mono ?_); rintro e w' ⟨rfl, hb⟩; exact Done.mk hb)
           | exact Done.same
      )
  show ∀ w', _ → _
  intro wz hz
  simp [Act.put]
  case hS => exact HS1.out
  have HZ := Lib.hid hz.k
  clear hz
  go_wp2
  go_ret
  exact HZ.out.post rfl rfl (by omega)
def OwnQ (base : Nat) (l : List Pc) (v : Value) (w : World) : Prop := OwnP w base v l ∧ base ≤ w.heap.size
theorem OwnQ.later (base : Nat) (l : List Pc) (v : Value) (w w' : World) (h : OwnQ base l v w) (hb : Below w.heap.size w w') : OwnQ base l v w' := ⟨h.1.later hb, Nat.le_trans h.2 hb.size⟩
def RowQ (l : List Pc) (v : Value) (w : World) : Prop := RowOr w v l
theorem RowQ.later (l : List Pc) (v : Value) (w w' : World) (h : RowQ l v w) (hb : Below w.heap.size w w') : RowQ l v w' := RowOr.later h hb
structure FrS (w0 : World) (n : Nd) (bx : Nat) (s : List UInt8) (w : World) : Prop where
  k : KnS w0 n w
  box : Blk w bx #[.string (bs s)] 9
theorem FrS.later {w0 w w' : World} {n : Nd} {bx : Nat} {s : List UInt8} (h : FrS w0 n bx s w) (hb : Below w.heap.size w w') : FrS w0 n bx s w' := ⟨h.k.later hb, h.box.later hb⟩
theorem pc_new (p : Pc) (w : World) : OwnP (w.alloc (.cells (pcC p) 90)) w.heap.size (.slice (some ⟨w.heap.size, 0, none⟩) 1 1) [p] := OwnP.new (by show _ = (pcC p).toList ++ []; rw [List.append_nil]) rfl (by omega)
set_option maxHeartbeats 8000000 in
theorem framed1_any (n : Nd) (bx : Nat) (s : List UInt8) (w : World) (hbx : Blk w bx #[.string (bs s)] 9) : Calls Tryz.prog 87 #[.agg (ndC n), .pointer (some ⟨bx, 0, none⟩)] w (PcPost w (.sg s :: brk [.nd n.a 0])) := by
  have HX1 := Lib.hid (hbx.alloc (.cells (ndC n) 43))
  clear hbx
  unfold ndC at HX1
  have HS0 := Lib.hid (KnS.new w n)
  have HP := Lib.hid (fun i lev w' => part_any6 i lev w')
  have HG := Lib.hid (fun s w' => sign_any s w')
  obtain ⟨kind, a, b, lo, hi, cls_, text⟩ := n
  unfold ndC at HS0 ⊢
  simp only at HS0 ⊢
  simp only [pcC] at HP HG
  go_enter Tryz.func87, Tryz.ntmps87
  go_upto_region 1 with (fail)
  generalize w.alloc (.cells #[.int .i64 kind, .int .i64 a, .int .i64 b, .int .i64 lo, .int .i64 hi, .int .u64 (wd cls_ 0), .int .u64 (wd cls_ 1), .int .u64 (wd cls_ 2), .int .u64 (wd cls_ 3), .string (bs text)] 43) = w1 at *
  obtain ⟨f0, f1, f2, f3, f4, f5, f6, f7, f8, f9⟩ := ten_cells HS0.out.box
  have HS1 : Hid (FrS w ⟨kind, a, b, lo, hi, cls_, text⟩ bx s w1) := ⟨HS0.out, HX1.out⟩
  refine wp_region_stable_tail 8 (S := (FrS w ⟨kind, a, b, lo, hi, cls_, text⟩ bx s)) (hSt := fun _ _ h hb => h.later hb) (plan := [[(1, none)], [(4, some 0)], [(5, some 1)], [(2, none)], [(7, some 3)], [(8, some 4)], [(9, some 5)], [(10, some 6)]]) rfl rfl (by kernel_rfl) (by kernel_rfl) (by kernel_rfl) (by kernel_rfl) ?hS ?_
  rotate_left
  iterate 2 first
    | (refine chain_skip (by rfl) (by rfl) ?_)
    | (apply chain_want (by rfl)
       · intro act wx hS hr
         simp at hr
         obtain ⟨f0, f1, f2, f3, f4, f5, f6, f7, f8, f9⟩ := ten_cells hS.k.box
         have g0 := hS.box.cell 0
         simp at g0
         go_simp
         (try go_ints)
         first
           | ((with_reducible refine (HP.out _ _ _).mono ?_); rintro e w' ⟨rfl, hb⟩; exact Done.mk hb)
           | ((with_reducible refine (HG.out _ _).mono ?_); rintro e w' ⟨rfl, hb⟩; exact Done.mk hb)
           | exact Done.same
      )
  (refine chain_rel (OwnQ w.heap.size [.sg s]) (OwnQ.later _ _) (by rfl) ?_ ?_
   · intro act wx hS hr
     simp at hr
     obtain ⟨f0, f1, f2, f3, f4, f5, f6, f7, f8, f9⟩ := ten_cells hS.k.box
     have g0 := hS.box.cell 0
     simp at g0
     all_goals go_simp
     exact Done.rel ((Below.refl _ _).alloc (Nat.le_refl _) _) ⟨(pc_new (.sg s) wx).lower hS.k.bel.size, Nat.le_trans hS.k.bel.size (by simp)⟩
  )
  iterate 3 first
    | (refine chain_skip (by rfl) (by rfl) ?_)
    | (apply chain_want (by rfl)
       · intro act wx hS hr
         simp at hr
         obtain ⟨f0, f1, f2, f3, f4, f5, f6, f7, f8, f9⟩ := ten_cells hS.k.box
         have g0 := hS.box.cell 0
         simp at g0
         go_simp
         (try go_ints)
         first
           | ((with_reducible refine (HP.out _ _ _).mono ?_); rintro e w' ⟨rfl, hb⟩; exact Done.mk hb)
           | ((with_reducible refine (HG.out _ _).mono ?_); rintro e w' ⟨rfl, hb⟩; exact Done.mk hb)
           | exact Done.same
      )
  (refine chain_rel (RowQ [.nd a 0]) (RowQ.later _) (by rfl) ?_ ?_
   · intro act wx hS hr
     simp at hr
     obtain ⟨f0, f1, f2, f3, f4, f5, f6, f7, f8, f9⟩ := ten_cells hS.k.box
     have g0 := hS.box.cell 0
     simp at g0
     all_goals go_simp
     exact Done.rel ((Below.refl _ _).alloc (Nat.le_refl _) _) ((pc_new (.nd a 0) wx).rowOr (by simp))
  )
  (refine chain_rel (RowQ (brk [.nd a 0])) (RowQ.later _) (by rfl) ?_ ?_
   · intro act wx hS hr
     simp at hr
     obtain ⟨f0, f1, f2, f3, f4, f5, f6, f7, f8, f9⟩ := ten_cells hS.k.box
     have g0 := hS.box.cell 0
     simp at g0
     obtain ⟨v, hr3, hro⟩ := hr
     all_goals go_simp
     (try simp only [hr3, Option.getD_some])
     refine (bracketed_any [.nd a 0] (by simp) v wx hro).mono ?_
     rintro e w' ⟨u, rfl, ho, hb⟩
     exact Done.rel hb (ho.rowOr (by simp [brk]))
  )
  show ∀ w', _ → _
  intro wz hz
  simp [Act.put]
  case hS => exact HS1.out
  intro v2 hv2 v6 hv6 v7 hv7
  rcases hv7 with ⟨h7, -⟩ | ⟨g7, o7, c7, hl7, rfl, hr7⟩
  · exact absurd h7 (by simp [brk])
  · refine wpList_append_prow rfl (.tmp 6) (.tmp 11) rfl w.heap.size v2 [.sg s] rfl hv2.1 g7 o7 c7 (brk [.nd a 0]) rfl hr7 hl7 (by simp [brk]) hv2.2 ?_
    intro v' w8 h1 h2
    have HB8 := Lib.hid (hz.k.bel.trans ((Below.refl w.heap.size _).grown h2 hv2.2 (fun k hk => (World.ownsRow.lt hv2.1 k hk).1)))
    obtain ⟨a9, c9, rfl, -⟩ := h1.row
    have HO8 := Lib.hid h1
    clear h1 h2 hv2 hz hr7 hl7
    generalize ([Pc.sg s] ++ brk [.nd a 0]).length = m at *
    simp [Act.put]
    go_simp
    go_wp2
    go_ret
    exact ⟨_, rfl, HO8.out, HB8.out⟩
/-- A closure that frames with a letter. -/
def frV (b : Nat) : Value := .func (.func 87) #[] #[.pointer (some ⟨b, 0, none⟩)]
set_option maxHeartbeats 8000000 in
theorem framed_any (s : ByteArray) (w : World) : Calls Tryz.prog 70 #[.string s] w (fun e w' => e = .returned (frV w.heap.size) ∧ Blk w' w.heap.size #[.string s] 9 ∧ Below w.heap.size w w') := by
  have HB := Lib.hid (Blk.new w #[.string s] 9)
  go_enter Tryz.func70, Tryz.ntmps70
  go_wp2
  exact bodyPost_ret (v := frV w.heap.size) (by simp [results, Tryz.results70, go_sem, frV]) rfl ⟨rfl, HB.out, (Below.refl _ _).alloc (Nat.le_refl _) _⟩
end Go.Proofs.YtpbadglfegcdjaaGreatDoor
/- What a proof of a row of print and lex needs around its walk: the table of tens and those of unicode/utf8 out of the listed variables, a world for the witness. -/
namespace Go.Proofs.YtpbadglfegcdjaaGreatDoor
open Go Go.RowKit Go.ChangeShapes Go.WideShapes Go.ChangeAt Go.Joins
set_option maxRecDepth 100000

theorem tab_of_reads {P : Program} {W : World} {name : String} {k : IntKind} {zs : List Int} {g : Nat} {t e : TypeId} {n : Nat}
    (hg : P.globalNamed name = some g) (hty : (P.globals[g]?).map (·.type) = some t) (ht : P.underlying t = some (.array n e)) (he : P.underlying e = some (.int k)) (hce : P.cellsOf e = 1) (hct : P.cellsOf t = n)
    (h : Lib.VarReads P W name (Lib.tabData k zs)) : Lib.TabIs P W name k zs := by
  obtain ⟨g', t', cs, fuel, p, hg', ht', hvar, hd⟩ := h
  obtain rfl := Option.some.inj (hg.symm.trans hg')
  obtain rfl := Option.some.inj (hty.symm.trans ht')
  unfold Lib.TabIs
  rw [hvar, ← Lib.cells_of_tab ht he hce hct hd]
theorem tenD : (Rows.laid_internal_strconv_uint64pow10 : DataW Unit) = Lib.tabData .u64 Lib.pow10Tab := by kernel_rfl
theorem gTen : Tryz.prog.globalNamed "internal/strconv.uint64pow10" = some 3 := by kernel_rfl
theorem gTenType : (Tryz.prog.globals[3]?).map (·.type) = some 160 := by kernel_rfl
theorem cellsTen : Tryz.prog.cellsOf 160 = 20 := by kernel_rfl
theorem t10_of_laid {W : World} (h : laidMetH Tryz.prog [("math/bits.deBruijn32tab", Rows.laid_math_bits_deBruijn32tab), ("math/bits.deBruijn64tab", Rows.laid_math_bits_deBruijn64tab), ("internal/strconv.uint64pow10", Rows.laid_internal_strconv_uint64pow10), ("unicode/utf8.acceptRanges", Rows.laid_unicode_utf8_acceptRanges), ("unicode/utf8.first", Rows.laid_unicode_utf8_first)] W) : T10 W := by
  have hL : laidMet Tryz.prog [("math/bits.deBruijn32tab", Rows.laid_math_bits_deBruijn32tab), ("math/bits.deBruijn64tab", Rows.laid_math_bits_deBruijn64tab), ("internal/strconv.uint64pow10", Rows.laid_internal_strconv_uint64pow10), ("unicode/utf8.acceptRanges", Rows.laid_unicode_utf8_acceptRanges), ("unicode/utf8.first", Rows.laid_unicode_utf8_first)] W := h
  have hr := Lib.laidMet.reads hL (.tail _ (.tail _ (.head _)))
  rw [tenD] at hr
  exact tab_of_reads gTen gTenType Tryz.underlying160 Tryz.underlying38 cellsU64 cellsTen hr
theorem firstD : (Rows.laid_unicode_utf8_first : DataW Unit) = Lib.firstData := by kernel_rfl
theorem acceptD : (Rows.laid_unicode_utf8_acceptRanges : DataW Unit) = Lib.acceptData := by kernel_rfl
theorem u8_of_laid {W : World} (h : laidMetH Tryz.prog [("math/bits.deBruijn32tab", Rows.laid_math_bits_deBruijn32tab), ("math/bits.deBruijn64tab", Rows.laid_math_bits_deBruijn64tab), ("internal/strconv.uint64pow10", Rows.laid_internal_strconv_uint64pow10), ("unicode/utf8.acceptRanges", Rows.laid_unicode_utf8_acceptRanges), ("unicode/utf8.first", Rows.laid_unicode_utf8_first)] W) : U8T W := by
  have hL : laidMet Tryz.prog [("math/bits.deBruijn32tab", Rows.laid_math_bits_deBruijn32tab), ("math/bits.deBruijn64tab", Rows.laid_math_bits_deBruijn64tab), ("internal/strconv.uint64pow10", Rows.laid_internal_strconv_uint64pow10), ("unicode/utf8.acceptRanges", Rows.laid_unicode_utf8_acceptRanges), ("unicode/utf8.first", Rows.laid_unicode_utf8_first)] W := h
  have hf := Lib.laidMet.reads hL (.tail _ (.tail _ (.tail _ (.tail _ (.head _)))))
  have ha := Lib.laidMet.reads hL (.tail _ (.tail _ (.tail _ (.head _))))
  rw [firstD] at hf
  rw [acceptD] at ha
  have ht := utf8Tabs_of_readsT (U8Types.of196 laysValid) ⟨by kernel_rfl, by kernel_rfl, by kernel_rfl, by kernel_rfl, by kernel_rfl, by kernel_rfl, by kernel_rfl⟩ hf ha
  have h2 : Lib.Utf8Tabs 0 1 W := ht
  exact ⟨World.block_lt_of_cell? W _ (h2.1 0 (by omega)), World.block_lt_of_cell? W _ (h2.2 0 (by omega)).1, h2⟩
/-- The cells of a listed table of numbers. -/
def tabCells : DataW Unit → Array Value
  | .agg l => (l.map fun d => match d with | .lit (.int k z) => Value.int k z | _ => Value.bool false).toArray
  | _ => #[]
/-- A world for a witness: the tables holding what their initialisers lay. -/
noncomputable def laidWorldB (os : Os) : World :=
  let w0 := World.holding Tryz.prog os ⟨#[], #[], []⟩
  let put (h : Array Obj) (g : Nat) (cs : Array Value) : Array Obj := h.modify g fun
    | .cells _ t frozen => .cells cs t frozen
    | o => o
  let h1 := put w0.heap 4 (tabCells Rows.laid_math_bits_deBruijn32tab)
  let h2 := put h1 5 (tabCells Rows.laid_math_bits_deBruijn64tab)
  let h3 := put h2 3 (tabCells Rows.laid_internal_strconv_uint64pow10)
  let h4 := put h3 0 (Lib.firstTab.map fun z => Value.int .u8 z).toArray
  let h5 := put h4 1 ((List.range 16).flatMap fun i => [Value.int .u8 (Lib.accLo i), Value.int .u8 (Lib.accHi i)]).toArray
  { w0 with heap := h5 }
end Go.Proofs.YtpbadglfegcdjaaGreatDoor
/- A map whose keys are numbers: what a look-up finds, what a new key leaves. -/
namespace Go.Proofs.YtpbadglfegcdjaaGreatDoor
open Go Go.RowKit
set_option linter.unusedVariables false
set_option linter.unusedSimpArgs false

def mapEsK : List (Int × Value) → Nat → List MapEntry
  | [], _ => []
  | p :: l, i => { key := .int .i64 p.1, val := p.2, born := i } :: mapEsK l (i + 1)
theorem mapEsK_append : ∀ (l : List (Int × Value)) (k : Int) (v : Value) (i : Nat), mapEsK (l ++ [(k, v)]) i = mapEsK l i ++ [{ key := .int .i64 k, val := v, born := i + l.length }]
  | [], k, v, i => rfl
  | p :: l, k, v, i => by
    show _ :: mapEsK (l ++ [(k, v)]) (i + 1) = _
    rw [mapEsK_append l k v (i + 1)]
    simp [mapEsK]; omega
/-- What a map holds, in the order in which it was put in. -/
def IsMapK (w : World) (m : Nat) (l : List (Int × Value)) : Prop := w.heap[m]? = some (.map (mapEsK l 0).toArray l.length)
theorem IsMapK.lt {w : World} {m : Nat} {l : List (Int × Value)} (h : IsMapK w m l) : m < w.heap.size := (Array.getElem?_eq_some_iff.1 h).1
theorem IsMapK.later {w w' : World} {m : Nat} {l : List (Int × Value)} (h : IsMapK w m l) (hb : Below w.heap.size w w') : IsMapK w' m l := (hb.block m h.lt).trans h
/-- The world with a map's block turned. -/
def putMapK (w : World) (m : Nat) (l : List (Int × Value)) : World := { w with heap := w.heap.setIfInBounds m (.map (mapEsK l 0).toArray l.length) }
theorem putMapK_is {w : World} {m : Nat} (h : m < w.heap.size) (l' : List (Int × Value)) : IsMapK (putMapK w m l') m l' := by
  unfold IsMapK putMapK; simp [h]
theorem putMapK_other {w : World} {m b : Nat} (hb : b ≠ m) (l : List (Int × Value)) : (putMapK w m l).heap[b]? = w.heap[b]? := by
  unfold putMapK; simp [Ne.symm hb]
theorem putMapK_size (w : World) (m : Nat) (l : List (Int × Value)) : (putMapK w m l).heap.size = w.heap.size := by simp [putMapK]
theorem putMapK_below {B : Nat} {a w : World} {m : Nat} (h : Below B a w) (hm : B ≤ m) (l : List (Int × Value)) : Below B a (putMapK w m l) :=
  h.trans ⟨rfl, rfl, rfl, by rw [putMapK_size]; exact Nat.le_refl _, fun i hi => putMapK_other (by omega) l⟩
/-- What a look-up finds. -/
def findEK : List (Int × Value) → Int → Nat → Option (Nat × Value)
  | [], _, _ => none
  | p :: l, k, i => if p.1 = k then some (i, p.2) else findEK l k (i + 1)
theorem findNow_mapEsK (k : Int) : ∀ (l : List (Int × Value)) (i : Nat), Instr.findNow (.int .i64) (.int .i64 k) (mapEsK l i) i = some (findEK l k i)
  | [], i => rfl
  | p :: l, i => by
    unfold mapEsK Instr.findNow findEK
    simp only [Instr.sameNow, if_true]
    by_cases h : p.1 = k
    · have : (k == p.1) = true := by rw [beq_iff_eq]; exact h.symm
      rw [this, if_pos h]
    · have : (k == p.1) = false := by rw [beq_eq_false_iff_ne]; exact fun e => h e.symm
      rw [this, if_neg h]
      exact findNow_mapEsK k l (i + 1)
theorem keysK_free {e : Bool} {k : Int} (w : World) : (Instr.checkKey e 10000 3 (.int .i64 k)).run Tryz.prog w = .ok () w := by
  rw [show (10000 : Nat) = 9999 + 1 from rfl]
  unfold Instr.checkKey
  simp [run_underlying Tryz.underlying3, Result.andThen]
theorem run_lookup_int (w : World) (m : Nat) (l : List (Int × Value)) (k : Int) (hm : IsMapK w m l) :
    (Instr.lookup 87 (.map (some m)) (.int .i64 k) true).run Tryz.prog w = .ok (match findEK l k 0 with | some (_, v) => .tuple #[v, .bool true] | none => .tuple #[.agg #[.int .i64 0, .nilFunc], .bool false]) w := by
  unfold IsMapK at hm
  have hf := findNow_mapEsK k l 0
  have hz := Tryz.zeroValue95
  simp only [Instr.lookup, Sem.run_bind, run_underlying Tryz.underlying87, Result.andThen, getObj, Sem.run, hm, keysK_free, Instr.findKey, run_underlying Tryz.underlying3, hf]
  rw [show (Sem.run Tryz.prog (pure (mapEsK l 0).toArray) w) = .ok (mapEsK l 0).toArray w from rfl]
  simp only [hf]
  cases h : findEK l k 0 with
  | none => simp [Sem.run_bind, hz, Result.andThen]
  | some p => obtain ⟨i, v⟩ := p; rfl
theorem run_update_int (w : World) (m : Nat) (l : List (Int × Value)) (k : Int) (v : Value) (hm : IsMapK w m l) (hk : findEK l k 0 = none) :
    (Instr.mapUpdate 87 (.map (some m)) (.int .i64 k) v).run Tryz.prog w = .ok () (putMapK w m (l ++ [(k, v)])) := by
  have hlt := hm.lt
  unfold IsMapK at hm
  have hf := findNow_mapEsK k l 0
  rw [hk] at hf
  simp only [Instr.mapUpdate, Sem.run_bind, run_underlying Tryz.underlying87, Result.andThen, getObj, Sem.run, hm, keysK_free, Instr.findKey, run_underlying Tryz.underlying3, hf]
  simp only [setObj, Sem.run, hm]
  unfold putMapK
  rw [mapEsK_append]
  simp [Sem.run, hm]
end Go.Proofs.YtpbadglfegcdjaaGreatDoor
/- The table of kinds: walked. -/
namespace Go.Proofs.YtpbadglfegcdjaaGreatDoor
open Go Go.RowKit
set_option linter.unusedVariables false
set_option linter.unusedSimpArgs false
set_option maxRecDepth 100000

def kV (l : Int) (f : FuncId) : Value := .agg #[.int .i64 l, .func (.func f) #[] #[]]
def fV (b : Nat) : Value := .agg #[.int .i64 3, frV b]
def kL7 : List (Int × Value) := [(1, kV 3 61), (2, kV 3 62), (3, kV 3 64), (4, kV 1 65), (5, kV 0 66), (6, kV 2 67), (7, kV 2 68)]
def kL9 (b8 b9 : Nat) : List (Int × Value) := kL7 ++ [(8, fV b8), (9, fV b9)]
/-- The table of kinds. -/
def KnM (m : Nat) (w : World) : Prop := ∃ b8 b9, IsMapK w m (kL9 b8 b9) ∧ Blk w b8 #[.string (bs [98])] 9 ∧ Blk w b9 #[.string (bs [119])] 9
theorem blk_put {w : World} {m b : Nat} {vs : Array Value} {t : TypeId} {l l' : List (Int × Value)} (hm : IsMapK w m l) (h : Blk w b vs t) : Blk (putMapK w m l') b vs t := by
  have hne : b ≠ m := fun e => by
    unfold Blk at h; unfold IsMapK at hm
    rw [e, hm] at h; cases h
  exact (putMapK_other hne l').trans h
theorem put_step {w0 w : World} {m : Nat} {l l' : List (Int × Value)} (hb : Below w0.heap.size w0 w) (hlow : w0.heap.size ≤ m) (hm : IsMapK w m l) : Below w0.heap.size w0 (putMapK w m l') ∧ IsMapK (putMapK w m l') m l' := ⟨putMapK_below hb hlow l', putMapK_is hm.lt l'⟩
set_option maxHeartbeats 16000000 in
theorem kinds_any (w : World) : Calls Tryz.prog 40 #[] w (fun e w' => ∃ m, e = .returned (.map (some m)) ∧ KnM m w' ∧ Below w.heap.size w w') := by
  have hmm := @run_makeMap Tryz.prog
  have HB0 : Hid (Below w.heap.size w (w.alloc (.map #[] 0))) := (Below.refl _ _).alloc (Nat.le_refl _) _
  have HM0 : Hid (IsMapK (w.alloc (.map #[] 0)) w.heap.size []) := by unfold Hid IsMapK mapEsK; show (w.heap.push _)[w.heap.size]? = _; simp
  have hlow : w.heap.size ≤ w.heap.size := Nat.le_refl _
  obtain ⟨w1, hw1⟩ : ∃ w1, w1 = putMapK (w.alloc (.map #[] 0)) w.heap.size [(1, kV 3 61)] := ⟨_, rfl⟩
  have hu1 : (Instr.mapUpdate 87 (.map (some w.heap.size)) (.int .i64 1) (.agg #[.int .i64 3, .func (.func 61) #[] #[]])).run Tryz.prog (w.alloc (.map #[] 0)) = .ok () w1 := by
    rw [hw1]; exact run_update_int (w.alloc (.map #[] 0)) w.heap.size [] 1 (kV 3 61) HM0.out rfl
  have HB1 : Hid (Below w.heap.size w w1) := by rw [hw1]; exact (put_step HB0.out hlow HM0.out).1
  have HM1 : Hid (IsMapK w1 w.heap.size [(1, kV 3 61)]) := by rw [hw1]; exact (put_step HB0.out hlow HM0.out).2
  clear hw1
  obtain ⟨w2, hw2⟩ : ∃ w2, w2 = putMapK w1 w.heap.size [(1, kV 3 61), (2, kV 3 62)] := ⟨_, rfl⟩
  have hu2 : (Instr.mapUpdate 87 (.map (some w.heap.size)) (.int .i64 2) (.agg #[.int .i64 3, .func (.func 62) #[] #[]])).run Tryz.prog w1 = .ok () w2 := by
    rw [hw2]; exact run_update_int w1 w.heap.size [(1, kV 3 61)] 2 (kV 3 62) HM1.out rfl
  have HB2 : Hid (Below w.heap.size w w2) := by rw [hw2]; exact (put_step HB1.out hlow HM1.out).1
  have HM2 : Hid (IsMapK w2 w.heap.size [(1, kV 3 61), (2, kV 3 62)]) := by rw [hw2]; exact (put_step HB1.out hlow HM1.out).2
  clear hw2
  obtain ⟨w3, hw3⟩ : ∃ w3, w3 = putMapK w2 w.heap.size [(1, kV 3 61), (2, kV 3 62), (3, kV 3 64)] := ⟨_, rfl⟩
  have hu3 : (Instr.mapUpdate 87 (.map (some w.heap.size)) (.int .i64 3) (.agg #[.int .i64 3, .func (.func 64) #[] #[]])).run Tryz.prog w2 = .ok () w3 := by
    rw [hw3]; exact run_update_int w2 w.heap.size [(1, kV 3 61), (2, kV 3 62)] 3 (kV 3 64) HM2.out rfl
  have HB3 : Hid (Below w.heap.size w w3) := by rw [hw3]; exact (put_step HB2.out hlow HM2.out).1
  have HM3 : Hid (IsMapK w3 w.heap.size [(1, kV 3 61), (2, kV 3 62), (3, kV 3 64)]) := by rw [hw3]; exact (put_step HB2.out hlow HM2.out).2
  clear hw3
  obtain ⟨w4, hw4⟩ : ∃ w4, w4 = putMapK w3 w.heap.size [(1, kV 3 61), (2, kV 3 62), (3, kV 3 64), (4, kV 1 65)] := ⟨_, rfl⟩
  have hu4 : (Instr.mapUpdate 87 (.map (some w.heap.size)) (.int .i64 4) (.agg #[.int .i64 1, .func (.func 65) #[] #[]])).run Tryz.prog w3 = .ok () w4 := by
    rw [hw4]; exact run_update_int w3 w.heap.size [(1, kV 3 61), (2, kV 3 62), (3, kV 3 64)] 4 (kV 1 65) HM3.out rfl
  have HB4 : Hid (Below w.heap.size w w4) := by rw [hw4]; exact (put_step HB3.out hlow HM3.out).1
  have HM4 : Hid (IsMapK w4 w.heap.size [(1, kV 3 61), (2, kV 3 62), (3, kV 3 64), (4, kV 1 65)]) := by rw [hw4]; exact (put_step HB3.out hlow HM3.out).2
  clear hw4
  obtain ⟨w5, hw5⟩ : ∃ w5, w5 = putMapK w4 w.heap.size [(1, kV 3 61), (2, kV 3 62), (3, kV 3 64), (4, kV 1 65), (5, kV 0 66)] := ⟨_, rfl⟩
  have hu5 : (Instr.mapUpdate 87 (.map (some w.heap.size)) (.int .i64 5) (.agg #[.int .i64 0, .func (.func 66) #[] #[]])).run Tryz.prog w4 = .ok () w5 := by
    rw [hw5]; exact run_update_int w4 w.heap.size [(1, kV 3 61), (2, kV 3 62), (3, kV 3 64), (4, kV 1 65)] 5 (kV 0 66) HM4.out rfl
  have HB5 : Hid (Below w.heap.size w w5) := by rw [hw5]; exact (put_step HB4.out hlow HM4.out).1
  have HM5 : Hid (IsMapK w5 w.heap.size [(1, kV 3 61), (2, kV 3 62), (3, kV 3 64), (4, kV 1 65), (5, kV 0 66)]) := by rw [hw5]; exact (put_step HB4.out hlow HM4.out).2
  clear hw5
  obtain ⟨w6, hw6⟩ : ∃ w6, w6 = putMapK w5 w.heap.size [(1, kV 3 61), (2, kV 3 62), (3, kV 3 64), (4, kV 1 65), (5, kV 0 66), (6, kV 2 67)] := ⟨_, rfl⟩
  have hu6 : (Instr.mapUpdate 87 (.map (some w.heap.size)) (.int .i64 6) (.agg #[.int .i64 2, .func (.func 67) #[] #[]])).run Tryz.prog w5 = .ok () w6 := by
    rw [hw6]; exact run_update_int w5 w.heap.size [(1, kV 3 61), (2, kV 3 62), (3, kV 3 64), (4, kV 1 65), (5, kV 0 66)] 6 (kV 2 67) HM5.out rfl
  have HB6 : Hid (Below w.heap.size w w6) := by rw [hw6]; exact (put_step HB5.out hlow HM5.out).1
  have HM6 : Hid (IsMapK w6 w.heap.size [(1, kV 3 61), (2, kV 3 62), (3, kV 3 64), (4, kV 1 65), (5, kV 0 66), (6, kV 2 67)]) := by rw [hw6]; exact (put_step HB5.out hlow HM5.out).2
  clear hw6
  obtain ⟨w7, hw7⟩ : ∃ w7, w7 = putMapK w6 w.heap.size [(1, kV 3 61), (2, kV 3 62), (3, kV 3 64), (4, kV 1 65), (5, kV 0 66), (6, kV 2 67), (7, kV 2 68)] := ⟨_, rfl⟩
  have hu7 : (Instr.mapUpdate 87 (.map (some w.heap.size)) (.int .i64 7) (.agg #[.int .i64 2, .func (.func 68) #[] #[]])).run Tryz.prog w6 = .ok () w7 := by
    rw [hw7]; exact run_update_int w6 w.heap.size [(1, kV 3 61), (2, kV 3 62), (3, kV 3 64), (4, kV 1 65), (5, kV 0 66), (6, kV 2 67)] 7 (kV 2 68) HM6.out rfl
  have HB7 : Hid (Below w.heap.size w w7) := by rw [hw7]; exact (put_step HB6.out hlow HM6.out).1
  have HM7 : Hid (IsMapK w7 w.heap.size [(1, kV 3 61), (2, kV 3 62), (3, kV 3 64), (4, kV 1 65), (5, kV 0 66), (6, kV 2 67), (7, kV 2 68)]) := by rw [hw7]; exact (put_step HB6.out hlow HM6.out).2
  clear hw7
  go_enter Tryz.func40, Tryz.ntmps40
  go_upto_region 1 with (fail)
  go_upto_region 2 with (fail)
  clear hu1 hu2 hu3 hu4 hu5 hu6 hu7 HB1 HB2 HB3 HB4 HB5 HB6 HM1 HM2 HM3 HM4 HM5 HM6 HB0 HM0 hmm
  go_wp2_with fail
  refine (framed_any _ _).mono ?_; rintro e w8 ⟨rfl, hk, hb⟩
  have HK8 : Hid (Blk w8 w7.heap.size #[.string (bs [98])] 9) := hk
  have HB8 := Lib.hid (HB7.out.trans (hb.mono HB7.out.size))
  have HM8 : Hid (IsMapK w8 w.heap.size kL7) := HM7.out.later hb
  clear hk hb HB7 HM7
  unfold frV
  generalize w7.heap.size = b8 at *
  obtain ⟨w9, hw9⟩ : ∃ w9, w9 = putMapK w8 w.heap.size (kL7 ++ [(8, fV b8)]) := ⟨_, rfl⟩
  have hu8 : (Instr.mapUpdate 87 (.map (some w.heap.size)) (.int .i64 8) (.agg #[.int .i64 3, .func (.func 87) #[] #[.pointer (some ⟨b8, 0, none⟩)]])).run Tryz.prog w8 = .ok () w9 := by
    rw [hw9]; exact run_update_int w8 w.heap.size kL7 8 (fV b8) HM8.out rfl
  have HB9 : Hid (Below w.heap.size w w9) := by rw [hw9]; exact (put_step HB8.out hlow HM8.out).1
  have HM9 : Hid (IsMapK w9 w.heap.size (kL7 ++ [(8, fV b8)])) := by rw [hw9]; exact (put_step HB8.out hlow HM8.out).2
  have HK9 : Hid (Blk w9 b8 #[.string (bs [98])] 9) := by rw [hw9]; exact blk_put HM8.out HK8.out
  clear hw9
  go_upto_region 4 with (fail)
  clear hu8 HB8 HM8 HK8
  go_wp2_with fail
  refine (framed_any _ _).mono ?_; rintro e wA ⟨rfl, hk, hb⟩
  have HKA : Hid (Blk wA w9.heap.size #[.string (bs [119])] 9) := hk
  have HKB := Lib.hid (HK9.out.later hb)
  have HBA := Lib.hid (HB9.out.trans (hb.mono HB9.out.size))
  have HMA : Hid (IsMapK wA w.heap.size (kL7 ++ [(8, fV b8)])) := HM9.out.later hb
  clear hk hb HB9 HM9 HK9
  unfold frV
  generalize w9.heap.size = b9 at *
  obtain ⟨wB, hwB⟩ : ∃ wB, wB = putMapK wA w.heap.size (kL9 b8 b9) := ⟨_, rfl⟩
  have hu9 : (Instr.mapUpdate 87 (.map (some w.heap.size)) (.int .i64 9) (.agg #[.int .i64 3, .func (.func 87) #[] #[.pointer (some ⟨b9, 0, none⟩)]])).run Tryz.prog wA = .ok () wB := by
    rw [hwB]; exact run_update_int wA w.heap.size (kL7 ++ [(8, fV b8)]) 9 (fV b9) HMA.out rfl
  have HBB : Hid (Below w.heap.size w wB) := by rw [hwB]; exact (put_step HBA.out hlow HMA.out).1
  have HMB : Hid (KnM w.heap.size wB) := by
    rw [hwB]; exact ⟨b8, b9, (put_step HBA.out hlow HMA.out).2, blk_put HMA.out HKB.out, blk_put HMA.out HKA.out⟩
  clear hwB HBA HMA HKB HKA
  go_wp2
  go_ret
  exact ⟨_, rfl, HMB.out, HBB.out⟩
end Go.Proofs.YtpbadglfegcdjaaGreatDoor
