/- The statement LexClass of layer 3, walked. -/
import Derived.Test.YtdglimajelbflaaDoorLexAwake
import Derived.Test.YtdglimajelbflaaDoorLexMoreM
import Derived.Test.YtdglimajelbflaaDoorLexConv
namespace Go.Proofs.YtdglimajelbflaaDoor
open Go Go.RowKit
set_option linter.unusedVariables false
set_option linter.unusedSimpArgs false

theorem cls_read (x : List UInt8) (h : (62 : UInt8) ∉ x) : readL (60 :: (x ++ [62])) 0 0 = match classV x with
    | none => .error (2, 0)
    | some s => .ok [{ kind := 1, at_ := 0, cls := s }, { kind := 10, at_ := x.length + 2 }] := by
  rw [readL_c0, if_neg (by decide)]
  have ho : oneV 60 (x ++ [62]) = clsF x := by
    rw [oneV_eq]
    show closed 62 2 (x ++ [62]) clsF = _
    unfold closed
    rw [show x ++ [62] = x ++ 62 :: [] from rfl, cutAt_app h]
  rw [ho]
  unfold clsF
  cases classV x with
  | none => rfl
  | some s =>
    simp only
    rw [readL_skip (x ++ [62]) _ (x.length + 1) (x.length + 1) (Nat.le_refl _) (by simp), List.drop_of_length_le (by simp), readL_nil]
    simp [Except.map]
    omega
theorem cls_ok {x : List UInt8} {s : BitVec 256} (h : (62 : UInt8) ∉ x) (hs : classV x = some s) : readL (60 :: (x ++ [62])) 0 0 = .ok [{ kind := 1, at_ := 0, cls := s }, { kind := 10, at_ := x.length + 2 }] := by
  rw [cls_read x h, hs]
theorem cls_bad {x : List UInt8} (h : (62 : UInt8) ∉ x) (hs : classV x = none) : readL (60 :: (x ++ [62])) 0 0 = .error (2, 0) := by
  rw [cls_read x h, hs]
theorem clsA {a : Nat} (h : a < 256) : readL (60 :: (hexB a ++ [62])) 0 0 = .ok [{ kind := 1, at_ := 0, cls := rowB a a }, { kind := 10, at_ := 4 }] := by
  have := cls_ok (x := hexB a) (hexB_not h 62 (by simp)) (by
    have := classV_plain h []; rw [List.append_nil] at this; rw [this, listV_one h])
  exact this
theorem clsN {a : Nat} (h : a < 256) : readL (60 :: 94 :: (hexB a ++ [62])) 0 0 = .ok [{ kind := 1, at_ := 0, cls := ~~~ (rowB a a) }, { kind := 10, at_ := 5 }] := by
  have := cls_ok (x := 94 :: hexB a) (by have := hexB_not h 62 (by simp); simp [this]) (by rw [classV_not, listV_one h]; rfl)
  exact this
theorem clsR {a b : Nat} (h : a < 256) (hb : b < 256) (hab : a ≤ b) : readL (60 :: ((hexB a ++ 45 :: hexB b) ++ [62])) 0 0 = .ok [{ kind := 1, at_ := 0, cls := rowB a b }, { kind := 10, at_ := 7 }] := by
  have h1 := hexB_not h 62 (by simp); have h2 := hexB_not hb 62 (by simp)
  exact cls_ok (x := hexB a ++ 45 :: hexB b) (by simp [h1, h2]) (by rw [classV_plain h, listV_row h hb, if_pos hab])
theorem clsRbad {a b : Nat} (h : a < 256) (hb : b < 256) (hab : ¬ a ≤ b) : readL (60 :: ((hexB a ++ 45 :: hexB b) ++ [62])) 0 0 = .error (2, 0) := by
  have h1 := hexB_not h 62 (by simp); have h2 := hexB_not hb 62 (by simp)
  exact cls_bad (x := hexB a ++ 45 :: hexB b) (by simp [h1, h2]) (by rw [classV_plain h, listV_row h hb, if_neg hab])
theorem clsT {a b : Nat} (h : a < 256) (hb : b < 256) : readL (60 :: ((hexB a ++ 44 :: (hexB b ++ 44 :: hexB a)) ++ [62])) 0 0 = .ok [{ kind := 1, at_ := 0, cls := rowB a a ||| rowB b b }, { kind := 10, at_ := 10 }] := by
  have h1 := hexB_not h 62 (by simp); have h2 := hexB_not hb 62 (by simp)
  exact cls_ok (x := hexB a ++ 44 :: (hexB b ++ 44 :: hexB a)) (by simp [h1, h2]) (by rw [classV_plain h, listV_three h hb])
theorem hex_get (n : Nat) (h : n < 16) (h2 : n < (⟨#[48, 49, 50, 51, 52, 53, 54, 55, 56, 57, 97, 98, 99, 100, 101, 102]⟩ : ByteArray).size) : (⟨#[48, 49, 50, 51, 52, 53, 54, 55, 56, 57, 97, 98, 99, 100, 101, 102]⟩ : ByteArray)[n]'h2 = hexD n := by
  have : ∀ n : Fin 16, (⟨#[48, 49, 50, 51, 52, 53, 54, 55, 56, 57, 97, 98, 99, 100, 101, 102]⟩ : ByteArray)[n.1]'(n.2) = hexD n.1 := by decide
  exact this ⟨n, h⟩
structure CuS (w0 w : World) : Prop where
  bel : Below w0.heap.size w0 w
  u8 : U8T w
theorem CuS.later {w0 w w' : World} (h : CuS w0 w) (hb : Below w.heap.size w w') : CuS w0 w' := ⟨h.bel.trans (hb.mono h.bel.size), h.u8.later hb⟩
theorem newb_new (w : World) (x y : UInt8) : NewB [x, y] (.slice (some ⟨w.heap.size, 0, none⟩) 2 2) (w.alloc (.cells #[.int .u8 (x.toNat : Int), .int .u8 (y.toNat : Int)] 5)) := ⟨_, rfl, Blk.new _ _ _⟩
def Cl4 (w : World) (b o : Nat) (s : BitVec 256) : Prop := w.cell? ⟨b, o + 2, none⟩ = some (.int .u64 (wd s 0)) ∧ w.cell? ⟨b, o + 3, none⟩ = some (.int .u64 (wd s 1)) ∧ w.cell? ⟨b, o + 4, none⟩ = some (.int .u64 (wd s 2)) ∧ w.cell? ⟨b, o + 5, none⟩ = some (.int .u64 (wd s 3))
theorem TRow.cl4 {w : World} {b o : Nat} {l : List Tok} (h : TRow w (some ⟨b, o, none⟩) l) (hl : 0 < l.length) : Cl4 w b o (l.getD 0 tok0).cls := by
  have g := h.at (i := 0) hl rfl
  rw [Nat.zero_mul, Nat.add_zero] at g
  obtain ⟨_, _, a0, a1, a2, a3, _⟩ := g
  exact ⟨a0, a1, a2, a3⟩
structure ClS (w0 : World) (b1 o1 b2 o2 b4 o4 : Nat) (l1 l2 l4 : List Tok) (w : World) : Prop where
  bel : Below w0.heap.size w0 w
  r1 : TRow w (some ⟨b1, o1, none⟩) l1
  r2 : TRow w (some ⟨b2, o2, none⟩) l2
  r4 : TRow w (some ⟨b4, o4, none⟩) l4
theorem ClS.later {w0 w w' : World} {b1 o1 b2 o2 b4 o4 : Nat} {l1 l2 l4 : List Tok} (h : ClS w0 b1 o1 b2 o2 b4 o4 l1 l2 l4 w) (hb : Below w.heap.size w w') : ClS w0 b1 o1 b2 o2 b4 o4 l1 l2 l4 w' :=
  ⟨h.bel.trans (hb.mono h.bel.size), h.r1.later hb, h.r2.later hb, h.r4.later hb⟩
structure ClS3 (w0 : World) (b1 o1 b2 o2 b3 o3 b4 o4 : Nat) (l1 l2 l3 l4 : List Tok) (w : World) : Prop where
  cs : ClS w0 b1 o1 b2 o2 b4 o4 l1 l2 l4 w
  r3 : TRow w (some ⟨b3, o3, none⟩) l3
theorem ClS3.later {w0 w w' : World} {b1 o1 b2 o2 b3 o3 b4 o4 : Nat} {l1 l2 l3 l4 : List Tok} (h : ClS3 w0 b1 o1 b2 o2 b3 o3 b4 o4 l1 l2 l3 l4 w) (hb : Below w.heap.size w w') : ClS3 w0 b1 o1 b2 o2 b3 o3 b4 o4 l1 l2 l3 l4 w' :=
  ⟨h.cs.later hb, h.r3.later hb⟩
set_option maxHeartbeats 16000000 in
set_option maxRecDepth 1000000 in
theorem lexclass_walk (a b : Nat) (ha : a < 256) (hb : b < 256) (w : World) (hT : U8T w) :
    Calls Tryd.prog 8 #[.int .u8 (a : Int), .int .u8 (b : Int)] w (Ans w (.bool true)) := by
  have HT := Lib.hid hT
  clear hT
  go_enter Tryd.func8, Tryd.ntmps8
  go_wp2_with fail
  refine (awake3_any _ HT.out).mono ?_; rintro e w1 ⟨rfl, hb⟩
  have HU : Hid (CuS w w1) := ⟨hb, HT.out.later hb⟩
  clear hb
  go_upto_region 4 with (fail)
  have HEA : Hid (hexB a = [hexD (a / 16), hexD (a % 16)]) := rfl
  obtain ⟨q, hq⟩ : ∃ q : Nat, q = a / 16 := ⟨_, rfl⟩
  obtain ⟨r, hr⟩ : ∃ r : Nat, r = a % 16 := ⟨_, rfl⟩
  have hqz : (a : Int) / 16 = (q : Int) := by omega
  have hrz : (a : Int) % 16 = (r : Int) := by omega
  have hq16 : (q : Int) < 16 := by omega
  have hr16 : (r : Int) < 16 := by omega
  have hd0 : q < (⟨#[48, 49, 50, 51, 52, 53, 54, 55, 56, 57, 97, 98, 99, 100, 101, 102]⟩ : ByteArray).size := by show _ < 16; omega
  have hd1 : r < (⟨#[48, 49, 50, 51, 52, 53, 54, 55, 56, 57, 97, 98, 99, 100, 101, 102]⟩ : ByteArray).size := by show _ < 16; omega
  have hg0 := hex_get q (by omega) hd0
  have hg1 := hex_get r (by omega) hd1
  rw [← hq, ← hr] at HEA
  generalize hexD q = x0 at *
  generalize hexD r = x1 at *
  clear hq hr
  refine wp_region_stable (S := (CuS w)) (hSt := fun _ _ h hb => h.later hb) (plan := [[(5, none)], [(0, none)], [(23, some 1)], [(22, some 0), (24, some 2)], [(5, none)], [(0, none)], [(27, some 5)], [(26, some 4), (28, some 6)], [(25, some 3), (29, some 7)], [(30, some 8)], [(31, some 9)]]) (by kernel_rfl) (by kernel_rfl) (by kernel_rfl) ?hS ?_
  rotate_left
  iterate 8 first
    | (refine chain_skip (by rfl) (by rfl) ?_)
    | (apply chain_want (by rfl)
       · intro act wx hS hr
         simp at hr
         go_simp
         (try go_ints)
         first
           | (obtain ⟨v, hr2, hrow⟩ := hr; simp only [hr2, Option.getD_some]; rw [conv_newb hrow]; exact Done.same (v := .string (bs [x0, x1])))
           | exact Done.same
      )
  (refine chain_rel (NewB [x0, x1]) (NewB.later [x0, x1]) (by rfl) ?_ ?_
   · intro act wx hS hr
     simp at hr
     all_goals go_simp
     exact Done.rel ((Below.refl _ _).alloc (Nat.le_refl _) _) (newb_new _ x0 x1)
  )
  iterate 2 first
    | (refine chain_skip (by rfl) (by rfl) ?_)
    | (apply chain_want (by rfl)
       · intro act wx hS hr
         simp at hr
         go_simp
         (try go_ints)
         first
           | (obtain ⟨v, hr2, hrow⟩ := hr; simp only [hr2, Option.getD_some]; rw [conv_newb hrow]; exact Done.same (v := .string (bs [x0, x1])))
           | exact Done.same
      )
  show ∀ w', _ → _
  intro wz hz
  simp [Act.put]
  case hS => exact HU.out
  intro v hv
  have HU2 := Lib.hid hz
  clear hz hv hqz hrz hq16 hr16 hd0 hd1 hg0 hg1 HU
  go_upto_region 5 with (fail)
  have HEB : Hid (hexB b = [hexD (b / 16), hexD (b % 16)]) := rfl
  obtain ⟨q, hq⟩ : ∃ q : Nat, q = b / 16 := ⟨_, rfl⟩
  obtain ⟨r, hr⟩ : ∃ r : Nat, r = b % 16 := ⟨_, rfl⟩
  have hqz : (b : Int) / 16 = (q : Int) := by omega
  have hrz : (b : Int) % 16 = (r : Int) := by omega
  have hq16 : (q : Int) < 16 := by omega
  have hr16 : (r : Int) < 16 := by omega
  have hd0 : q < (⟨#[48, 49, 50, 51, 52, 53, 54, 55, 56, 57, 97, 98, 99, 100, 101, 102]⟩ : ByteArray).size := by show _ < 16; omega
  have hd1 : r < (⟨#[48, 49, 50, 51, 52, 53, 54, 55, 56, 57, 97, 98, 99, 100, 101, 102]⟩ : ByteArray).size := by show _ < 16; omega
  have hg0 := hex_get q (by omega) hd0
  have hg1 := hex_get r (by omega) hd1
  rw [← hq, ← hr] at HEB
  generalize hexD q = y0 at *
  generalize hexD r = y1 at *
  clear hq hr
  refine wp_region_stable (S := (CuS w)) (hSt := fun _ _ h hb => h.later hb) (plan := [[(5, none)], [(1, none)], [(33, some 1)], [(32, some 0), (34, some 2)], [(5, none)], [(1, none)], [(37, some 5)], [(36, some 4), (38, some 6)], [(35, some 3), (39, some 7)], [(40, some 8)], [(41, some 9)]]) (by kernel_rfl) (by kernel_rfl) (by kernel_rfl) ?hS ?_
  rotate_left
  iterate 8 first
    | (refine chain_skip (by rfl) (by rfl) ?_)
    | (apply chain_want (by rfl)
       · intro act wx hS hr
         simp at hr
         go_simp
         (try go_ints)
         first
           | (obtain ⟨v, hr2, hrow⟩ := hr; simp only [hr2, Option.getD_some]; rw [conv_newb hrow]; exact Done.same (v := .string (bs [y0, y1])))
           | exact Done.same
      )
  (refine chain_rel (NewB [y0, y1]) (NewB.later [y0, y1]) (by rfl) ?_ ?_
   · intro act wx hS hr
     simp at hr
     all_goals go_simp
     exact Done.rel ((Below.refl _ _).alloc (Nat.le_refl _) _) (newb_new _ y0 y1)
  )
  iterate 2 first
    | (refine chain_skip (by rfl) (by rfl) ?_)
    | (apply chain_want (by rfl)
       · intro act wx hS hr
         simp at hr
         go_simp
         (try go_ints)
         first
           | (obtain ⟨v, hr2, hrow⟩ := hr; simp only [hr2, Option.getD_some]; rw [conv_newb hrow]; exact Done.same (v := .string (bs [y0, y1])))
           | exact Done.same
      )
  show ∀ w', _ → _
  intro wz hz
  simp [Act.put]
  case hS => exact HU2.out
  intro v hv
  have HU3 := Lib.hid hz
  clear hz hv hqz hrz hq16 hr16 hd0 hd1 hg0 hg1 HU2
  have e1 : (⟨#[60]⟩ : ByteArray) ++ bs [x0, x1] ++ ⟨#[62]⟩ = bs (60 :: ([x0, x1] ++ [62])) := by
    show bs [60] ++ bs [x0, x1] ++ bs [62] = _
    rw [bs_append, bs_append]; rfl
  have e2 : (⟨#[60, 94]⟩ : ByteArray) ++ bs [x0, x1] ++ ⟨#[62]⟩ = bs (60 :: 94 :: ([x0, x1] ++ [62])) := by
    show bs [60, 94] ++ bs [x0, x1] ++ bs [62] = _
    rw [bs_append, bs_append]; rfl
  have e3 : (⟨#[60]⟩ : ByteArray) ++ bs [x0, x1] ++ ⟨#[45]⟩ ++ bs [y0, y1] ++ ⟨#[62]⟩ = bs (60 :: (([x0, x1] ++ 45 :: [y0, y1]) ++ [62])) := by
    show bs [60] ++ bs [x0, x1] ++ bs [45] ++ bs [y0, y1] ++ bs [62] = _
    rw [bs_append, bs_append, bs_append, bs_append]; rfl
  have e4 : (⟨#[60]⟩ : ByteArray) ++ bs [x0, x1] ++ ⟨#[44]⟩ ++ bs [y0, y1] ++ ⟨#[44]⟩ ++ bs [x0, x1] ++ ⟨#[62]⟩ = bs (60 :: (([x0, x1] ++ 44 :: ([y0, y1] ++ 44 :: [x0, x1])) ++ [62])) := by
    show bs [60] ++ bs [x0, x1] ++ bs [44] ++ bs [y0, y1] ++ bs [44] ++ bs [x0, x1] ++ bs [62] = _
    rw [bs_append, bs_append, bs_append, bs_append, bs_append, bs_append]; rfl
  have z1 : (bs [x0, x1]).size = 2 := rfl
  have z2 : (bs [y0, y1]).size = 2 := rfl
  have R1 := Lib.hid (clsA ha)
  have R2 := Lib.hid (clsN ha)
  have R4 := Lib.hid (clsT ha hb)
  rw [HEA.out] at R1 R2
  rw [HEA.out, HEB.out] at R4
  go_wp2_with fail
  refine (read_ok R1.out _ HU3.out.u8 (by simp)).mono ?_; rintro e w4 ⟨A1, c1, rfl, hr1, hb1⟩
  obtain ⟨b1, o1, rfl, _, _⟩ := hr1 0 (by simp)
  have HU4 := Lib.hid (HU3.out.later hb1)
  have HR1 := Lib.hid hr1
  clear hr1 hb1
  go_wp2_with fail
  refine (read_ok R2.out _ HU4.out.u8 (by simp)).mono ?_; rintro e w5 ⟨A2, c2, rfl, hr2, hb2⟩
  obtain ⟨b2, o2, rfl, _, _⟩ := hr2 0 (by simp)
  have HU5 := Lib.hid (HU4.out.later hb2)
  have HR15 := Lib.hid (HR1.out.later hb2)
  have HR2 := Lib.hid hr2
  clear hr2 hb2
  by_cases hab : a ≤ b
  · have R3 := Lib.hid (clsR ha hb hab)
    rw [HEA.out, HEB.out] at R3
    have habz : (a : Int) ≤ (b : Int) := by omega
    go_wp2_with fail
    refine (read_ok R3.out _ HU5.out.u8 (by simp)).mono ?_; rintro e w6 ⟨A3, c3, rfl, hr3, hb3⟩
    obtain ⟨b3, o3, rfl, _, _⟩ := hr3 0 (by simp)
    have HU6 := Lib.hid (HU5.out.later hb3)
    have HR16 := Lib.hid (HR15.out.later hb3)
    have HR26 := Lib.hid (HR2.out.later hb3)
    have HR3 := Lib.hid hr3
    clear hr3 hb3
    go_wp2_with fail
    refine (read_ok R4.out _ HU6.out.u8 (by simp)).mono ?_; rintro e w7 ⟨A4, c4, rfl, hr4, hb4⟩
    obtain ⟨b4, o4, rfl, _, _⟩ := hr4 0 (by simp)
    have HC : Hid (ClS3 w b1 o1 b2 o2 b3 o3 b4 o4 _ _ _ _ w7) := ⟨⟨(HU6.out.later hb4).bel, HR16.out.later hb4, HR26.out.later hb4, hr4⟩, HR3.out.later hb4⟩
    clear hr4 hb4 R1 R2 R3 R4 HR1 HR15 HR16 HR2 HR26 HR3
    have ROWAA : Hid (∀ w, Calls Tryd.prog 19 #[.int .u8 (a : Int), .int .u8 (a : Int)] w (Ans w (cls (rowB a a)))) := fun w => refrow_any a a ha ha w
    have ROWBB : Hid (∀ w, Calls Tryd.prog 19 #[.int .u8 (b : Int), .int .u8 (b : Int)] w (Ans w (cls (rowB b b)))) := fun w => refrow_any b b hb hb w
    have ROWAB : Hid (∀ w, Calls Tryd.prog 19 #[.int .u8 (a : Int), .int .u8 (b : Int)] w (Ans w (cls (rowB a b)))) := fun w => refrow_any a b ha hb w
    have NOTA := Lib.hid (fun w => refnot_any (rowB a a) w)
    have JOIN := Lib.hid (fun w => refjoin_any (rowB a a) (rowB b b) w)
    have heq := eql_cls
    have hg1 := eqGuard_eql
    generalize rowB a a ||| rowB b b = sj at *
    generalize ~~~ (rowB a a) = sn at *
    generalize rowB a a = sa at *
    generalize rowB b b = sb at *
    generalize rowB a b = sab at *
    go_upto_region 12 with (fail)
    refine wp_region_stable (S := (ClS3 w b1 o1 b2 o2 b3 o3 b4 o4 [{ kind := 1, at_ := 0, cls := sa }, { kind := 10, at_ := 4 }] [{ kind := 1, at_ := 0, cls := sn }, { kind := 10, at_ := 5 }] [{ kind := 1, at_ := 0, cls := sab }, { kind := 10, at_ := 7 }] [{ kind := 1, at_ := 0, cls := sj }, { kind := 10, at_ := 10 }])) (hSt := fun _ _ h hb => h.later hb) (plan := [[(8, none)], [(124, some 0)], [(125, some 1)], [(126, some 2)], [(0, none)], [(0, none)], [(128, some 4), (129, some 5)], [(127, some 3), (130, some 6)], [(131, some 7)], [(11, none)], [(133, some 9)], [(134, some 10)], [(135, some 11)], [(8, none)], [(137, some 13)], [(138, some 14)], [(139, some 15)], [(140, some 16)], [(136, some 12), (141, some 17)], [(132, some 8), (142, some 18)], [(143, some 19)], [(17, none)], [(145, some 21)], [(146, some 22)], [(147, some 23)], [(0, none)], [(0, none)], [(149, some 25), (150, some 26)], [(1, none)], [(1, none)], [(152, some 28), (153, some 29)], [(151, some 27), (154, some 30)], [(148, some 24), (155, some 31)], [(144, some 20), (156, some 32)], [(157, some 33)], [(15, none)], [(159, some 35)], [(160, some 36)], [(14, none)], [(162, some 38)], [(163, some 39)], [(164, some 40)], [(14, none)], [(166, some 42)], [(167, some 43)], [(168, some 44)], [(0, none)], [(1, none)], [(170, some 46), (171, some 47)], [(169, some 45), (172, some 48)], [(165, some 41), (173, some 49)], [(161, some 37), (174, some 50)], [(158, some 34), (175, some 51)], [(176, some 52)]]) (by kernel_rfl) (by kernel_rfl) (by kernel_rfl) ?hS ?_
    rotate_left
    iterate 54 first
      | (refine chain_skip (by rfl) (by rfl) ?_)
      | (apply chain_want (by rfl)
         · intro act wx hS hr
           simp at hr
           have g1 : Cl4 _ _ _ sa := hS.cs.r1.cl4 (by simp)
           have g2 : Cl4 _ _ _ sn := hS.cs.r2.cl4 (by simp)
           have g3 : Cl4 _ _ _ sab := hS.r3.cl4 (by simp)
           have g4 : Cl4 _ _ _ sj := hS.cs.r4.cl4 (by simp)
           unfold Cl4 at g1 g2 g3 g4
           go_simp
           (try go_ints)
           first
             | exact Done.same (v := cls sab)
             | exact Done.same (v := cls sa)
             | exact Done.same (v := cls sn)
             | exact Done.same (v := cls sj)
             | ((with_reducible refine (ROWAA.out _).mono ?_); rintro e w' ⟨rfl, hb⟩; exact Done.mk hb)
             | ((with_reducible refine (ROWBB.out _).mono ?_); rintro e w' ⟨rfl, hb⟩; exact Done.mk hb)
             | ((with_reducible refine (ROWAB.out _).mono ?_); rintro e w' ⟨rfl, hb⟩; exact Done.mk hb)
             | ((with_reducible refine (NOTA.out _).mono ?_); rintro e w' ⟨rfl, hb⟩; exact Done.mk hb)
             | ((with_reducible refine (JOIN.out _).mono ?_); rintro e w' ⟨rfl, hb⟩; exact Done.mk hb)
             | exact Done.same
        )
    show ∀ w', _ → _
    intro wz hz
    simp [Act.put]
    case hS => exact HC.out
    have HZ := Lib.hid hz
    clear hz
    go_wp2
    go_ret
    exact ⟨rfl, HZ.out.cs.bel⟩
  · have R3 := Lib.hid (clsRbad ha hb hab)
    rw [HEA.out, HEB.out] at R3
    have habz : ¬ (a : Int) ≤ (b : Int) := by omega
    go_wp2_with fail
    refine (read_bad R3.out _ HU5.out.u8 (by simp)).mono ?_; rintro e w6 ⟨rfl, hb3⟩
    have HU6 := Lib.hid (HU5.out.later hb3)
    have HR16 := Lib.hid (HR15.out.later hb3)
    have HR26 := Lib.hid (HR2.out.later hb3)
    clear hb3
    go_wp2_with fail
    refine (read_ok R4.out _ HU6.out.u8 (by simp)).mono ?_; rintro e w7 ⟨A4, c4, rfl, hr4, hb4⟩
    obtain ⟨b4, o4, rfl, _, _⟩ := hr4 0 (by simp)
    have HC : Hid (ClS w b1 o1 b2 o2 b4 o4 _ _ _ w7) := ⟨(HU6.out.later hb4).bel, HR16.out.later hb4, HR26.out.later hb4, hr4⟩
    clear hr4 hb4 R1 R2 R3 R4 HR1 HR15 HR16 HR2 HR26
    have ROWAA : Hid (∀ w, Calls Tryd.prog 19 #[.int .u8 (a : Int), .int .u8 (a : Int)] w (Ans w (cls (rowB a a)))) := fun w => refrow_any a a ha ha w
    have ROWBB : Hid (∀ w, Calls Tryd.prog 19 #[.int .u8 (b : Int), .int .u8 (b : Int)] w (Ans w (cls (rowB b b)))) := fun w => refrow_any b b hb hb w
    have ROWAB : Hid (∀ w, Calls Tryd.prog 19 #[.int .u8 (a : Int), .int .u8 (b : Int)] w (Ans w (cls (rowB a b)))) := fun w => refrow_any a b ha hb w
    have NOTA := Lib.hid (fun w => refnot_any (rowB a a) w)
    have JOIN := Lib.hid (fun w => refjoin_any (rowB a a) (rowB b b) w)
    have heq := eql_cls
    have hg1 := eqGuard_eql
    generalize rowB a a ||| rowB b b = sj at *
    generalize ~~~ (rowB a a) = sn at *
    generalize rowB a a = sa at *
    generalize rowB b b = sb at *
    generalize rowB a b = sab at *
    go_upto_region 12 with (fail)
    refine wp_region_stable (S := (ClS w b1 o1 b2 o2 b4 o4 [{ kind := 1, at_ := 0, cls := sa }, { kind := 10, at_ := 4 }] [{ kind := 1, at_ := 0, cls := sn }, { kind := 10, at_ := 5 }] [{ kind := 1, at_ := 0, cls := sj }, { kind := 10, at_ := 10 }])) (hSt := fun _ _ h hb => h.later hb) (plan := [[(8, none)], [(124, some 0)], [(125, some 1)], [(126, some 2)], [(0, none)], [(0, none)], [(128, some 4), (129, some 5)], [(127, some 3), (130, some 6)], [(131, some 7)], [(11, none)], [(133, some 9)], [(134, some 10)], [(135, some 11)], [(8, none)], [(137, some 13)], [(138, some 14)], [(139, some 15)], [(140, some 16)], [(136, some 12), (141, some 17)], [(132, some 8), (142, some 18)], [(143, some 19)], [(17, none)], [(145, some 21)], [(146, some 22)], [(147, some 23)], [(0, none)], [(0, none)], [(149, some 25), (150, some 26)], [(1, none)], [(1, none)], [(152, some 28), (153, some 29)], [(151, some 27), (154, some 30)], [(148, some 24), (155, some 31)], [(144, some 20), (156, some 32)], [(157, some 33)], [(15, none)], [(159, some 35)], [(160, some 36)], [(14, none)], [(162, some 38)], [(163, some 39)], [(164, some 40)], [(14, none)], [(166, some 42)], [(167, some 43)], [(168, some 44)], [(0, none)], [(1, none)], [(170, some 46), (171, some 47)], [(169, some 45), (172, some 48)], [(165, some 41), (173, some 49)], [(161, some 37), (174, some 50)], [(158, some 34), (175, some 51)], [(176, some 52)]]) (by kernel_rfl) (by kernel_rfl) (by kernel_rfl) ?hS ?_
    rotate_left
    iterate 54 first
      | (refine chain_skip (by rfl) (by rfl) ?_)
      | (apply chain_want (by rfl)
         · intro act wx hS hr
           simp at hr
           have g1 : Cl4 _ _ _ sa := hS.r1.cl4 (by simp)
           have g2 : Cl4 _ _ _ sn := hS.r2.cl4 (by simp)
           have g4 : Cl4 _ _ _ sj := hS.r4.cl4 (by simp)
           unfold Cl4 at g1 g2 g4
           go_simp
           (try go_ints)
           first
             | exact Done.same (v := cls sa)
             | exact Done.same (v := cls sn)
             | exact Done.same (v := cls sj)
             | ((with_reducible refine (ROWAA.out _).mono ?_); rintro e w' ⟨rfl, hb⟩; exact Done.mk hb)
             | ((with_reducible refine (ROWBB.out _).mono ?_); rintro e w' ⟨rfl, hb⟩; exact Done.mk hb)
             | ((with_reducible refine (ROWAB.out _).mono ?_); rintro e w' ⟨rfl, hb⟩; exact Done.mk hb)
             | ((with_reducible refine (NOTA.out _).mono ?_); rintro e w' ⟨rfl, hb⟩; exact Done.mk hb)
             | ((with_reducible refine (JOIN.out _).mono ?_); rintro e w' ⟨rfl, hb⟩; exact Done.mk hb)
             | exact Done.same
        )
    show ∀ w', _ → _
    intro wz hz
    simp [Act.put]
    case hS => exact HC.out
    have HZ := Lib.hid hz
    clear hz
    go_wp2
    go_ret
    exact ⟨rfl, HZ.out.bel⟩
end Go.Proofs.YtdglimajelbflaaDoor
