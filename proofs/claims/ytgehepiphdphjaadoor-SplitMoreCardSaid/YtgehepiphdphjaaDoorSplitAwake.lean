/- The anchor of layer 2: the answers that the document fixes are given. -/
import Derived.Test.YtgehepiphdphjaaDoorSplitRefine
import Derived.Test.YtgehepiphdphjaaDoorSplitSame
namespace Go.Proofs.YtgehepiphdphjaaDoor
open Go Go.RowKit
set_option linter.unusedVariables false

theorem r35 : rowB 3 5 = 56#256 := by decide +kernel
theorem r59 : rowB 5 9 = 992#256 := by decide +kernel
theorem heads_aw : headsL [rowB 3 5, rowB 5 9] = [0, 3, 5, 6] := by rw [r35, r59]; decide +kernel
theorem parts_aw : partsL [rowB 3 5, rowB 5 9] = [~~~(rowB 3 9), rowB 3 4, rowB 5 5, rowB 6 9] := by
  unfold partsL; rw [heads_aw, r35, r59]; decide +kernel
theorem parts_nil : partsL [] = [rowB 0 255] := by decide +kernel
theorem refine_aw : refineL [rowB 5 9, rowB 3 5] (rowB 3 5) = [rowB 3 5, rowB 5 5, rowB 6 9] := by decide +kernel

/-- A new row of few classes. -/
theorem row_new1 (x : BitVec 256) (w : World) : IsRow [x] (.slice (some ⟨w.heap.size, 0, none⟩) 1 1) (w.alloc (.cells (cells4 x) 29)) := by
  refine ⟨_, 1, rfl, fun i hi => ⟨_, 0, rfl, by simp, fun j hj => ?_⟩⟩
  rw [(Blk.new w (cells4 x) 29).cell]
  have : i = 0 := by simp at hi; omega
  subst this
  rcases (by omega : j = 0 ∨ j = 1 ∨ j = 2 ∨ j = 3) with rfl | rfl | rfl | rfl <;> rfl
theorem row_new2 (x y : BitVec 256) (w : World) : IsRow [x, y] (.slice (some ⟨w.heap.size, 0, none⟩) 2 2) (w.alloc (.cells (cells8 x y) 29)) := by
  refine ⟨_, 2, rfl, fun i hi => ⟨_, 0, rfl, by simp, fun j hj => ?_⟩⟩
  rw [(Blk.new w (cells8 x y) 29).cell]
  have : i = 0 ∨ i = 1 := by simp at hi; omega
  rcases this with rfl | rfl <;> rcases (by omega : j = 0 ∨ j = 1 ∨ j = 2 ∨ j = 3) with rfl | rfl | rfl | rfl <;> rfl
def cells12 (x y z : BitVec 256) : Array Value := #[.int .u64 (wd x 0), .int .u64 (wd x 1), .int .u64 (wd x 2), .int .u64 (wd x 3), .int .u64 (wd y 0), .int .u64 (wd y 1), .int .u64 (wd y 2), .int .u64 (wd y 3), .int .u64 (wd z 0), .int .u64 (wd z 1), .int .u64 (wd z 2), .int .u64 (wd z 3)]
theorem row_new3 (x y z : BitVec 256) (w : World) : IsRow [x, y, z] (.slice (some ⟨w.heap.size, 0, none⟩) 3 3) (w.alloc (.cells (cells12 x y z) 29)) := by
  refine ⟨_, 3, rfl, fun i hi => ⟨_, 0, rfl, by simp, fun j hj => ?_⟩⟩
  rw [(Blk.new w (cells12 x y z) 29).cell]
  have : i = 0 ∨ i = 1 ∨ i = 2 := by simp at hi; omega
  rcases this with rfl | rfl | rfl <;> rcases (by omega : j = 0 ∨ j = 1 ∨ j = 2 ∨ j = 3) with rfl | rfl | rfl | rfl <;> rfl
theorem bytes_new (w : World) : IsBytes [0, 3, 5, 6] (.slice (some ⟨w.heap.size, 0, none⟩) 4 4) (w.alloc (.cells #[.int .u8 0, .int .u8 3, .int .u8 5, .int .u8 6] 5)) := by
  refine ⟨_, 4, rfl, by simp, by simp, fun i hi => ⟨_, 0, rfl, by simp, ?_⟩⟩
  rw [(Blk.new w #[.int .u8 0, .int .u8 3, .int .u8 5, .int .u8 6] 5).cell]
  have : i = 0 ∨ i = 1 ∨ i = 2 ∨ i = 3 := by simp at hi; omega
  rcases this with rfl | rfl | rfl | rfl <;> rfl

structure AwS (w0 : World) (b1 b2 : Nat) (A B : Option Addr) (w : World) : Prop where
  below : Below w0.heap.size w0 w
  deb : Deb w
  box1 : Blk w b1 (cells4 (rowB 3 5)) 29
  box2 : Blk w b2 (cells4 (rowB 5 9)) 29
  p : LRow w A [~~~(rowB 3 9), rowB 3 4, rowB 5 5, rowB 6 9]
  q : LRow w B [rowB 0 255]
theorem AwS.later {w0 w w' : World} {b1 b2 : Nat} {A B : Option Addr} (h : AwS w0 b1 b2 A B w) (hb : Below w.heap.size w w') : AwS w0 b1 b2 A B w' :=
  ⟨h.below.trans (hb.mono h.below.size), h.deb.below hb, h.box1.later hb, h.box2.later hb, h.p.later hb, h.q.later hb⟩

/-- Calls on rows, wherever they stand. -/
theorem parts_row (l : List (BitVec 256)) (v : Value) (w : World) (hv : IsRow l v w) (hd : Deb w) (hl : l.length < 1073741824) : Calls Tryd.prog 10 #[v] w (AnsRow w (partsL l)) := by
  obtain ⟨a, cap, rfl, hr⟩ := hv; exact parts_any l a cap w hr hd hl
theorem heads_row (l : List (BitVec 256)) (v : Value) (w : World) (hv : IsRow l v w) (hd : Deb w) (hl : l.length < 1073741824) : Calls Tryd.prog 11 #[v] w (AnsBytes w (headsL l)) := by
  obtain ⟨a, cap, rfl, hr⟩ := hv; exact heads_any l a cap w hr hd hl
theorem refine_row (l : List (BitVec 256)) (s : BitVec 256) (v : Value) (w : World) (hv : IsRow l v w) (hd : Deb w) (hl : l.length < 268435456) : Calls Tryd.prog 18 #[v, cls s] w (AnsRow w (refineL l s)) := by
  obtain ⟨a, cap, rfl, hr⟩ := hv; exact refine_any l a cap s w hr hd hl
theorem same_row (l m : List (BitVec 256)) (v u : Value) (w : World) (hv : IsRow l v w) (hu : IsRow m u w) (hl : l.length < 1073741824) (hm : m.length < 1073741824) : Calls Tryd.prog 17 #[v, u] w (Ans w (.bool (l == m))) := by
  obtain ⟨a, cap, rfl, hr⟩ := hv; obtain ⟨b, cap2, rfl, hr2⟩ := hu; exact refsame_any l m a b cap cap2 w hr hr2 hl hm
theorem bytes_row (l m : List Nat) (v u : Value) (w : World) (hv : IsBytes l v w) (hu : IsBytes m u w) (hl : l.length < 1073741824) (hm : m.length < 1073741824) : Calls Tryd.prog 38 #[v, u] w (Ans w (.bool (l == m))) := by
  obtain ⟨a, cap, rfl, hr⟩ := hv; obtain ⟨b, cap2, rfl, hr2⟩ := hu; exact refbytes_any l m a b cap cap2 w hr hr2 hl hm

theorem row_new2' {b : Nat} (x y : BitVec 256) (w : World) (h : b = w.heap.size) : IsRow [x, y] (.slice (some ⟨b, 0, none⟩) 2 2) (w.alloc (.cells (cells8 x y) 29)) := by subst h; exact row_new2 x y w

/-- The cells of the i-th of a row that stands at b, from o on. -/
def At (w : World) (b o : Nat) (s : BitVec 256) : Prop := w.cell? ⟨b, o, none⟩ = some (.int .u64 (wd s 0)) ∧ w.cell? ⟨b, o + 1, none⟩ = some (.int .u64 (wd s 1)) ∧ w.cell? ⟨b, o + 2, none⟩ = some (.int .u64 (wd s 2)) ∧ w.cell? ⟨b, o + 3, none⟩ = some (.int .u64 (wd s 3))
theorem LRow.at {w : World} {b o : Nat} {l : List (BitVec 256)} (h : LRow w (some ⟨b, o, none⟩) l) (i : Nat) (s : BitVec 256) (hi : i < l.length) (hs : l.getD i 0 = s) : At w b (o + i * 4) s := by
  obtain ⟨b', o', e, _, h1, h2, h3, h4⟩ := h.cells i hi
  cases e; rw [← hs]; exact ⟨h1, h2, h3, h4⟩

set_option maxRecDepth 1000000 in
set_option maxHeartbeats 16000000 in
theorem awake2_any (w : World) (hd : Deb w) : Calls Tryd.prog 9 #[] w (Ans w (.bool true)) := by
  have HD := Lib.hid hd
  clear hd
  have heq := eql_cls
  have hg1 := eqGuard_eql
  have row35 : ∀ w, Calls Tryd.prog 16 #[.int .u8 3, .int .u8 5] w (Ans w (cls (rowB 3 5))) := fun w => refrow_any 3 5 (by decide) (by decide) w
  have row59 : ∀ w, Calls Tryd.prog 16 #[.int .u8 5, .int .u8 9] w (Ans w (cls (rowB 5 9))) := fun w => refrow_any 5 9 (by decide) (by decide) w
  have row34 : ∀ w, Calls Tryd.prog 16 #[.int .u8 3, .int .u8 4] w (Ans w (cls (rowB 3 4))) := fun w => refrow_any 3 4 (by decide) (by decide) w
  have row55 : ∀ w, Calls Tryd.prog 16 #[.int .u8 5, .int .u8 5] w (Ans w (cls (rowB 5 5))) := fun w => refrow_any 5 5 (by decide) (by decide) w
  have row69 : ∀ w, Calls Tryd.prog 16 #[.int .u8 6, .int .u8 9] w (Ans w (cls (rowB 6 9))) := fun w => refrow_any 6 9 (by decide) (by decide) w
  have row0 : ∀ w, Calls Tryd.prog 16 #[.int .u8 0, .int .u8 255] w (Ans w (cls (rowB 0 255))) := fun w => refrow_any 0 255 (by decide) (by decide) w
  have hp0 : ∀ w, Deb w → Calls Tryd.prog 10 #[.slice none 0 0] w (AnsRow w [rowB 0 255]) := fun w hd => by
    have := parts_any [] none 0 w (LRow.nil _ _) hd (by simp)
    rw [parts_nil] at this; exact this
  go_enter Tryd.func9, Tryd.ntmps9
  go_wp2_with fail
  refine (row35 w).mono ?_; rintro e w1 ⟨rfl, hb1⟩
  unfold cls
  go_wp2_with fail
  refine (row59 _).mono ?_; rintro e w2 ⟨rfl, hb2⟩
  have q1 := Blk.new w1 (cells4 (rowB 3 5)) 29
  have q2 := (q1.later hb2).alloc (.cells (cells4 (rowB 5 9)) 29)
  have q3 := Blk.new w2 (cells4 (rowB 5 9)) 29
  have z1 : Below w.heap.size w (w1.alloc (.cells (cells4 (rowB 3 5)) 29)) := hb1.alloc hb1.size _
  have z2 : Below w.heap.size w (w2.alloc (.cells (cells4 (rowB 5 9)) 29)) := (z1.trans (hb2.mono z1.size)).alloc (Nat.le_trans z1.size hb2.size) _
  have n2 : w1.heap.size < w2.heap.size := (q1.later hb2).lt
  have g1 := (q1.later hb2).cells
  have HQ := Lib.hid (And.intro z2 (And.intro q2 q3))
  clear z1 z2 q1 q2 q3 hb1 hb2
  unfold cls
  go_wp2_with fail
  have hrn := row_new2' (b := w2.heap.size + 1) (rowB 3 5) (rowB 5 9) (w2.alloc (.cells (cells4 (rowB 5 9)) 29)) (by simp)
  have z3 : Below (w2.alloc (.cells (cells4 (rowB 5 9)) 29)).heap.size (w2.alloc (.cells (cells4 (rowB 5 9)) 29)) ((w2.alloc (.cells (cells4 (rowB 5 9)) 29)).alloc (.cells (cells8 (rowB 3 5) (rowB 5 9)) 29)) := (Below.refl _ _).alloc (Nat.le_refl _) _
  have z4 := HQ.out.1.trans (z3.mono HQ.out.1.size)
  refine (parts_row _ _ _ hrn (HD.out.below z4) (by simp)).mono ?_
  rintro e w3 ⟨v, rfl, ⟨A, capA, rfl, hrA⟩, hb3⟩
  rw [parts_aw] at hrA ⊢
  have z5 := z4.trans (hb3.mono z4.size)
  have HZ5 := Lib.hid (And.intro z5 (And.intro ((HQ.out.2.1.later z3).later hb3) ((HQ.out.2.2.later z3).later hb3)))
  have HRA := Lib.hid hrA
  clear z3 z4 z5 hrn hb3 hrA g1
  go_wp2_with fail
  refine (hp0 _ (HD.out.below HZ5.out.1)).mono ?_
  rintro e w4 ⟨v, rfl, ⟨B, capB, rfl, hrB⟩, hb4⟩
  have HS : Hid (AwS w w1.heap.size w2.heap.size A B w4) := ⟨HZ5.out.1.trans (hb4.mono HZ5.out.1.size), (HD.out.below HZ5.out.1).below hb4, HZ5.out.2.1.later hb4, HZ5.out.2.2.later hb4, HRA.out.later hb4, hrB⟩
  clear hb4 hrB hp0 row35
  obtain ⟨bA, oA, hA, -⟩ := HRA.out.cells 0 (by simp)
  obtain ⟨bB, oB, hB, -⟩ := HS.out.q.cells 0 (by simp)
  subst hA hB
  go_upto_region 5 with (fail)
  refine wp_region_stable (S := (AwS w w1.heap.size w2.heap.size (some ⟨bA, oA, none⟩) (some ⟨bB, oB, none⟩))) (hSt := fun _ _ h hb => h.later hb) (plan := [[(3, none)], [(12, some 0)], [(13, some 1)], [(14, some 2)], [(3, none)], [(16, some 4)], [(17, some 5)], [], [(18, some 6), (19, some 7)], [(15, some 3), (20, some 8)], [(21, some 9)], [(3, none)], [(23, some 11)], [(24, some 12)], [], [(25, some 13), (26, some 14)], [(22, some 10), (27, some 15)], [(28, some 16)], [(3, none)], [(30, some 18)], [(31, some 19)], [], [(32, some 20), (33, some 21)], [(29, some 17), (34, some 22)], [(35, some 23)], [(4, none)], [(37, some 25)], [(38, some 26)], [(36, some 24), (39, some 27)], [(40, some 28)], [(4, none)], [(42, some 30)], [(43, some 31)], [], [(44, some 32), (45, some 33)], [(41, some 29), (46, some 34)], [(47, some 35)], [(1, none)], [(2, none)], [(49, some 37), (50, some 38)], [(51, some 39)], [], [(52, some 40), (53, some 41)], [(48, some 36), (54, some 42)], [(55, some 43)], [(2, none)], [(1, none)], [(57, some 45), (58, some 46)], [(1, none)], [(59, some 47), (60, some 48)], [(1, none)], [], [], [(62, some 50), (63, some 51), (64, some 52)], [(61, some 49), (65, some 53)], [(56, some 44), (66, some 54)], [(67, some 55)]]) (by kernel_rfl) (by kernel_rfl) (by kernel_rfl) ?hS ?_
  rotate_left
  iterate 39 first
    | (refine chain_skip (by rfl) (by rfl) ?_)
    | (apply chain_want (by rfl)
       · intro act wx hS hr
         simp at hr
         have h1 := hS.box1.cells
         have h2 := hS.box2.cells
         have p1 := hS.p.at 1 (rowB 3 4) (by simp) rfl
         have p2 := hS.p.at 2 (rowB 5 5) (by simp) rfl
         have p3 := hS.p.at 3 (rowB 6 9) (by simp) rfl
         have p4 := hS.q.at 0 (rowB 0 255) (by simp) rfl
         unfold At at p1 p2 p3 p4
         simp only [Nat.reduceMul, Nat.add_zero] at p1 p2 p3 p4
         go_simp
         (try go_ints)
         first
           | exact Done.same (v := cls _)
           | ((with_reducible refine (row34 _).mono ?_); rintro e w' ⟨rfl, hb⟩; exact Done.mk hb)
           | ((with_reducible refine (row55 _).mono ?_); rintro e w' ⟨rfl, hb⟩; exact Done.mk hb)
           | ((with_reducible refine (row69 _).mono ?_); rintro e w' ⟨rfl, hb⟩; exact Done.mk hb)
           | ((with_reducible refine (row0 _).mono ?_); rintro e w' ⟨rfl, hb⟩; exact Done.mk hb)
           | (obtain ⟨⟨v1, e1, hv1⟩, v2, e2, hv2⟩ := hr; simp only [e1, e2]; refine (bytes_row [0, 3, 5, 6] [0, 3, 5, 6] _ _ _ hv1 hv2 (by simp) (by simp)).mono ?_; rintro e w' ⟨rfl, hb⟩; exact Done.mk hb)
           | (obtain ⟨⟨v1, e1, hv1⟩, v2, e2, hv2⟩ := hr; simp only [e1, e2]; refine (same_row [rowB 3 5, rowB 5 5, rowB 6 9] [rowB 3 5, rowB 5 5, rowB 6 9] _ _ _ hv1 hv2 (by simp) (by simp)).mono ?_; rintro e w' ⟨rfl, hb⟩; exact Done.mk (v := .bool true) hb)
           | exact Done.same
      )
  (refine chain_rel (IsRow [rowB 3 5, rowB 5 9]) (IsRow.later _) (by rfl) ?_ ?_
   · intro act wx hS hr
     simp at hr
     have h1 := hS.box1.cells
     have h2 := hS.box2.cells
     have p1 := hS.p.at 1 (rowB 3 4) (by simp) rfl
     have p2 := hS.p.at 2 (rowB 5 5) (by simp) rfl
     have p3 := hS.p.at 3 (rowB 6 9) (by simp) rfl
     have p4 := hS.q.at 0 (rowB 0 255) (by simp) rfl
     unfold At at p1 p2 p3 p4
     simp only [Nat.reduceMul, Nat.add_zero] at p1 p2 p3 p4
     unfold cls at hr
     all_goals go_simp
     exact Done.rel ((Below.refl _ _).alloc (Nat.le_refl _) _) (row_new2 _ _ _)
  )
  (refine chain_rel (IsBytes [0, 3, 5, 6]) (IsBytes.later _) (by rfl) ?_ ?_
   · intro act wx hS hr
     simp at hr
     have h1 := hS.box1.cells
     have h2 := hS.box2.cells
     have p1 := hS.p.at 1 (rowB 3 4) (by simp) rfl
     have p2 := hS.p.at 2 (rowB 5 5) (by simp) rfl
     have p3 := hS.p.at 3 (rowB 6 9) (by simp) rfl
     have p4 := hS.q.at 0 (rowB 0 255) (by simp) rfl
     unfold At at p1 p2 p3 p4
     simp only [Nat.reduceMul, Nat.add_zero] at p1 p2 p3 p4
     all_goals go_simp
     obtain ⟨v, hr2, hv⟩ := hr
     simp only [hr2]
     refine (heads_row _ _ _ hv hS.deb (by simp)).mono ?_
     rintro e w' ⟨v', rfl, hv', hb⟩
     rw [heads_aw] at hv'
     exact Done.rel hb hv'
  )
  (refine chain_rel (IsBytes [0, 3, 5, 6]) (IsBytes.later _) (by rfl) ?_ ?_
   · intro act wx hS hr
     simp at hr
     have h1 := hS.box1.cells
     have h2 := hS.box2.cells
     have p1 := hS.p.at 1 (rowB 3 4) (by simp) rfl
     have p2 := hS.p.at 2 (rowB 5 5) (by simp) rfl
     have p3 := hS.p.at 3 (rowB 6 9) (by simp) rfl
     have p4 := hS.q.at 0 (rowB 0 255) (by simp) rfl
     unfold At at p1 p2 p3 p4
     simp only [Nat.reduceMul, Nat.add_zero] at p1 p2 p3 p4
     all_goals go_simp
     exact Done.rel ((Below.refl _ _).alloc (Nat.le_refl _) _) (bytes_new _)
  )
  iterate 5 first
    | (refine chain_skip (by rfl) (by rfl) ?_)
    | (apply chain_want (by rfl)
       · intro act wx hS hr
         simp at hr
         have h1 := hS.box1.cells
         have h2 := hS.box2.cells
         have p1 := hS.p.at 1 (rowB 3 4) (by simp) rfl
         have p2 := hS.p.at 2 (rowB 5 5) (by simp) rfl
         have p3 := hS.p.at 3 (rowB 6 9) (by simp) rfl
         have p4 := hS.q.at 0 (rowB 0 255) (by simp) rfl
         unfold At at p1 p2 p3 p4
         simp only [Nat.reduceMul, Nat.add_zero] at p1 p2 p3 p4
         go_simp
         (try go_ints)
         first
           | exact Done.same (v := cls _)
           | ((with_reducible refine (row34 _).mono ?_); rintro e w' ⟨rfl, hb⟩; exact Done.mk hb)
           | ((with_reducible refine (row55 _).mono ?_); rintro e w' ⟨rfl, hb⟩; exact Done.mk hb)
           | ((with_reducible refine (row69 _).mono ?_); rintro e w' ⟨rfl, hb⟩; exact Done.mk hb)
           | ((with_reducible refine (row0 _).mono ?_); rintro e w' ⟨rfl, hb⟩; exact Done.mk hb)
           | (obtain ⟨⟨v1, e1, hv1⟩, v2, e2, hv2⟩ := hr; simp only [e1, e2]; refine (bytes_row [0, 3, 5, 6] [0, 3, 5, 6] _ _ _ hv1 hv2 (by simp) (by simp)).mono ?_; rintro e w' ⟨rfl, hb⟩; exact Done.mk hb)
           | (obtain ⟨⟨v1, e1, hv1⟩, v2, e2, hv2⟩ := hr; simp only [e1, e2]; refine (same_row [rowB 3 5, rowB 5 5, rowB 6 9] [rowB 3 5, rowB 5 5, rowB 6 9] _ _ _ hv1 hv2 (by simp) (by simp)).mono ?_; rintro e w' ⟨rfl, hb⟩; exact Done.mk (v := .bool true) hb)
           | exact Done.same
      )
  (refine chain_rel (IsRow [rowB 5 9, rowB 3 5]) (IsRow.later _) (by rfl) ?_ ?_
   · intro act wx hS hr
     simp at hr
     have h1 := hS.box1.cells
     have h2 := hS.box2.cells
     have p1 := hS.p.at 1 (rowB 3 4) (by simp) rfl
     have p2 := hS.p.at 2 (rowB 5 5) (by simp) rfl
     have p3 := hS.p.at 3 (rowB 6 9) (by simp) rfl
     have p4 := hS.q.at 0 (rowB 0 255) (by simp) rfl
     unfold At at p1 p2 p3 p4
     simp only [Nat.reduceMul, Nat.add_zero] at p1 p2 p3 p4
     unfold cls at hr
     all_goals go_simp
     exact Done.rel ((Below.refl _ _).alloc (Nat.le_refl _) _) (row_new2 _ _ _)
  )
  iterate 1 first
    | (refine chain_skip (by rfl) (by rfl) ?_)
    | (apply chain_want (by rfl)
       · intro act wx hS hr
         simp at hr
         have h1 := hS.box1.cells
         have h2 := hS.box2.cells
         have p1 := hS.p.at 1 (rowB 3 4) (by simp) rfl
         have p2 := hS.p.at 2 (rowB 5 5) (by simp) rfl
         have p3 := hS.p.at 3 (rowB 6 9) (by simp) rfl
         have p4 := hS.q.at 0 (rowB 0 255) (by simp) rfl
         unfold At at p1 p2 p3 p4
         simp only [Nat.reduceMul, Nat.add_zero] at p1 p2 p3 p4
         go_simp
         (try go_ints)
         first
           | exact Done.same (v := cls _)
           | ((with_reducible refine (row34 _).mono ?_); rintro e w' ⟨rfl, hb⟩; exact Done.mk hb)
           | ((with_reducible refine (row55 _).mono ?_); rintro e w' ⟨rfl, hb⟩; exact Done.mk hb)
           | ((with_reducible refine (row69 _).mono ?_); rintro e w' ⟨rfl, hb⟩; exact Done.mk hb)
           | ((with_reducible refine (row0 _).mono ?_); rintro e w' ⟨rfl, hb⟩; exact Done.mk hb)
           | (obtain ⟨⟨v1, e1, hv1⟩, v2, e2, hv2⟩ := hr; simp only [e1, e2]; refine (bytes_row [0, 3, 5, 6] [0, 3, 5, 6] _ _ _ hv1 hv2 (by simp) (by simp)).mono ?_; rintro e w' ⟨rfl, hb⟩; exact Done.mk hb)
           | (obtain ⟨⟨v1, e1, hv1⟩, v2, e2, hv2⟩ := hr; simp only [e1, e2]; refine (same_row [rowB 3 5, rowB 5 5, rowB 6 9] [rowB 3 5, rowB 5 5, rowB 6 9] _ _ _ hv1 hv2 (by simp) (by simp)).mono ?_; rintro e w' ⟨rfl, hb⟩; exact Done.mk (v := .bool true) hb)
           | exact Done.same
      )
  (refine chain_rel (IsRow [rowB 3 5, rowB 5 5, rowB 6 9]) (IsRow.later _) (by rfl) ?_ ?_
   · intro act wx hS hr
     simp at hr
     have h1 := hS.box1.cells
     have h2 := hS.box2.cells
     have p1 := hS.p.at 1 (rowB 3 4) (by simp) rfl
     have p2 := hS.p.at 2 (rowB 5 5) (by simp) rfl
     have p3 := hS.p.at 3 (rowB 6 9) (by simp) rfl
     have p4 := hS.q.at 0 (rowB 0 255) (by simp) rfl
     unfold At at p1 p2 p3 p4
     simp only [Nat.reduceMul, Nat.add_zero] at p1 p2 p3 p4
     all_goals go_simp
     obtain ⟨⟨v, hr2, hv⟩, hr3⟩ := hr
     simp only [hr2]
     refine (refine_row _ _ _ _ hv hS.deb (by simp)).mono ?_
     rintro e w' ⟨v', rfl, hv', hb⟩
     rw [refine_aw] at hv'
     exact Done.rel hb hv'
  )
  iterate 3 first
    | (refine chain_skip (by rfl) (by rfl) ?_)
    | (apply chain_want (by rfl)
       · intro act wx hS hr
         simp at hr
         have h1 := hS.box1.cells
         have h2 := hS.box2.cells
         have p1 := hS.p.at 1 (rowB 3 4) (by simp) rfl
         have p2 := hS.p.at 2 (rowB 5 5) (by simp) rfl
         have p3 := hS.p.at 3 (rowB 6 9) (by simp) rfl
         have p4 := hS.q.at 0 (rowB 0 255) (by simp) rfl
         unfold At at p1 p2 p3 p4
         simp only [Nat.reduceMul, Nat.add_zero] at p1 p2 p3 p4
         go_simp
         (try go_ints)
         first
           | exact Done.same (v := cls _)
           | ((with_reducible refine (row34 _).mono ?_); rintro e w' ⟨rfl, hb⟩; exact Done.mk hb)
           | ((with_reducible refine (row55 _).mono ?_); rintro e w' ⟨rfl, hb⟩; exact Done.mk hb)
           | ((with_reducible refine (row69 _).mono ?_); rintro e w' ⟨rfl, hb⟩; exact Done.mk hb)
           | ((with_reducible refine (row0 _).mono ?_); rintro e w' ⟨rfl, hb⟩; exact Done.mk hb)
           | (obtain ⟨⟨v1, e1, hv1⟩, v2, e2, hv2⟩ := hr; simp only [e1, e2]; refine (bytes_row [0, 3, 5, 6] [0, 3, 5, 6] _ _ _ hv1 hv2 (by simp) (by simp)).mono ?_; rintro e w' ⟨rfl, hb⟩; exact Done.mk hb)
           | (obtain ⟨⟨v1, e1, hv1⟩, v2, e2, hv2⟩ := hr; simp only [e1, e2]; refine (same_row [rowB 3 5, rowB 5 5, rowB 6 9] [rowB 3 5, rowB 5 5, rowB 6 9] _ _ _ hv1 hv2 (by simp) (by simp)).mono ?_; rintro e w' ⟨rfl, hb⟩; exact Done.mk (v := .bool true) hb)
           | exact Done.same
      )
  (refine chain_rel (IsRow [rowB 3 5, rowB 5 5, rowB 6 9]) (IsRow.later _) (by rfl) ?_ ?_
   · intro act wx hS hr
     simp at hr
     have h1 := hS.box1.cells
     have h2 := hS.box2.cells
     have p1 := hS.p.at 1 (rowB 3 4) (by simp) rfl
     have p2 := hS.p.at 2 (rowB 5 5) (by simp) rfl
     have p3 := hS.p.at 3 (rowB 6 9) (by simp) rfl
     have p4 := hS.q.at 0 (rowB 0 255) (by simp) rfl
     unfold At at p1 p2 p3 p4
     simp only [Nat.reduceMul, Nat.add_zero] at p1 p2 p3 p4
     unfold cls at hr
     all_goals go_simp
     exact Done.rel ((Below.refl _ _).alloc (Nat.le_refl _) _) (row_new3 _ _ _ _)
  )
  iterate 3 first
    | (refine chain_skip (by rfl) (by rfl) ?_)
    | (apply chain_want (by rfl)
       · intro act wx hS hr
         simp at hr
         have h1 := hS.box1.cells
         have h2 := hS.box2.cells
         have p1 := hS.p.at 1 (rowB 3 4) (by simp) rfl
         have p2 := hS.p.at 2 (rowB 5 5) (by simp) rfl
         have p3 := hS.p.at 3 (rowB 6 9) (by simp) rfl
         have p4 := hS.q.at 0 (rowB 0 255) (by simp) rfl
         unfold At at p1 p2 p3 p4
         simp only [Nat.reduceMul, Nat.add_zero] at p1 p2 p3 p4
         go_simp
         (try go_ints)
         first
           | exact Done.same (v := cls _)
           | ((with_reducible refine (row34 _).mono ?_); rintro e w' ⟨rfl, hb⟩; exact Done.mk hb)
           | ((with_reducible refine (row55 _).mono ?_); rintro e w' ⟨rfl, hb⟩; exact Done.mk hb)
           | ((with_reducible refine (row69 _).mono ?_); rintro e w' ⟨rfl, hb⟩; exact Done.mk hb)
           | ((with_reducible refine (row0 _).mono ?_); rintro e w' ⟨rfl, hb⟩; exact Done.mk hb)
           | (obtain ⟨⟨v1, e1, hv1⟩, v2, e2, hv2⟩ := hr; simp only [e1, e2]; refine (bytes_row [0, 3, 5, 6] [0, 3, 5, 6] _ _ _ hv1 hv2 (by simp) (by simp)).mono ?_; rintro e w' ⟨rfl, hb⟩; exact Done.mk hb)
           | (obtain ⟨⟨v1, e1, hv1⟩, v2, e2, hv2⟩ := hr; simp only [e1, e2]; refine (same_row [rowB 3 5, rowB 5 5, rowB 6 9] [rowB 3 5, rowB 5 5, rowB 6 9] _ _ _ hv1 hv2 (by simp) (by simp)).mono ?_; rintro e w' ⟨rfl, hb⟩; exact Done.mk (v := .bool true) hb)
           | exact Done.same
      )
  show ∀ w', _ → _
  intro wz hz
  simp [Act.put]
  case hS => exact HS.out
  intros
  go_wp2
  go_ret
  exact ⟨rfl, hz.below⟩
end Go.Proofs.YtgehepiphdphjaaDoor
