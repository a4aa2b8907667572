/- What a value writes: the document's walk, frames. -/
import Derived.Test.YtpbbokdmoaadfaaM30
namespace Go.Proofs.Ytpbbokdmoaadfaa
set_option maxHeartbeats 64000000
set_option maxRecDepth 1000000
set_option linter.all false
open Go Go.RowKit Go.Lib
theorem byU_toNat {n : Nat} (h : n < 256) : (byU n).toNat = n := by unfold byU; simp; omega
theorem at_frame (l : List Nd) (A : Option Addr) (c : Nat) (i : Nat) (hi : i < l.length) (hlen : l.length <= 536870912) (na_ : Nat) (nb_ : Int) (ncls : BitVec 256) (ntext : List UInt8) (nlo nhi : Int) (hn : atN l i = ⟨8, (na_ : Int), nb_, nlo, nhi, ncls, ntext⟩)
 (v : Vl) (hv : v.kids.len < 4611686018427387904) (B : Option Addr) (cv : Nat) (hcv : v.kids.len <= cv) (w : World) (hrow : NRow w A l) (hkr : VRow w B 0 v.kids) (hb1 : ∀ j q W, j < v.kids.len -> wrV l q (v.kids.at j) = some W -> W.length <= 400000000) (hkc : ∀ j q, j < v.kids.len -> q < i -> KidC A l c q (v.kids.at j)) (hna : na_ < i) :
 Calls Try.prog 33 #[.agg #[.slice A l.length c], .int .i64 (i : Int), .agg (vlC v B cv)] w (AtP w (wrV l i v)) := by
 have HW := Lib.hid (wr_k89 hn (.inl rfl) (v := v))
 have HS2 := Lib.hid (AtS.new w A l c (l.getD i nd0) v B cv hrow hkr)
 obtain ⟨ba, oa, rfl, hbl, -⟩ := hrow i hi
 have g : At10 w ba (oa + i * 10) (l.getD i nd0) := hrow.at hi rfl
 have hiz : (i : Int) < (l.length : Int) := by omega
 have hn2 : l.getD i nd0 = ⟨8, (na_ : Int), nb_, nlo, nhi, ncls, ntext⟩ := hn
 rw [hn2] at g HS2
 have HP : Hid (∀ u w', IsV w' u v -> Calls Try.prog 53 #[u, .int .i64 8, .int .u8 (((0 : UInt8).toNat : Nat) : Int), .string (bs []), .int .i64 0, .int .i64 ((1 : Nat) : Int)] w' (Ans w' (.bool (decide (plainP v 8 (0 : UInt8) [] 0 1))))) := fun u w' h => rplain_any v 8 (0 : UInt8) [] 0 1 hv u w' h
 have HKC := Lib.hid hkc
 have HB1 := Lib.hid hb1
 clear hkc hb1
 generalize wrV l i v = rr at *
 clear hrow hkr hn hn2
 unfold At10 at g
 simp only at g
 obtain ⟨g0, g1, g2, g3, g4, g5, g6, g7, g8, g9⟩ := g
 have hl0 : ∀ o, ((w.alloc (.cells #[.slice (some ⟨ba, oa, none⟩) l.length c] 24)).alloc (.cells (vlC v B cv) 32)).cell? ⟨ba, o, none⟩ = w.cell? ⟨ba, o, none⟩ := fun o => (((Below.refl w.heap.size w).alloc (Nat.le_refl _) (.cells #[.slice (some ⟨ba, oa, none⟩) l.length c] 24)).alloc (by simp) (.cells (vlC v B cv) 32)).cell (p := ⟨ba, o, none⟩) hbl
 have HBX : Hid (Blk ((w.alloc (.cells #[.slice (some ⟨ba, oa, none⟩) l.length c] 24)).alloc (.cells (vlC v B cv) 32)) w.heap.size #[.slice (some ⟨ba, oa, none⟩) l.length c] 24) := (Blk.new _ _ _).alloc _
 rw [<- hl0] at g0 g1 g2 g3 g4 g5 g6 g7 g8 g9
 clear hl0
 obtain ⟨vk, vb, vt, vp, ks⟩ := v
 rw [vlC_five] at *
 unfold ndC at HS2
 simp only at *
 go_enter Try.func33, Try.ntmps33
 go_upto_region 1 with (fail)
 have hsz1 : ((w.alloc (.cells #[.slice (some ⟨ba, oa, none⟩) l.length c] 24)).alloc (.cells #[.int .i64 vk, .int .u8 ((vb.toNat : Nat) : Int), .string (bs vt), .int .i64 vp, .slice B ks.len cv] 32)).heap.size = w.heap.size + 2 := by simp
 generalize (w.alloc (.cells #[.slice (some ⟨ba, oa, none⟩) l.length c] 24)).alloc (.cells #[.int .i64 vk, .int .u8 ((vb.toNat : Nat) : Int), .string (bs vt), .int .i64 vp, .slice B ks.len cv] 32) = w1 at *
 have e0 := HBX.out.cell 0
 simp at e0
 go_upto_region 2 with (fail)
 rw [hsz1] at *
 clear g0 g1 g2 g3 g4 g5 g6 g7 g8 g9 e0 HBX
 generalize w1.alloc (.cells #[.int .i64 8, .int .i64 (na_ : Int), .int .i64 nb_, .int .i64 nlo, .int .i64 nhi, .int .u64 (wd ncls 0), .int .u64 (wd ncls 1), .int .u64 (wd ncls 2), .int .u64 (wd ncls 3), .string (bs ntext)] 44) = w2 at *
 clear hsz1
 have d0 := HS2.out.box.cell 0
 simp at d0
 obtain ⟨b0, b1, b2, b3, b4⟩ := vl_cells HS2.out.bv
 obtain ⟨f0, f1, f2, f3, f4, f5, f6, f7, f8, f9⟩ := ten_cells HS2.out.who
 have HPV := Lib.hid (fun w' (h : AtS w (some ⟨ba, oa, none⟩) l c ⟨8, (na_ : Int), nb_, nlo, nhi, ncls, ntext⟩ ⟨vk, vb, vt, vp, ks⟩ B cv w') => HP.out (.agg (vlC ⟨vk, vb, vt, vp, ks⟩ B cv) ) w' ⟨B, cv, hcv, rfl, h.kids⟩)
 unfold vlC at HPV
 simp only [bs_nil] at HPV
 by_cases hp : plainP ⟨vk, vb, vt, vp, ks⟩ 8 0 [] 0 1
 ·rw [if_pos hp] at HW
  rw [decide_eq_true hp] at HPV
  have HK1 : Hid (ks.len = 1) := hp.2.2.2.2
  clear hp HP
  go_wp2_with fail
  refine (HPV.out _ HS2.out).mono ?_; rintro e w3 ⟨rfl, hb⟩
  have HS3 := Lib.hid (HS2.out.later hb)
  clear hb HPV HS2 d0 b0 b1 b2 b3 b4 f0 f1 f2 f3 f4 f5 f6 f7 f8 f9
  obtain ⟨gx, ox, X, cx, rfl, hx⟩ := VRow.el HS3.out.kids (j := 0) (by have := HK1.out; simp only; omega)
  simp only [Nat.zero_mul, Nat.add_zero] at hx
  have HE0 : Hid (AtE w (some ⟨ba, oa, none⟩) l c ⟨8, (na_ : Int), nb_, nlo, nhi, ncls, ntext⟩ ⟨vk, vb, vt, vp, ks⟩ (some ⟨gx, ox, none⟩) cv gx ox (ks.at 0) X cx gx ox (ks.at 0) X cx w3) := ⟨HS3.out, hx, hx⟩
  have HC : Hid (∀ w', NRow w' (some ⟨ba, oa, none⟩) l -> ElS gx ox (ks.at 0) X cx w' -> Calls Try.prog 33 #[.agg #[.slice (some ⟨ba, oa, none⟩) l.length c], .int .i64 (na_ : Int), .agg (vlC (ks.at 0) X cx)] w' (AtP w' (wrV l na_ (ks.at 0)))) := fun w' h1 h2 => HKC.out 0 na_ (by have := HK1.out; omega) hna X cx w' h1 h2.cap h2.row
  have HBX := Lib.hid (HB1.out 0 na_ · (by have := HK1.out; omega))
  have HW2 : Hid (rr = frmW 8 (wrV l na_ (ks.at 0))) := by have h := HW.out; simp only [Int.toNat_natCast] at h; exact h
  clear HW
  clear hx HS3 HKC HB1
  generalize wrV l na_ (ks.at 0) = r at *
  generalize ks.at 0 = x0 at *
  obtain ⟨xk, xb, xt, xp, xs⟩ := x0
  rw [vlC_five] at HC
  simp only at HC
  have hl0 : (0 : Int) < (ks.len : Int) := by have := HK1.out; omega
  have hl0n : 0 < ks.len := by have := HK1.out; omega
  clear HK1
  go_upto_region 43 with (fail)
  refine wp_region_stable (S := (AtE w (some ⟨ba, oa, none⟩) l c ⟨8, (na_ : Int), nb_, nlo, nhi, ncls, ntext⟩ ⟨vk, vb, vt, vp, ks⟩ (some ⟨gx, ox, none⟩) cv gx ox ⟨xk, xb, xt, xp, xs⟩ X cx gx ox ⟨xk, xb, xt, xp, xs⟩ X cx)) (hSt := fun _ _ h hb => h.later hb) (plan := [[(3, none)], [(8, none)], [(188, some 1)], [(5, none)], [(190, some 3)], [(191, some 4)], [(192, some 5)], [(187, some 0), (189, some 2), (193, some 6)], [(194, some 7)], [(186, some 8)], [(186, some 8)], [(195, some 9)], [(196, some 10)]]) (by kernel_rfl) (by kernel_rfl) (by kernel_rfl) ?hS ?_
  rotate_left
  iterate 7 first
   | (refine chain_skip (by rfl) (by rfl) ?_)
   | (apply chain_want (by rfl)
      ·intro act wx hS hr
       simp at hr
       obtain ⟨b0, b1, b2, b3, b4⟩ := vl_cells hS.s.bv
       have d0 := hS.s.box.cell 0
       simp at d0
       obtain ⟨f0, f1, f2, f3, f4, f5, f6, f7, f8, f9⟩ := ten_cells hS.s.who
       obtain ⟨p0, p1, p2, p3, p4⟩ := hS.e.five
       go_simp
       (try go_ints)
       first
        | (obtain ⟨x, hr1, sv, rfl, hx⟩ := hr; simp only [hr1, Option.getD_some]; go_simp; exact Done.same)
        | exact Done.same
     )
  (refine chain_rel (TupW r) (TupW.later r) (by rfl) ?_ ?_
   ·intro act wx hS hr
    simp at hr
    obtain ⟨b0, b1, b2, b3, b4⟩ := vl_cells hS.s.bv
    have d0 := hS.s.box.cell 0
    simp at d0
    obtain ⟨f0, f1, f2, f3, f4, f5, f6, f7, f8, f9⟩ := ten_cells hS.s.who
    obtain ⟨p0, p1, p2, p3, p4⟩ := hS.e.five
    all_goals go_simp
    ((with_reducible refine (HC.out _ hS.s.row hS.e).mono ?_); rintro e w' ⟨x, rfl, hx, hb⟩; exact Done.rel hb hx)
  )
  (refine chain_rel (TupW r) (TupW.later r) (by rfl) ?_ ?_
   ·intro act wx hS hr
    simp at hr
    obtain ⟨b0, b1, b2, b3, b4⟩ := vl_cells hS.s.bv
    have d0 := hS.s.box.cell 0
    simp at d0
    obtain ⟨f0, f1, f2, f3, f4, f5, f6, f7, f8, f9⟩ := ten_cells hS.s.who
    obtain ⟨p0, p1, p2, p3, p4⟩ := hS.e.five
    obtain ⟨x, hr1, hx⟩ := hr
    all_goals go_simp
    exact Done.rel (Below.refl _ _) hx
  )
  (refine chain_rel (IsWo r) (IsWo.later r) (by rfl) ?_ ?_
   ·intro act wx hS hr
    simp at hr
    obtain ⟨b0, b1, b2, b3, b4⟩ := vl_cells hS.s.bv
    have d0 := hS.s.box.cell 0
    simp at d0
    obtain ⟨f0, f1, f2, f3, f4, f5, f6, f7, f8, f9⟩ := ten_cells hS.s.who
    obtain ⟨p0, p1, p2, p3, p4⟩ := hS.e.five
    obtain ⟨x, hr1, sv, rfl, hx⟩ := hr
    all_goals go_simp
    exact Done.rel (Below.refl _ _) hx
  )
  iterate 1 first
   | (refine chain_skip (by rfl) (by rfl) ?_)
   | (apply chain_want (by rfl)
      ·intro act wx hS hr
       simp at hr
       obtain ⟨b0, b1, b2, b3, b4⟩ := vl_cells hS.s.bv
       have d0 := hS.s.box.cell 0
       simp at d0
       obtain ⟨f0, f1, f2, f3, f4, f5, f6, f7, f8, f9⟩ := ten_cells hS.s.who
       obtain ⟨p0, p1, p2, p3, p4⟩ := hS.e.five
       go_simp
       (try go_ints)
       first
        | (obtain ⟨x, hr1, sv, rfl, hx⟩ := hr; simp only [hr1, Option.getD_some]; go_simp; exact Done.same)
        | exact Done.same
     )
  (refine chain_rel (IsWo r) (IsWo.later r) (by rfl) ?_ ?_
   ·intro act wx hS hr
    simp at hr
    obtain ⟨b0, b1, b2, b3, b4⟩ := vl_cells hS.s.bv
    have d0 := hS.s.box.cell 0
    simp at d0
    obtain ⟨f0, f1, f2, f3, f4, f5, f6, f7, f8, f9⟩ := ten_cells hS.s.who
    obtain ⟨p0, p1, p2, p3, p4⟩ := hS.e.five
    obtain ⟨x, hr1, hx⟩ := hr
    all_goals go_simp
    exact Done.rel (Below.refl _ _) hx
  )
  iterate 1 first
   | (refine chain_skip (by rfl) (by rfl) ?_)
   | (apply chain_want (by rfl)
      ·intro act wx hS hr
       simp at hr
       obtain ⟨b0, b1, b2, b3, b4⟩ := vl_cells hS.s.bv
       have d0 := hS.s.box.cell 0
       simp at d0
       obtain ⟨f0, f1, f2, f3, f4, f5, f6, f7, f8, f9⟩ := ten_cells hS.s.who
       obtain ⟨p0, p1, p2, p3, p4⟩ := hS.e.five
       go_simp
       (try go_ints)
       first
        | (obtain ⟨x, hr1, sv, rfl, hx⟩ := hr; simp only [hr1, Option.getD_some]; go_simp; exact Done.same)
        | exact Done.same
     )
  show ∀ w', _ -> _
  intro w5 hz5
  simp [Act.put]
  case hS => exact HE0.out
  intro x1 _ x2 _ x3 _ x4 hx4
  have HS5 := Lib.hid hz5.s
  have HX5 := Lib.hid hx4
  clear hz5 hx4 HE0 HC
  have d0 := HS5.out.box.cell 0
  simp at d0
  obtain ⟨b0, b1, b2, b3, b4⟩ := vl_cells HS5.out.bv
  obtain ⟨f0, f1, f2, f3, f4, f5, f6, f7, f8, f9⟩ := ten_cells HS5.out.who
  cases r with
  | none =>
   have HE : Hid (rr = none) := by unfold Hid; rw [HW2.out]; rfl
   go_wp2
   go_ret2
   exact ⟨_, rfl, ⟨_, by rw [HE.out]; rfl, by rw [HE.out]; exact rfl⟩, HS5.out.bel⟩
  | some W =>
   have hWl := HBX.out W rfl
   have HX : Hid (IsW W x4 w5) := HX5.out
   obtain ⟨AW, capW, rfl, -⟩ := HX.out.len
   clear HX5 HBX
   by_cases hle : W.length <= 255
   ·have HE : Hid (rr = some (byU W.length :: W)) := by unfold Hid; rw [HW2.out]; simp [frmW, hle]
    have g1 : ¬ ((W.length : Nat) : Int) > 255 := by omega
    have g1d : decide (((W.length : Nat) : Int) > 255) = false := decide_eq_false g1
    have g1n : ¬ 255 < W.length := by omega
    have g2 : ¬ ((W.length : Nat) : Int) > 65535 := by omega
    have g2d : decide (((W.length : Nat) : Int) > 65535) = false := decide_eq_false g2
    have g2n : ¬ 65535 < W.length := by omega
    have hw8 : ((W.length : Nat) : Int) % 256 = ((W.length : Nat) : Int) := by omega
    have hcs : (#[.int .u8 ((W.length : Nat) : Int)] : Array Value).toList = bytesV (nats [byU W.length]) := by unfold nats bytesV; simp [byU_toNat (n := W.length) (by omega)]
    have hal := (Below.refl w5.heap.size w5).alloc (Nat.le_refl _) (.cells #[.int .u8 (W.length : Int)] 5)
    have HAL := Lib.hid hal
    have HO : Hid (Own8 (w5.alloc (.cells #[.int .u8 (W.length : Int)] 5)) w5.heap.size (.slice (some ⟨w5.heap.size, 0, none⟩) 1 1) (nats [byU W.length])) := own_new (w := w5) (W := [byU W.length]) hcs (by simp)
    clear hal hcs hle
    go_wp2_with (at_builtin; refine wpList_append_w rfl _ _ rfl w5.heap.size (.slice (some ⟨w5.heap.size, 0, none⟩) 1 1) [byU W.length] rfl HO.out W (.slice AW W.length capW) rfl (HX.out.later HAL.out) (by have := hWl; simp only [List.length_cons, List.length_nil]; omega) HAL.out.size ?_; intro v6 w6 h1 h2; have HO6 := Lib.hid h1; have HB6 := Lib.hid (HAL.out.grown h2 HAL.out.size (fun k hk => (World.ownsRow.lt HO.out k hk).1)); clear h1 h2)
    go_wp2
    go_ret2
    exact ⟨_, rfl, ⟨v6, by rw [HE.out]; rfl, by rw [HE.out]; exact own_isW HO6.out (by have := hWl; simp only [List.cons_append, List.nil_append, List.length_cons]; omega)⟩, HS5.out.bel.trans (HB6.out.mono HS5.out.bel.size)⟩
   ·have HE : Hid (rr = none) := by unfold Hid; rw [HW2.out]; simp [frmW]; omega
    have g1 : ((W.length : Nat) : Int) > 255 := by omega
    have g1d : decide (((W.length : Nat) : Int) > 255) = true := decide_eq_true g1
    have g1n : 255 < W.length := by omega
    clear hle
    go_wp2
    go_ret2
    exact ⟨_, rfl, ⟨_, by rw [HE.out]; rfl, by rw [HE.out]; exact rfl⟩, HS5.out.bel⟩
 ·rw [if_neg hp] at HW
  rw [decide_eq_false hp] at HPV
  clear hp HP
  go_wp2_with fail
  refine (HPV.out _ HS2.out).mono ?_; rintro e w3 ⟨rfl, hb⟩
  have HS3 := Lib.hid (HS2.out.later hb)
  clear hb HPV HS2 d0 b0 b1 b2 b3 b4 f0 f1 f2 f3 f4 f5 f6 f7 f8 f9
  go_wp2
  go_ret2
  exact ⟨_, rfl, ⟨_, by rw [HW.out]; rfl, by rw [HW.out]; exact rfl⟩, HS3.out.bel⟩
theorem at_wide (l : List Nd) (A : Option Addr) (c : Nat) (i : Nat) (hi : i < l.length) (hlen : l.length <= 536870912) (na_ : Nat) (nb_ : Int) (ncls : BitVec 256) (ntext : List UInt8) (nlo nhi : Int) (hn : atN l i = ⟨9, (na_ : Int), nb_, nlo, nhi, ncls, ntext⟩)
 (v : Vl) (hv : v.kids.len < 4611686018427387904) (B : Option Addr) (cv : Nat) (hcv : v.kids.len <= cv) (w : World) (hrow : NRow w A l) (hkr : VRow w B 0 v.kids) (hb1 : ∀ j q W, j < v.kids.len -> wrV l q (v.kids.at j) = some W -> W.length <= 400000000) (hkc : ∀ j q, j < v.kids.len -> q < i -> KidC A l c q (v.kids.at j)) (hna : na_ < i) :
 Calls Try.prog 33 #[.agg #[.slice A l.length c], .int .i64 (i : Int), .agg (vlC v B cv)] w (AtP w (wrV l i v)) := by
 have HW := Lib.hid (wr_k89 hn (.inr rfl) (v := v))
 have HS2 := Lib.hid (AtS.new w A l c (l.getD i nd0) v B cv hrow hkr)
 obtain ⟨ba, oa, rfl, hbl, -⟩ := hrow i hi
 have g : At10 w ba (oa + i * 10) (l.getD i nd0) := hrow.at hi rfl
 have hiz : (i : Int) < (l.length : Int) := by omega
 have hn2 : l.getD i nd0 = ⟨9, (na_ : Int), nb_, nlo, nhi, ncls, ntext⟩ := hn
 rw [hn2] at g HS2
 have HP : Hid (∀ u w', IsV w' u v -> Calls Try.prog 53 #[u, .int .i64 9, .int .u8 (((0 : UInt8).toNat : Nat) : Int), .string (bs []), .int .i64 0, .int .i64 ((1 : Nat) : Int)] w' (Ans w' (.bool (decide (plainP v 9 (0 : UInt8) [] 0 1))))) := fun u w' h => rplain_any v 9 (0 : UInt8) [] 0 1 hv u w' h
 have HKC := Lib.hid hkc
 have HB1 := Lib.hid hb1
 clear hkc hb1
 generalize wrV l i v = rr at *
 clear hrow hkr hn hn2
 unfold At10 at g
 simp only at g
 obtain ⟨g0, g1, g2, g3, g4, g5, g6, g7, g8, g9⟩ := g
 have hl0 : ∀ o, ((w.alloc (.cells #[.slice (some ⟨ba, oa, none⟩) l.length c] 24)).alloc (.cells (vlC v B cv) 32)).cell? ⟨ba, o, none⟩ = w.cell? ⟨ba, o, none⟩ := fun o => (((Below.refl w.heap.size w).alloc (Nat.le_refl _) (.cells #[.slice (some ⟨ba, oa, none⟩) l.length c] 24)).alloc (by simp) (.cells (vlC v B cv) 32)).cell (p := ⟨ba, o, none⟩) hbl
 have HBX : Hid (Blk ((w.alloc (.cells #[.slice (some ⟨ba, oa, none⟩) l.length c] 24)).alloc (.cells (vlC v B cv) 32)) w.heap.size #[.slice (some ⟨ba, oa, none⟩) l.length c] 24) := (Blk.new _ _ _).alloc _
 rw [<- hl0] at g0 g1 g2 g3 g4 g5 g6 g7 g8 g9
 clear hl0
 obtain ⟨vk, vb, vt, vp, ks⟩ := v
 rw [vlC_five] at *
 unfold ndC at HS2
 simp only at *
 go_enter Try.func33, Try.ntmps33
 go_upto_region 1 with (fail)
 have hsz1 : ((w.alloc (.cells #[.slice (some ⟨ba, oa, none⟩) l.length c] 24)).alloc (.cells #[.int .i64 vk, .int .u8 ((vb.toNat : Nat) : Int), .string (bs vt), .int .i64 vp, .slice B ks.len cv] 32)).heap.size = w.heap.size + 2 := by simp
 generalize (w.alloc (.cells #[.slice (some ⟨ba, oa, none⟩) l.length c] 24)).alloc (.cells #[.int .i64 vk, .int .u8 ((vb.toNat : Nat) : Int), .string (bs vt), .int .i64 vp, .slice B ks.len cv] 32) = w1 at *
 have e0 := HBX.out.cell 0
 simp at e0
 go_upto_region 2 with (fail)
 rw [hsz1] at *
 clear g0 g1 g2 g3 g4 g5 g6 g7 g8 g9 e0 HBX
 generalize w1.alloc (.cells #[.int .i64 9, .int .i64 (na_ : Int), .int .i64 nb_, .int .i64 nlo, .int .i64 nhi, .int .u64 (wd ncls 0), .int .u64 (wd ncls 1), .int .u64 (wd ncls 2), .int .u64 (wd ncls 3), .string (bs ntext)] 44) = w2 at *
 clear hsz1
 have d0 := HS2.out.box.cell 0
 simp at d0
 obtain ⟨b0, b1, b2, b3, b4⟩ := vl_cells HS2.out.bv
 obtain ⟨f0, f1, f2, f3, f4, f5, f6, f7, f8, f9⟩ := ten_cells HS2.out.who
 have HPV := Lib.hid (fun w' (h : AtS w (some ⟨ba, oa, none⟩) l c ⟨9, (na_ : Int), nb_, nlo, nhi, ncls, ntext⟩ ⟨vk, vb, vt, vp, ks⟩ B cv w') => HP.out (.agg (vlC ⟨vk, vb, vt, vp, ks⟩ B cv) ) w' ⟨B, cv, hcv, rfl, h.kids⟩)
 unfold vlC at HPV
 simp only [bs_nil] at HPV
 by_cases hp : plainP ⟨vk, vb, vt, vp, ks⟩ 9 0 [] 0 1
 ·rw [if_pos hp] at HW
  rw [decide_eq_true hp] at HPV
  have HK1 : Hid (ks.len = 1) := hp.2.2.2.2
  clear hp HP
  go_wp2_with fail
  refine (HPV.out _ HS2.out).mono ?_; rintro e w3 ⟨rfl, hb⟩
  have HS3 := Lib.hid (HS2.out.later hb)
  clear hb HPV HS2 d0 b0 b1 b2 b3 b4 f0 f1 f2 f3 f4 f5 f6 f7 f8 f9
  obtain ⟨gx, ox, X, cx, rfl, hx⟩ := VRow.el HS3.out.kids (j := 0) (by have := HK1.out; simp only; omega)
  simp only [Nat.zero_mul, Nat.add_zero] at hx
  have HE0 : Hid (AtE w (some ⟨ba, oa, none⟩) l c ⟨9, (na_ : Int), nb_, nlo, nhi, ncls, ntext⟩ ⟨vk, vb, vt, vp, ks⟩ (some ⟨gx, ox, none⟩) cv gx ox (ks.at 0) X cx gx ox (ks.at 0) X cx w3) := ⟨HS3.out, hx, hx⟩
  have HC : Hid (∀ w', NRow w' (some ⟨ba, oa, none⟩) l -> ElS gx ox (ks.at 0) X cx w' -> Calls Try.prog 33 #[.agg #[.slice (some ⟨ba, oa, none⟩) l.length c], .int .i64 (na_ : Int), .agg (vlC (ks.at 0) X cx)] w' (AtP w' (wrV l na_ (ks.at 0)))) := fun w' h1 h2 => HKC.out 0 na_ (by have := HK1.out; omega) hna X cx w' h1 h2.cap h2.row
  have HBX := Lib.hid (HB1.out 0 na_ · (by have := HK1.out; omega))
  have HW2 : Hid (rr = frmW 9 (wrV l na_ (ks.at 0))) := by have h := HW.out; simp only [Int.toNat_natCast] at h; exact h
  clear HW
  clear hx HS3 HKC HB1
  generalize wrV l na_ (ks.at 0) = r at *
  generalize ks.at 0 = x0 at *
  obtain ⟨xk, xb, xt, xp, xs⟩ := x0
  rw [vlC_five] at HC
  simp only at HC
  have hl0 : (0 : Int) < (ks.len : Int) := by have := HK1.out; omega
  have hl0n : 0 < ks.len := by have := HK1.out; omega
  clear HK1
  go_upto_region 43 with (fail)
  refine wp_region_stable (S := (AtE w (some ⟨ba, oa, none⟩) l c ⟨9, (na_ : Int), nb_, nlo, nhi, ncls, ntext⟩ ⟨vk, vb, vt, vp, ks⟩ (some ⟨gx, ox, none⟩) cv gx ox ⟨xk, xb, xt, xp, xs⟩ X cx gx ox ⟨xk, xb, xt, xp, xs⟩ X cx)) (hSt := fun _ _ h hb => h.later hb) (plan := [[(3, none)], [(8, none)], [(188, some 1)], [(5, none)], [(190, some 3)], [(191, some 4)], [(192, some 5)], [(187, some 0), (189, some 2), (193, some 6)], [(194, some 7)], [(186, some 8)], [(186, some 8)], [(195, some 9)], [(196, some 10)]]) (by kernel_rfl) (by kernel_rfl) (by kernel_rfl) ?hS ?_
  rotate_left
  iterate 7 first
   | (refine chain_skip (by rfl) (by rfl) ?_)
   | (apply chain_want (by rfl)
      ·intro act wx hS hr
       simp at hr
       obtain ⟨b0, b1, b2, b3, b4⟩ := vl_cells hS.s.bv
       have d0 := hS.s.box.cell 0
       simp at d0
       obtain ⟨f0, f1, f2, f3, f4, f5, f6, f7, f8, f9⟩ := ten_cells hS.s.who
       obtain ⟨p0, p1, p2, p3, p4⟩ := hS.e.five
       go_simp
       (try go_ints)
       first
        | (obtain ⟨x, hr1, sv, rfl, hx⟩ := hr; simp only [hr1, Option.getD_some]; go_simp; exact Done.same)
        | exact Done.same
     )
  (refine chain_rel (TupW r) (TupW.later r) (by rfl) ?_ ?_
   ·intro act wx hS hr
    simp at hr
    obtain ⟨b0, b1, b2, b3, b4⟩ := vl_cells hS.s.bv
    have d0 := hS.s.box.cell 0
    simp at d0
    obtain ⟨f0, f1, f2, f3, f4, f5, f6, f7, f8, f9⟩ := ten_cells hS.s.who
    obtain ⟨p0, p1, p2, p3, p4⟩ := hS.e.five
    all_goals go_simp
    ((with_reducible refine (HC.out _ hS.s.row hS.e).mono ?_); rintro e w' ⟨x, rfl, hx, hb⟩; exact Done.rel hb hx)
  )
  (refine chain_rel (TupW r) (TupW.later r) (by rfl) ?_ ?_
   ·intro act wx hS hr
    simp at hr
    obtain ⟨b0, b1, b2, b3, b4⟩ := vl_cells hS.s.bv
    have d0 := hS.s.box.cell 0
    simp at d0
    obtain ⟨f0, f1, f2, f3, f4, f5, f6, f7, f8, f9⟩ := ten_cells hS.s.who
    obtain ⟨p0, p1, p2, p3, p4⟩ := hS.e.five
    obtain ⟨x, hr1, hx⟩ := hr
    all_goals go_simp
    exact Done.rel (Below.refl _ _) hx
  )
  (refine chain_rel (IsWo r) (IsWo.later r) (by rfl) ?_ ?_
   ·intro act wx hS hr
    simp at hr
    obtain ⟨b0, b1, b2, b3, b4⟩ := vl_cells hS.s.bv
    have d0 := hS.s.box.cell 0
    simp at d0
    obtain ⟨f0, f1, f2, f3, f4, f5, f6, f7, f8, f9⟩ := ten_cells hS.s.who
    obtain ⟨p0, p1, p2, p3, p4⟩ := hS.e.five
    obtain ⟨x, hr1, sv, rfl, hx⟩ := hr
    all_goals go_simp
    exact Done.rel (Below.refl _ _) hx
  )
  iterate 1 first
   | (refine chain_skip (by rfl) (by rfl) ?_)
   | (apply chain_want (by rfl)
      ·intro act wx hS hr
       simp at hr
       obtain ⟨b0, b1, b2, b3, b4⟩ := vl_cells hS.s.bv
       have d0 := hS.s.box.cell 0
       simp at d0
       obtain ⟨f0, f1, f2, f3, f4, f5, f6, f7, f8, f9⟩ := ten_cells hS.s.who
       obtain ⟨p0, p1, p2, p3, p4⟩ := hS.e.five
       go_simp
       (try go_ints)
       first
        | (obtain ⟨x, hr1, sv, rfl, hx⟩ := hr; simp only [hr1, Option.getD_some]; go_simp; exact Done.same)
        | exact Done.same
     )
  (refine chain_rel (IsWo r) (IsWo.later r) (by rfl) ?_ ?_
   ·intro act wx hS hr
    simp at hr
    obtain ⟨b0, b1, b2, b3, b4⟩ := vl_cells hS.s.bv
    have d0 := hS.s.box.cell 0
    simp at d0
    obtain ⟨f0, f1, f2, f3, f4, f5, f6, f7, f8, f9⟩ := ten_cells hS.s.who
    obtain ⟨p0, p1, p2, p3, p4⟩ := hS.e.five
    obtain ⟨x, hr1, hx⟩ := hr
    all_goals go_simp
    exact Done.rel (Below.refl _ _) hx
  )
  iterate 1 first
   | (refine chain_skip (by rfl) (by rfl) ?_)
   | (apply chain_want (by rfl)
      ·intro act wx hS hr
       simp at hr
       obtain ⟨b0, b1, b2, b3, b4⟩ := vl_cells hS.s.bv
       have d0 := hS.s.box.cell 0
       simp at d0
       obtain ⟨f0, f1, f2, f3, f4, f5, f6, f7, f8, f9⟩ := ten_cells hS.s.who
       obtain ⟨p0, p1, p2, p3, p4⟩ := hS.e.five
       go_simp
       (try go_ints)
       first
        | (obtain ⟨x, hr1, sv, rfl, hx⟩ := hr; simp only [hr1, Option.getD_some]; go_simp; exact Done.same)
        | exact Done.same
     )
  show ∀ w', _ -> _
  intro w5 hz5
  simp [Act.put]
  case hS => exact HE0.out
  intro x1 _ x2 _ x3 _ x4 hx4
  have HS5 := Lib.hid hz5.s
  have HX5 := Lib.hid hx4
  clear hz5 hx4 HE0 HC
  have d0 := HS5.out.box.cell 0
  simp at d0
  obtain ⟨b0, b1, b2, b3, b4⟩ := vl_cells HS5.out.bv
  obtain ⟨f0, f1, f2, f3, f4, f5, f6, f7, f8, f9⟩ := ten_cells HS5.out.who
  cases r with
  | none =>
   have HE : Hid (rr = none) := by unfold Hid; rw [HW2.out]; rfl
   go_wp2
   go_ret2
   exact ⟨_, rfl, ⟨_, by rw [HE.out]; rfl, by rw [HE.out]; exact rfl⟩, HS5.out.bel⟩
  | some W =>
   have hWl := HBX.out W rfl
   have HX : Hid (IsW W x4 w5) := HX5.out
   obtain ⟨AW, capW, rfl, -⟩ := HX.out.len
   clear HX5 HBX
   by_cases hle : W.length <= 65535
   ·have HE : Hid (rr = some (byU (W.length / 256) :: byU (W.length % 256) :: W)) := by unfold Hid; rw [HW2.out]; simp [frmW, hle]
    have g2 : ¬ ((W.length : Nat) : Int) > 65535 := by omega
    have g2d : decide (((W.length : Nat) : Int) > 65535) = false := decide_eq_false g2
    have g2n : ¬ 65535 < W.length := by omega
    obtain ⟨q, hq⟩ : ∃ q, W.length / 256 = q := ⟨_, rfl⟩
    obtain ⟨m, hm⟩ : ∃ m, W.length % 256 = m := ⟨_, rfl⟩
    rw [hq, hm] at HE
    have hq1 : ((W.length : Nat) : Int) / 256 = (q : Int) := by omega
    have hq2 : Int.tdiv ((W.length : Nat) : Int) 256 = (q : Int) := by rw [Int.tdiv_eq_ediv_of_nonneg (by omega)]; exact hq1
    have hm1 : ((W.length : Nat) : Int) % 256 = (m : Int) := by omega
    have hm2 : Int.tmod ((W.length : Nat) : Int) 256 = (m : Int) := by rw [Int.tmod_eq_emod_of_nonneg (by omega)]; exact hm1
    have hq3 : (q : Int) % 256 = (q : Int) := by omega
    have hm3 : (m : Int) % 256 = (m : Int) := by omega
    have hcs : (#[.int .u8 (q : Int), .int .u8 (m : Int)] : Array Value).toList = bytesV (nats [byU q, byU m]) := by unfold nats bytesV; simp [byU_toNat (n := q) (by omega), byU_toNat (n := m) (by omega)]
    clear hq hm
    have hal := (Below.refl w5.heap.size w5).alloc (Nat.le_refl _) (.cells #[.int .u8 (q : Int), .int .u8 (m : Int)] 5)
    have HAL := Lib.hid hal
    have HO : Hid (Own8 (w5.alloc (.cells #[.int .u8 (q : Int), .int .u8 (m : Int)] 5)) w5.heap.size (.slice (some ⟨w5.heap.size, 0, none⟩) 2 2) (nats [byU q, byU m])) := own_new (w := w5) (W := [byU q, byU m]) hcs (by simp)
    clear hal hcs hle
    go_wp2_with (at_builtin; refine wpList_append_w rfl _ _ rfl w5.heap.size (.slice (some ⟨w5.heap.size, 0, none⟩) 2 2) [byU q, byU m] rfl HO.out W (.slice AW W.length capW) rfl (HX.out.later HAL.out) (by have := hWl; simp only [List.length_cons, List.length_nil]; omega) HAL.out.size ?_; intro v6 w6 h1 h2; have HO6 := Lib.hid h1; have HB6 := Lib.hid (HAL.out.grown h2 HAL.out.size (fun k hk => (World.ownsRow.lt HO.out k hk).1)); clear h1 h2)
    go_wp2
    go_ret2
    exact ⟨_, rfl, ⟨v6, by rw [HE.out]; rfl, by rw [HE.out]; exact own_isW HO6.out (by have := hWl; simp only [List.cons_append, List.nil_append, List.length_cons]; omega)⟩, HS5.out.bel.trans (HB6.out.mono HS5.out.bel.size)⟩
   ·have HE : Hid (rr = none) := by unfold Hid; rw [HW2.out]; simp [frmW]; omega
    have g2 : ((W.length : Nat) : Int) > 65535 := by omega
    have g2d : decide (((W.length : Nat) : Int) > 65535) = true := decide_eq_true g2
    have g2n : 65535 < W.length := by omega
    clear hle
    go_wp2
    go_ret2
    exact ⟨_, rfl, ⟨_, by rw [HE.out]; rfl, by rw [HE.out]; exact rfl⟩, HS5.out.bel⟩
 ·rw [if_neg hp] at HW
  rw [decide_eq_false hp] at HPV
  clear hp HP
  go_wp2_with fail
  refine (HPV.out _ HS2.out).mono ?_; rintro e w3 ⟨rfl, hb⟩
  have HS3 := Lib.hid (HS2.out.later hb)
  clear hb HPV HS2 d0 b0 b1 b2 b3 b4 f0 f1 f2 f3 f4 f5 f6 f7 f8 f9
  go_wp2
  go_ret2
  exact ⟨_, rfl, ⟨_, by rw [HW.out]; rfl, by rw [HW.out]; exact rfl⟩, HS3.out.bel⟩
end Go.Proofs.Ytpbbokdmoaadfaa
namespace Go.Proofs.Ytpbbokdmoaadfaa
set_option maxHeartbeats 64000000
set_option maxRecDepth 1000000
set_option linter.all false
open Go Go.RowKit
theorem AtS.grown {w0 w w' : World} {A : Option Addr} {l : List Nd} {c : Nat} {n : Nd} {v : Vl} {B : Option Addr} {cv : Nat} (h : AtS w0 A l c n v B cv w) (hrow : NRow w0 A l) (hkr : VRow w0 B 0 v.kids) (hb : Below (w0.heap.size + 3) w w') : AtS w0 A l c n v B cv w' := by
 have hbel := h.bel.trans (hb.mono (by omega))
 exact ⟨hbel, hrow.later hbel, h.box.below hb (by omega), h.bv.below hb (by omega), h.who.below hb (by omega), hkr.later hbel⟩
structure AtO (w0 : World) (A : Option Addr) (l : List Nd) (c : Nat) (n : Nd) (v : Vl) (B : Option Addr) (cv : Nat) (g o : Nat) (y : Vl) (Y : Option Addr) (cy : Nat) (ov : Value) (acc : Wd) (w : World) : Prop where
 s : AtS w0 A l c n v B cv w
 e : ElS g o y Y cy w
 own : Own8 w (w0.heap.size + 3) ov (nats acc)
 low : w0.heap.size + 3 <= w.heap.size
theorem AtO.later {w0 w w' : World} {A : Option Addr} {l : List Nd} {c : Nat} {n : Nd} {v : Vl} {B : Option Addr} {cv g o : Nat} {y : Vl} {Y : Option Addr} {cy : Nat} {ov : Value} {acc : Wd} (h : AtO w0 A l c n v B cv g o y Y cy ov acc w) (hb : Below w.heap.size w w') : AtO w0 A l c n v B cv g o y Y cy ov acc w' := ⟨h.s.later hb, h.e.later hb, h.own.later hb, Nat.le_trans h.low hb.size⟩
def AtL (w0 : World) (A : Option Addr) (l : List Nd) (c : Nat) (n : Nd) (v : Vl) (B : Option Addr) (cv na_ : Nat) (ov x : Value) (w : World) : Prop := ∃ (k : Nat) (ws : List Wd), k <= v.kids.len /\ x = .int .i64 (k : Int) /\ ws.length = k /\ (∀ j, j < k -> wrV l na_ (v.kids.at j) = some (ws.getD j [])) /\ (∀ y ∈ ws, y ≠ []) /\ AtS w0 A l c n v B cv w /\ Own8 w (w0.heap.size + 3) ov (nats ws.flatten) /\ w0.heap.size + 3 <= w.heap.size
theorem at_star (l : List Nd) (A : Option Addr) (c : Nat) (i : Nat) (hi : i < l.length) (hlen : l.length <= 536870912) (na_ : Nat) (nb_ : Int) (ncls : BitVec 256) (ntext : List UInt8) (nlo nhi : Int) (hn : atN l i = ⟨6, (na_ : Int), nb_, nlo, nhi, ncls, ntext⟩)
 (v : Vl) (hv : v.kids.len < 4611686018427387904) (B : Option Addr) (cv : Nat) (hcv : v.kids.len <= cv) (w : World) (hrow : NRow w A l) (hkr : VRow w B 0 v.kids) (hb2 : ∀ (k : Nat) (ws : List Wd), k <= v.kids.len -> ws.length = k -> (∀ j, j < k -> wrV l na_ (v.kids.at j) = some (ws.getD j [])) -> ws.flatten.length <= 400000000) (hkc : ∀ j, j < v.kids.len -> KidC A l c na_ (v.kids.at j)) (hlo : 0 <= nlo /\ nlo <= 255) (hhi : 0 <= nhi /\ nhi <= 255) :
 Calls Try.prog 33 #[.agg #[.slice A l.length c], .int .i64 (i : Int), .agg (vlC v B cv)] w (AtP w (wrV l i v)) := by
 have HW := Lib.hid ((trivial : True))
 have HS2 := Lib.hid (AtS.new w A l c (l.getD i nd0) v B cv hrow hkr)
 obtain ⟨ba, oa, rfl, hbl, -⟩ := hrow i hi
 have g : At10 w ba (oa + i * 10) (l.getD i nd0) := hrow.at hi rfl
 have hiz : (i : Int) < (l.length : Int) := by omega
 have hn2 : l.getD i nd0 = ⟨6, (na_ : Int), nb_, nlo, nhi, ncls, ntext⟩ := hn
 rw [hn2] at g HS2
 have HP : Hid (∀ u w', IsV w' u v -> Calls Try.prog 53 #[u, .int .i64 6, .int .u8 (((0 : UInt8).toNat : Nat) : Int), .string (bs []), .int .i64 0, .int .i64 ((v.kids.len : Nat) : Int)] w' (Ans w' (.bool (decide (plainP v 6 (0 : UInt8) [] 0 v.kids.len))))) := fun u w' h => rplain_any v 6 (0 : UInt8) [] 0 v.kids.len hv u w' h
 have HBAD : Hid (∀ j, j < v.kids.len -> (wrV l na_ (v.kids.at j) = none \/ wrV l na_ (v.kids.at j) = some []) -> wrV l i v = none) := fun j hj h => wr_k67_bad (v := v) hn (.inl rfl) hj (by simp only [Int.toNat_natCast]; exact h)
 have HNO : Hid (¬ (plainP v 6 0 [] 0 v.kids.len /\ ((6 : Int) = 7 -> nlo <= (v.kids.len : Int) /\ (v.kids.len : Int) <= nhi)) -> wrV l i v = none) := fun h => wr_k67_no (v := v) hn (.inl rfl) h
 have HYES : Hid (∀ ws : List Wd, plainP v 6 0 [] 0 v.kids.len -> ((6 : Int) = 7 -> nlo <= (v.kids.len : Int) /\ (v.kids.len : Int) <= nhi) -> ws.length = v.kids.len -> (∀ j, j < v.kids.len -> wrV l na_ (v.kids.at j) = some (ws.getD j [])) -> (∀ x ∈ ws, x ≠ []) -> wrV l i v = some ws.flatten) := fun ws h h7 hl hw hne => wr_k67 (v := v) hn (.inl rfl) h h7 hl (by simp only [Int.toNat_natCast]; exact hw) hne
 have HKC := Lib.hid hkc
 have HB2 := Lib.hid hb2
 have HR0 := Lib.hid hrow
 have HK0 := Lib.hid hkr
 clear hkc hb2
 generalize wrV l i v = rr at *
 clear hrow hkr hn hn2
 unfold At10 at g
 simp only at g
 obtain ⟨g0, g1, g2, g3, g4, g5, g6, g7, g8, g9⟩ := g
 have hl0 : ∀ o, ((w.alloc (.cells #[.slice (some ⟨ba, oa, none⟩) l.length c] 24)).alloc (.cells (vlC v B cv) 32)).cell? ⟨ba, o, none⟩ = w.cell? ⟨ba, o, none⟩ := fun o => (((Below.refl w.heap.size w).alloc (Nat.le_refl _) (.cells #[.slice (some ⟨ba, oa, none⟩) l.length c] 24)).alloc (by simp) (.cells (vlC v B cv) 32)).cell (p := ⟨ba, o, none⟩) hbl
 have HBX : Hid (Blk ((w.alloc (.cells #[.slice (some ⟨ba, oa, none⟩) l.length c] 24)).alloc (.cells (vlC v B cv) 32)) w.heap.size #[.slice (some ⟨ba, oa, none⟩) l.length c] 24) := (Blk.new _ _ _).alloc _
 rw [<- hl0] at g0 g1 g2 g3 g4 g5 g6 g7 g8 g9
 clear hl0
 obtain ⟨vk, vb, vt, vp, ks⟩ := v
 rw [vlC_five] at *
 unfold ndC at HS2
 simp only at *
 go_enter Try.func33, Try.ntmps33
 go_upto_region 1 with (fail)
 have hsz1 : ((w.alloc (.cells #[.slice (some ⟨ba, oa, none⟩) l.length c] 24)).alloc (.cells #[.int .i64 vk, .int .u8 ((vb.toNat : Nat) : Int), .string (bs vt), .int .i64 vp, .slice B ks.len cv] 32)).heap.size = w.heap.size + 2 := by simp
 generalize (w.alloc (.cells #[.slice (some ⟨ba, oa, none⟩) l.length c] 24)).alloc (.cells #[.int .i64 vk, .int .u8 ((vb.toNat : Nat) : Int), .string (bs vt), .int .i64 vp, .slice B ks.len cv] 32) = w1 at *
 have e0 := HBX.out.cell 0
 simp at e0
 go_upto_region 2 with (fail)
 rw [hsz1] at *
 clear g0 g1 g2 g3 g4 g5 g6 g7 g8 g9 e0 HBX
 generalize w1.alloc (.cells #[.int .i64 6, .int .i64 (na_ : Int), .int .i64 nb_, .int .i64 nlo, .int .i64 nhi, .int .u64 (wd ncls 0), .int .u64 (wd ncls 1), .int .u64 (wd ncls 2), .int .u64 (wd ncls 3), .string (bs ntext)] 44) = w2 at *
 clear hsz1
 have d0 := HS2.out.box.cell 0
 simp at d0
 obtain ⟨b0, b1, b2, b3, b4⟩ := vl_cells HS2.out.bv
 obtain ⟨f0, f1, f2, f3, f4, f5, f6, f7, f8, f9⟩ := ten_cells HS2.out.who
 have HPV := Lib.hid (fun w' (h : AtS w (some ⟨ba, oa, none⟩) l c ⟨6, (na_ : Int), nb_, nlo, nhi, ncls, ntext⟩ ⟨vk, vb, vt, vp, ks⟩ B cv w') => HP.out (.agg (vlC ⟨vk, vb, vt, vp, ks⟩ B cv) ) w' ⟨B, cv, hcv, rfl, h.kids⟩)
 unfold vlC at HPV
 simp only [bs_nil] at HPV
 obtain ⟨hlo1, hlo2⟩ := hlo
 obtain ⟨hhi1, hhi2⟩ := hhi
 by_cases hp : plainP ⟨vk, vb, vt, vp, ks⟩ 6 0 [] 0 ks.len
 ·rw [decide_eq_true hp] at HPV
  have HPP := Lib.hid hp
  clear hp HP
  have HP7 : Hid ((6 : Int) = 7 -> nlo <= (ks.len : Int) /\ (ks.len : Int) <= nhi) := fun h => by cases h
  go_wp2_with fail
  refine (HPV.out _ HS2.out).mono ?_; rintro e w3 ⟨rfl, hb⟩
  have HS3 := Lib.hid (HS2.out.later hb)
  clear hb HPV HS2 d0 b0 b1 b2 b3 b4 f0 f1 f2 f3 f4 f5 f6 f7 f8 f9
  have d0 := HS3.out.box.cell 0
  simp at d0
  obtain ⟨b0, b1, b2, b3, b4⟩ := vl_cells HS3.out.bv
  obtain ⟨f0, f1, f2, f3, f4, f5, f6, f7, f8, f9⟩ := ten_cells HS3.out.who
  have hal := (Below.refl w3.heap.size w3).alloc (Nat.le_refl _) (.cells #[] 5)
  have hsz3 : w.heap.size + 3 <= w3.heap.size := by have := HS3.out.who.lt; omega
  have HS4 := Lib.hid (HS3.out.later hal)
  have HL4 : Hid (w.heap.size + 3 <= (w3.alloc (.cells #[] 5)).heap.size) := Nat.le_trans hsz3 hal.size
  have HO4 : Hid (Own8 (w3.alloc (.cells #[] 5)) (w.heap.size + 3) (.slice (some ⟨w3.heap.size, 0, none⟩) 0 0) (nats [])) := own8_lower (own_new (w := w3) (W := []) (cs := #[]) rfl (by decide)) hsz3
  clear hal hsz3
  go_upto_region 33 with (fail)
  clear d0 b0 b1 b2 b3 b4 f0 f1 f2 f3 f4 f5 f6 f7 f8 f9 HS3
  generalize w3.alloc (.cells #[] 5) = w4 at *
  generalize w3.heap.size = bo at *
  go_wp2
  go_loopw [14, 15] (AtL w (some ⟨ba, oa, none⟩) l c ⟨6, (na_ : Int), nb_, nlo, nhi, ncls, ntext⟩ ⟨vk, vb, vt, vp, ks⟩ B cv na_) (fun _ x _ => ks.len - (intOf x).toNat)
  case atStart => exact ⟨0, [], Nat.zero_le _, rfl, rfl, fun j hj => absurd hj (Nat.not_lt_zero j), fun y hy => (by cases hy), HS4.out, HO4.out, HL4.out⟩
  case round =>
   obtain ⟨k, ws, hk, rfl, hwl, hws, hne, hs, ho, hlow⟩ := hrel
   simp only at hk hws
   have HS := Lib.hid hs
   have HO := Lib.hid ho
   have HLOW := Lib.hid hlow
   have HWS := Lib.hid hws
   have HNE := Lib.hid hne
   have HWL := Lib.hid hwl
   clear hs ho hlow hws hne hwl HS4 HO4 HL4
   by_cases hlt : k < ks.len
   ·have hltz : (k : Int) < (ks.len : Int) := by omega
    obtain ⟨gx, ox, X, cx, rfl, hx⟩ := VRow.el HS.out.kids (j := k) (by simp only; omega)
    have HE0 : Hid (AtO w (some ⟨ba, oa, none⟩) l c ⟨6, (na_ : Int), nb_, nlo, nhi, ncls, ntext⟩ ⟨vk, vb, vt, vp, ks⟩ (some ⟨gx, ox, none⟩) cv gx (ox + k * 5) (ks.at k) X cx u14 ws.flatten wr) := ⟨HS.out, hx, HO.out, HLOW.out⟩
    have HC : Hid (∀ w', NRow w' (some ⟨ba, oa, none⟩) l -> ElS gx (ox + k * 5) (ks.at k) X cx w' -> Calls Try.prog 33 #[.agg #[.slice (some ⟨ba, oa, none⟩) l.length c], .int .i64 (na_ : Int), .agg (vlC (ks.at k) X cx)] w' (AtP w' (wrV l na_ (ks.at k)))) := fun w' h1 h2 => HKC.out k hlt X cx w' h1 h2.cap h2.row
    have HBK := Lib.hid (HBAD.out k hlt)
    have HNX : Hid (∀ y, wrV l na_ (ks.at k) = some y -> ∀ j, j < k + 1 -> wrV l na_ (ks.at j) = some ((ws ++ [y]).getD j [])) := fun y hy j hj => by
     have hwl := HWL.out
     rcases Nat.lt_or_ge j k with h | h
     ·rw [HWS.out j h, List.getD_eq_getElem?_getD, List.getD_eq_getElem?_getD, List.getElem?_append_left (by omega)]
     ·obtain rfl : j = k := by omega
      rw [hy, List.getD_eq_getElem?_getD, List.getElem?_append_right (by omega), hwl, Nat.sub_self]; rfl
    have HBD := Lib.hid (HB2.out (k + 1) · (by omega))
    clear hx HS HO HLOW
    generalize wrV l na_ (ks.at k) = r at HC HBK HNX
    generalize ks.at k = x0 at HE0 HC
    obtain ⟨xk, xb, xt, xp, xs⟩ := x0
    rw [vlC_five] at HC
    simp only at HC
    have b0 := HE0.out.s.bv.cell 4
    go_upto_region 36 with (fail)
    clear b0
    refine wp_region_stable (S := (AtO w (some ⟨ba, oa, none⟩) l c ⟨6, (na_ : Int), nb_, nlo, nhi, ncls, ntext⟩ ⟨vk, vb, vt, vp, ks⟩ (some ⟨gx, ox, none⟩) cv gx (ox + k * 5) ⟨xk, xb, xt, xp, xs⟩ X cx u14 ws.flatten)) (hSt := fun _ _ h hb => h.later hb) (plan := [[(3, none)], [(8, none)], [(160, some 1)], [(5, none)], [(162, some 3)], [(15, none)], [(163, some 4), (164, some 5)], [(165, some 6)], [(159, some 0), (161, some 2), (166, some 7)], [(167, some 8)], [(158, some 9)], [(158, some 9)], [(168, some 10)], [(169, some 11)]]) (by kernel_rfl) (by kernel_rfl) (by kernel_rfl) ?hS ?_
    rotate_left
    iterate 8 first
     | (refine chain_skip (by rfl) (by rfl) ?_)
     | (apply chain_want (by rfl)
        ·intro act wx hS hr
         simp at hr
         obtain ⟨b0, b1, b2, b3, b4⟩ := vl_cells hS.s.bv
         have d0 := hS.s.box.cell 0
         simp at d0
         obtain ⟨f0, f1, f2, f3, f4, f5, f6, f7, f8, f9⟩ := ten_cells hS.s.who
         obtain ⟨p0, p1, p2, p3, p4⟩ := hS.e.five
         go_simp
         (try go_ints)
         first
          | (obtain ⟨x, hr1, sv, rfl, hx⟩ := hr; simp only [hr1, Option.getD_some]; go_simp; exact Done.same)
          | exact Done.same
       )
    (refine chain_rel (TupW r) (TupW.later r) (by rfl) ?_ ?_
     ·intro act wx hS hr
      simp at hr
      obtain ⟨b0, b1, b2, b3, b4⟩ := vl_cells hS.s.bv
      have d0 := hS.s.box.cell 0
      simp at d0
      obtain ⟨f0, f1, f2, f3, f4, f5, f6, f7, f8, f9⟩ := ten_cells hS.s.who
      obtain ⟨p0, p1, p2, p3, p4⟩ := hS.e.five
      all_goals go_simp
      ((with_reducible refine (HC.out _ hS.s.row hS.e).mono ?_); rintro e w' ⟨x, rfl, hx, hb⟩; exact Done.rel hb hx)
    )
    (refine chain_rel (TupW r) (TupW.later r) (by rfl) ?_ ?_
     ·intro act wx hS hr
      simp at hr
      obtain ⟨b0, b1, b2, b3, b4⟩ := vl_cells hS.s.bv
      have d0 := hS.s.box.cell 0
      simp at d0
      obtain ⟨f0, f1, f2, f3, f4, f5, f6, f7, f8, f9⟩ := ten_cells hS.s.who
      obtain ⟨p0, p1, p2, p3, p4⟩ := hS.e.five
      obtain ⟨x, hr1, hx⟩ := hr
      all_goals go_simp
      exact Done.rel (Below.refl _ _) hx
    )
    (refine chain_rel (IsWo r) (IsWo.later r) (by rfl) ?_ ?_
     ·intro act wx hS hr
      simp at hr
      obtain ⟨b0, b1, b2, b3, b4⟩ := vl_cells hS.s.bv
      have d0 := hS.s.box.cell 0
      simp at d0
      obtain ⟨f0, f1, f2, f3, f4, f5, f6, f7, f8, f9⟩ := ten_cells hS.s.who
      obtain ⟨p0, p1, p2, p3, p4⟩ := hS.e.five
      obtain ⟨x, hr1, sv, rfl, hx⟩ := hr
      all_goals go_simp
      exact Done.rel (Below.refl _ _) hx
    )
    iterate 1 first
     | (refine chain_skip (by rfl) (by rfl) ?_)
     | (apply chain_want (by rfl)
        ·intro act wx hS hr
         simp at hr
         obtain ⟨b0, b1, b2, b3, b4⟩ := vl_cells hS.s.bv
         have d0 := hS.s.box.cell 0
         simp at d0
         obtain ⟨f0, f1, f2, f3, f4, f5, f6, f7, f8, f9⟩ := ten_cells hS.s.who
         obtain ⟨p0, p1, p2, p3, p4⟩ := hS.e.five
         go_simp
         (try go_ints)
         first
          | (obtain ⟨x, hr1, sv, rfl, hx⟩ := hr; simp only [hr1, Option.getD_some]; go_simp; exact Done.same)
          | exact Done.same
       )
    (refine chain_rel (IsWo r) (IsWo.later r) (by rfl) ?_ ?_
     ·intro act wx hS hr
      simp at hr
      obtain ⟨b0, b1, b2, b3, b4⟩ := vl_cells hS.s.bv
      have d0 := hS.s.box.cell 0
      simp at d0
      obtain ⟨f0, f1, f2, f3, f4, f5, f6, f7, f8, f9⟩ := ten_cells hS.s.who
      obtain ⟨p0, p1, p2, p3, p4⟩ := hS.e.five
      obtain ⟨x, hr1, hx⟩ := hr
      all_goals go_simp
      exact Done.rel (Below.refl _ _) hx
    )
    iterate 1 first
     | (refine chain_skip (by rfl) (by rfl) ?_)
     | (apply chain_want (by rfl)
        ·intro act wx hS hr
         simp at hr
         obtain ⟨b0, b1, b2, b3, b4⟩ := vl_cells hS.s.bv
         have d0 := hS.s.box.cell 0
         simp at d0
         obtain ⟨f0, f1, f2, f3, f4, f5, f6, f7, f8, f9⟩ := ten_cells hS.s.who
         obtain ⟨p0, p1, p2, p3, p4⟩ := hS.e.five
         go_simp
         (try go_ints)
         first
          | (obtain ⟨x, hr1, sv, rfl, hx⟩ := hr; simp only [hr1, Option.getD_some]; go_simp; exact Done.same)
          | exact Done.same
       )
    show ∀ w', _ -> _
    intro w5 hz5
    simp [Act.put]
    case hS => exact HE0.out
    intro x1 _ x2 _ x3 _ x4 hx4
    have HS5 := Lib.hid hz5.s
    have HO5 := Lib.hid hz5.own
    have HL5 := Lib.hid hz5.low
    have HX5 := Lib.hid hx4
    clear hz5 hx4 HE0 HC
    cases r with
    | none =>
     have HE : Hid (rr = none) := HBK.out (.inl rfl)
     go_wp2
     go_ret2
     exact ⟨_, rfl, ⟨_, by rw [HE.out]; rfl, by rw [HE.out]; exact rfl⟩, HS5.out.bel⟩
    | some y =>
     have HX : Hid (IsW y x4 w5) := HX5.out
     obtain ⟨AW, capW, rfl, -⟩ := HX.out.len
     clear HX5
     by_cases hy : y = []
     ·have HE : Hid (rr = none) := HBK.out (.inr (by rw [hy]))
      have hyl : ((y.length : Nat) : Int) == 0 := by rw [hy]; rfl
      have hyl2 : (((y.length : Nat) : Int) == 0) = true := hyl
      have hyn : y.length = 0 := by rw [hy]; rfl
      have HYN := Lib.hid hyn
      clear hy hyl hyn
      go_wp2
      go_ret2
      exact ⟨_, rfl, ⟨_, by rw [HE.out]; rfl, by rw [HE.out]; exact rfl⟩, HS5.out.bel⟩
     ·have hyl2 : (((y.length : Nat) : Int) == 0) = false := by rw [beq_eq_false_iff_ne]; have := List.length_pos_iff.2 hy; omega
      have HN2 := Lib.hid (HNX.out y rfl)
      have HNE2 : Hid (∀ z ∈ ws ++ [y], z ≠ []) := fun z hz => by
       rcases List.mem_append.1 hz with h | h
       ·exact HNE.out z h
       ·rw [List.mem_singleton.1 h]; exact hy
      have HLN : Hid ((ws ++ [y]).length = k + 1) := by unfold Hid; rw [List.length_append, HWL.out]; rfl
      have hbd := HBD.out (ws ++ [y]) HLN.out HN2.out
      have hfl : (ws ++ [y]).flatten = ws.flatten ++ y := by simp
      rw [hfl, List.length_append] at hbd
      have HFL := Lib.hid hfl
      clear hy hfl HBK HNX
      go_wp2_with (at_builtin; refine wpList_append_w rfl _ _ rfl (w.heap.size + 3) u14 ws.flatten rfl HO5.out y (.slice AW y.length capW) rfl HX.out (by omega) HL5.out ?_; intro v6 w6 h1 h2; rw [<- HFL.out] at h1; have HO6 := Lib.hid h1; have HB6 := Lib.hid ((Below.refl (w.heap.size + 3) w5).grown h2 HL5.out (fun k hk => (World.ownsRow.lt HO5.out k hk).1)); clear h1 h2)
      have HS6 := Lib.hid (HS5.out.grown HR0.out HK0.out HB6.out)
      go_roundw
      case rel => exact ⟨k + 1, ws ++ [y], by simp only; omega, by go_num, HLN.out, HN2.out, HNE2.out, HS6.out, HO6.out, Nat.le_trans HL5.out HB6.out.size⟩
      case measure => simp [intOf]; omega
   ·obtain rfl : k = ks.len := by omega
    have hlast : ¬ ((ks.len : Nat) : Int) < (ks.len : Int) := by omega
    have HE : Hid (rr = some ws.flatten) := HYES.out ws HPP.out HP7.out HWL.out HWS.out HNE.out
    have hbd := HB2.out ks.len ws (Nat.le_refl _) HWL.out HWS.out
    have HI := Lib.hid (own_isW HO.out (by omega))
    clear hbd HWS HNE HWL HBAD HNO HYES HB2 HKC
    go_wp2
    go_ret2
    exact ⟨_, rfl, ⟨u14, by rw [HE.out]; rfl, by rw [HE.out]; exact HI.out⟩, HS.out.bel⟩
 ·rw [decide_eq_false hp] at HPV
  have HE : Hid (rr = none) := HNO.out (fun h => hp h.1)
  clear HBAD HNO HYES HB2 HKC
  clear hp HP
  go_wp2_with fail
  refine (HPV.out _ HS2.out).mono ?_; rintro e w3 ⟨rfl, hb⟩
  have HS3 := Lib.hid (HS2.out.later hb)
  clear hb HPV HS2 d0 b0 b1 b2 b3 b4 f0 f1 f2 f3 f4 f5 f6 f7 f8 f9
  go_wp2
  go_ret2
  exact ⟨_, rfl, ⟨_, by rw [HE.out]; rfl, by rw [HE.out]; exact rfl⟩, HS3.out.bel⟩
theorem at_rep (l : List Nd) (A : Option Addr) (c : Nat) (i : Nat) (hi : i < l.length) (hlen : l.length <= 536870912) (na_ : Nat) (nb_ : Int) (ncls : BitVec 256) (ntext : List UInt8) (nlo nhi : Int) (hn : atN l i = ⟨7, (na_ : Int), nb_, nlo, nhi, ncls, ntext⟩)
 (v : Vl) (hv : v.kids.len < 4611686018427387904) (B : Option Addr) (cv : Nat) (hcv : v.kids.len <= cv) (w : World) (hrow : NRow w A l) (hkr : VRow w B 0 v.kids) (hb2 : ∀ (k : Nat) (ws : List Wd), k <= v.kids.len -> ws.length = k -> (∀ j, j < k -> wrV l na_ (v.kids.at j) = some (ws.getD j [])) -> ws.flatten.length <= 400000000) (hkc : ∀ j, j < v.kids.len -> KidC A l c na_ (v.kids.at j)) (hlo : 0 <= nlo /\ nlo <= 255) (hhi : 0 <= nhi /\ nhi <= 255) :
 Calls Try.prog 33 #[.agg #[.slice A l.length c], .int .i64 (i : Int), .agg (vlC v B cv)] w (AtP w (wrV l i v)) := by
 have HW := Lib.hid ((trivial : True))
 have HS2 := Lib.hid (AtS.new w A l c (l.getD i nd0) v B cv hrow hkr)
 obtain ⟨ba, oa, rfl, hbl, -⟩ := hrow i hi
 have g : At10 w ba (oa + i * 10) (l.getD i nd0) := hrow.at hi rfl
 have hiz : (i : Int) < (l.length : Int) := by omega
 have hn2 : l.getD i nd0 = ⟨7, (na_ : Int), nb_, nlo, nhi, ncls, ntext⟩ := hn
 rw [hn2] at g HS2
 have HP : Hid (∀ u w', IsV w' u v -> Calls Try.prog 53 #[u, .int .i64 7, .int .u8 (((0 : UInt8).toNat : Nat) : Int), .string (bs []), .int .i64 0, .int .i64 ((v.kids.len : Nat) : Int)] w' (Ans w' (.bool (decide (plainP v 7 (0 : UInt8) [] 0 v.kids.len))))) := fun u w' h => rplain_any v 7 (0 : UInt8) [] 0 v.kids.len hv u w' h
 have HBAD : Hid (∀ j, j < v.kids.len -> (wrV l na_ (v.kids.at j) = none \/ wrV l na_ (v.kids.at j) = some []) -> wrV l i v = none) := fun j hj h => wr_k67_bad (v := v) hn (.inr rfl) hj (by simp only [Int.toNat_natCast]; exact h)
 have HNO : Hid (¬ (plainP v 7 0 [] 0 v.kids.len /\ ((7 : Int) = 7 -> nlo <= (v.kids.len : Int) /\ (v.kids.len : Int) <= nhi)) -> wrV l i v = none) := fun h => wr_k67_no (v := v) hn (.inr rfl) h
 have HYES : Hid (∀ ws : List Wd, plainP v 7 0 [] 0 v.kids.len -> ((7 : Int) = 7 -> nlo <= (v.kids.len : Int) /\ (v.kids.len : Int) <= nhi) -> ws.length = v.kids.len -> (∀ j, j < v.kids.len -> wrV l na_ (v.kids.at j) = some (ws.getD j [])) -> (∀ x ∈ ws, x ≠ []) -> wrV l i v = some ws.flatten) := fun ws h h7 hl hw hne => wr_k67 (v := v) hn (.inr rfl) h h7 hl (by simp only [Int.toNat_natCast]; exact hw) hne
 have HKC := Lib.hid hkc
 have HB2 := Lib.hid hb2
 have HR0 := Lib.hid hrow
 have HK0 := Lib.hid hkr
 clear hkc hb2
 generalize wrV l i v = rr at *
 clear hrow hkr hn hn2
 unfold At10 at g
 simp only at g
 obtain ⟨g0, g1, g2, g3, g4, g5, g6, g7, g8, g9⟩ := g
 have hl0 : ∀ o, ((w.alloc (.cells #[.slice (some ⟨ba, oa, none⟩) l.length c] 24)).alloc (.cells (vlC v B cv) 32)).cell? ⟨ba, o, none⟩ = w.cell? ⟨ba, o, none⟩ := fun o => (((Below.refl w.heap.size w).alloc (Nat.le_refl _) (.cells #[.slice (some ⟨ba, oa, none⟩) l.length c] 24)).alloc (by simp) (.cells (vlC v B cv) 32)).cell (p := ⟨ba, o, none⟩) hbl
 have HBX : Hid (Blk ((w.alloc (.cells #[.slice (some ⟨ba, oa, none⟩) l.length c] 24)).alloc (.cells (vlC v B cv) 32)) w.heap.size #[.slice (some ⟨ba, oa, none⟩) l.length c] 24) := (Blk.new _ _ _).alloc _
 rw [<- hl0] at g0 g1 g2 g3 g4 g5 g6 g7 g8 g9
 clear hl0
 obtain ⟨vk, vb, vt, vp, ks⟩ := v
 rw [vlC_five] at *
 unfold ndC at HS2
 simp only at *
 go_enter Try.func33, Try.ntmps33
 go_upto_region 1 with (fail)
 have hsz1 : ((w.alloc (.cells #[.slice (some ⟨ba, oa, none⟩) l.length c] 24)).alloc (.cells #[.int .i64 vk, .int .u8 ((vb.toNat : Nat) : Int), .string (bs vt), .int .i64 vp, .slice B ks.len cv] 32)).heap.size = w.heap.size + 2 := by simp
 generalize (w.alloc (.cells #[.slice (some ⟨ba, oa, none⟩) l.length c] 24)).alloc (.cells #[.int .i64 vk, .int .u8 ((vb.toNat : Nat) : Int), .string (bs vt), .int .i64 vp, .slice B ks.len cv] 32) = w1 at *
 have e0 := HBX.out.cell 0
 simp at e0
 go_upto_region 2 with (fail)
 rw [hsz1] at *
 clear g0 g1 g2 g3 g4 g5 g6 g7 g8 g9 e0 HBX
 generalize w1.alloc (.cells #[.int .i64 7, .int .i64 (na_ : Int), .int .i64 nb_, .int .i64 nlo, .int .i64 nhi, .int .u64 (wd ncls 0), .int .u64 (wd ncls 1), .int .u64 (wd ncls 2), .int .u64 (wd ncls 3), .string (bs ntext)] 44) = w2 at *
 clear hsz1
 have d0 := HS2.out.box.cell 0
 simp at d0
 obtain ⟨b0, b1, b2, b3, b4⟩ := vl_cells HS2.out.bv
 obtain ⟨f0, f1, f2, f3, f4, f5, f6, f7, f8, f9⟩ := ten_cells HS2.out.who
 have HPV := Lib.hid (fun w' (h : AtS w (some ⟨ba, oa, none⟩) l c ⟨7, (na_ : Int), nb_, nlo, nhi, ncls, ntext⟩ ⟨vk, vb, vt, vp, ks⟩ B cv w') => HP.out (.agg (vlC ⟨vk, vb, vt, vp, ks⟩ B cv) ) w' ⟨B, cv, hcv, rfl, h.kids⟩)
 unfold vlC at HPV
 simp only [bs_nil] at HPV
 obtain ⟨hlo1, hlo2⟩ := hlo
 obtain ⟨hhi1, hhi2⟩ := hhi
 by_cases hp : plainP ⟨vk, vb, vt, vp, ks⟩ 7 0 [] 0 ks.len
 ·rw [decide_eq_true hp] at HPV
  have HPP := Lib.hid hp
  clear hp HP
  by_cases hl1 : nlo <= (ks.len : Int)
  ·have l1 : ¬ (ks.len : Int) < nlo := by omega
   have l1d : decide ((ks.len : Int) < nlo) = false := decide_eq_false l1
   by_cases hl2 : (ks.len : Int) <= nhi
   ·have l2 : ¬ (ks.len : Int) > nhi := by omega
    have l2d : decide ((ks.len : Int) > nhi) = false := decide_eq_false l2
    have HP7 : Hid ((7 : Int) = 7 -> nlo <= (ks.len : Int) /\ (ks.len : Int) <= nhi) := fun _ => ⟨hl1, hl2⟩
    clear hl1 hl2
    go_wp2_with fail
    refine (HPV.out _ HS2.out).mono ?_; rintro e w3 ⟨rfl, hb⟩
    have HS3 := Lib.hid (HS2.out.later hb)
    clear hb HPV HS2 d0 b0 b1 b2 b3 b4 f0 f1 f2 f3 f4 f5 f6 f7 f8 f9
    have d0 := HS3.out.box.cell 0
    simp at d0
    obtain ⟨b0, b1, b2, b3, b4⟩ := vl_cells HS3.out.bv
    obtain ⟨f0, f1, f2, f3, f4, f5, f6, f7, f8, f9⟩ := ten_cells HS3.out.who
    have hal := (Below.refl w3.heap.size w3).alloc (Nat.le_refl _) (.cells #[] 5)
    have hsz3 : w.heap.size + 3 <= w3.heap.size := by have := HS3.out.who.lt; omega
    have HS4 := Lib.hid (HS3.out.later hal)
    have HL4 : Hid (w.heap.size + 3 <= (w3.alloc (.cells #[] 5)).heap.size) := Nat.le_trans hsz3 hal.size
    have HO4 : Hid (Own8 (w3.alloc (.cells #[] 5)) (w.heap.size + 3) (.slice (some ⟨w3.heap.size, 0, none⟩) 0 0) (nats [])) := own8_lower (own_new (w := w3) (W := []) (cs := #[]) rfl (by decide)) hsz3
    clear hal hsz3
    go_upto_region 33 with (fail)
    clear d0 b0 b1 b2 b3 b4 f0 f1 f2 f3 f4 f5 f6 f7 f8 f9 HS3
    generalize w3.alloc (.cells #[] 5) = w4 at *
    generalize w3.heap.size = bo at *
    go_wp2
    go_loopw [14, 15] (AtL w (some ⟨ba, oa, none⟩) l c ⟨7, (na_ : Int), nb_, nlo, nhi, ncls, ntext⟩ ⟨vk, vb, vt, vp, ks⟩ B cv na_) (fun _ x _ => ks.len - (intOf x).toNat)
    case atStart => exact ⟨0, [], Nat.zero_le _, rfl, rfl, fun j hj => absurd hj (Nat.not_lt_zero j), fun y hy => (by cases hy), HS4.out, HO4.out, HL4.out⟩
    case round =>
     obtain ⟨k, ws, hk, rfl, hwl, hws, hne, hs, ho, hlow⟩ := hrel
     simp only at hk hws
     have HS := Lib.hid hs
     have HO := Lib.hid ho
     have HLOW := Lib.hid hlow
     have HWS := Lib.hid hws
     have HNE := Lib.hid hne
     have HWL := Lib.hid hwl
     clear hs ho hlow hws hne hwl HS4 HO4 HL4
     by_cases hlt : k < ks.len
     ·have hltz : (k : Int) < (ks.len : Int) := by omega
      obtain ⟨gx, ox, X, cx, rfl, hx⟩ := VRow.el HS.out.kids (j := k) (by simp only; omega)
      have HE0 : Hid (AtO w (some ⟨ba, oa, none⟩) l c ⟨7, (na_ : Int), nb_, nlo, nhi, ncls, ntext⟩ ⟨vk, vb, vt, vp, ks⟩ (some ⟨gx, ox, none⟩) cv gx (ox + k * 5) (ks.at k) X cx u14 ws.flatten wr) := ⟨HS.out, hx, HO.out, HLOW.out⟩
      have HC : Hid (∀ w', NRow w' (some ⟨ba, oa, none⟩) l -> ElS gx (ox + k * 5) (ks.at k) X cx w' -> Calls Try.prog 33 #[.agg #[.slice (some ⟨ba, oa, none⟩) l.length c], .int .i64 (na_ : Int), .agg (vlC (ks.at k) X cx)] w' (AtP w' (wrV l na_ (ks.at k)))) := fun w' h1 h2 => HKC.out k hlt X cx w' h1 h2.cap h2.row
      have HBK := Lib.hid (HBAD.out k hlt)
      have HNX : Hid (∀ y, wrV l na_ (ks.at k) = some y -> ∀ j, j < k + 1 -> wrV l na_ (ks.at j) = some ((ws ++ [y]).getD j [])) := fun y hy j hj => by
       have hwl := HWL.out
       rcases Nat.lt_or_ge j k with h | h
       ·rw [HWS.out j h, List.getD_eq_getElem?_getD, List.getD_eq_getElem?_getD, List.getElem?_append_left (by omega)]
       ·obtain rfl : j = k := by omega
        rw [hy, List.getD_eq_getElem?_getD, List.getElem?_append_right (by omega), hwl, Nat.sub_self]; rfl
      have HBD := Lib.hid (HB2.out (k + 1) · (by omega))
      clear hx HS HO HLOW
      generalize wrV l na_ (ks.at k) = r at HC HBK HNX
      generalize ks.at k = x0 at HE0 HC
      obtain ⟨xk, xb, xt, xp, xs⟩ := x0
      rw [vlC_five] at HC
      simp only at HC
      have b0 := HE0.out.s.bv.cell 4
      go_upto_region 36 with (fail)
      clear b0
      refine wp_region_stable (S := (AtO w (some ⟨ba, oa, none⟩) l c ⟨7, (na_ : Int), nb_, nlo, nhi, ncls, ntext⟩ ⟨vk, vb, vt, vp, ks⟩ (some ⟨gx, ox, none⟩) cv gx (ox + k * 5) ⟨xk, xb, xt, xp, xs⟩ X cx u14 ws.flatten)) (hSt := fun _ _ h hb => h.later hb) (plan := [[(3, none)], [(8, none)], [(160, some 1)], [(5, none)], [(162, some 3)], [(15, none)], [(163, some 4), (164, some 5)], [(165, some 6)], [(159, some 0), (161, some 2), (166, some 7)], [(167, some 8)], [(158, some 9)], [(158, some 9)], [(168, some 10)], [(169, some 11)]]) (by kernel_rfl) (by kernel_rfl) (by kernel_rfl) ?hS ?_
      rotate_left
      iterate 8 first
       | (refine chain_skip (by rfl) (by rfl) ?_)
       | (apply chain_want (by rfl)
          ·intro act wx hS hr
           simp at hr
           obtain ⟨b0, b1, b2, b3, b4⟩ := vl_cells hS.s.bv
           have d0 := hS.s.box.cell 0
           simp at d0
           obtain ⟨f0, f1, f2, f3, f4, f5, f6, f7, f8, f9⟩ := ten_cells hS.s.who
           obtain ⟨p0, p1, p2, p3, p4⟩ := hS.e.five
           go_simp
           (try go_ints)
           first
            | (obtain ⟨x, hr1, sv, rfl, hx⟩ := hr; simp only [hr1, Option.getD_some]; go_simp; exact Done.same)
            | exact Done.same
         )
      (refine chain_rel (TupW r) (TupW.later r) (by rfl) ?_ ?_
       ·intro act wx hS hr
        simp at hr
        obtain ⟨b0, b1, b2, b3, b4⟩ := vl_cells hS.s.bv
        have d0 := hS.s.box.cell 0
        simp at d0
        obtain ⟨f0, f1, f2, f3, f4, f5, f6, f7, f8, f9⟩ := ten_cells hS.s.who
        obtain ⟨p0, p1, p2, p3, p4⟩ := hS.e.five
        all_goals go_simp
        ((with_reducible refine (HC.out _ hS.s.row hS.e).mono ?_); rintro e w' ⟨x, rfl, hx, hb⟩; exact Done.rel hb hx)
      )
      (refine chain_rel (TupW r) (TupW.later r) (by rfl) ?_ ?_
       ·intro act wx hS hr
        simp at hr
        obtain ⟨b0, b1, b2, b3, b4⟩ := vl_cells hS.s.bv
        have d0 := hS.s.box.cell 0
        simp at d0
        obtain ⟨f0, f1, f2, f3, f4, f5, f6, f7, f8, f9⟩ := ten_cells hS.s.who
        obtain ⟨p0, p1, p2, p3, p4⟩ := hS.e.five
        obtain ⟨x, hr1, hx⟩ := hr
        all_goals go_simp
        exact Done.rel (Below.refl _ _) hx
      )
      (refine chain_rel (IsWo r) (IsWo.later r) (by rfl) ?_ ?_
       ·intro act wx hS hr
        simp at hr
        obtain ⟨b0, b1, b2, b3, b4⟩ := vl_cells hS.s.bv
        have d0 := hS.s.box.cell 0
        simp at d0
        obtain ⟨f0, f1, f2, f3, f4, f5, f6, f7, f8, f9⟩ := ten_cells hS.s.who
        obtain ⟨p0, p1, p2, p3, p4⟩ := hS.e.five
        obtain ⟨x, hr1, sv, rfl, hx⟩ := hr
        all_goals go_simp
        exact Done.rel (Below.refl _ _) hx
      )
      iterate 1 first
       | (refine chain_skip (by rfl) (by rfl) ?_)
       | (apply chain_want (by rfl)
          ·intro act wx hS hr
           simp at hr
           obtain ⟨b0, b1, b2, b3, b4⟩ := vl_cells hS.s.bv
           have d0 := hS.s.box.cell 0
           simp at d0
           obtain ⟨f0, f1, f2, f3, f4, f5, f6, f7, f8, f9⟩ := ten_cells hS.s.who
           obtain ⟨p0, p1, p2, p3, p4⟩ := hS.e.five
           go_simp
           (try go_ints)
           first
            | (obtain ⟨x, hr1, sv, rfl, hx⟩ := hr; simp only [hr1, Option.getD_some]; go_simp; exact Done.same)
            | exact Done.same
         )
      (refine chain_rel (IsWo r) (IsWo.later r) (by rfl) ?_ ?_
       ·intro act wx hS hr
        simp at hr
        obtain ⟨b0, b1, b2, b3, b4⟩ := vl_cells hS.s.bv
        have d0 := hS.s.box.cell 0
        simp at d0
        obtain ⟨f0, f1, f2, f3, f4, f5, f6, f7, f8, f9⟩ := ten_cells hS.s.who
        obtain ⟨p0, p1, p2, p3, p4⟩ := hS.e.five
        obtain ⟨x, hr1, hx⟩ := hr
        all_goals go_simp
        exact Done.rel (Below.refl _ _) hx
      )
      iterate 1 first
       | (refine chain_skip (by rfl) (by rfl) ?_)
       | (apply chain_want (by rfl)
          ·intro act wx hS hr
           simp at hr
           obtain ⟨b0, b1, b2, b3, b4⟩ := vl_cells hS.s.bv
           have d0 := hS.s.box.cell 0
           simp at d0
           obtain ⟨f0, f1, f2, f3, f4, f5, f6, f7, f8, f9⟩ := ten_cells hS.s.who
           obtain ⟨p0, p1, p2, p3, p4⟩ := hS.e.five
           go_simp
           (try go_ints)
           first
            | (obtain ⟨x, hr1, sv, rfl, hx⟩ := hr; simp only [hr1, Option.getD_some]; go_simp; exact Done.same)
            | exact Done.same
         )
      show ∀ w', _ -> _
      intro w5 hz5
      simp [Act.put]
      case hS => exact HE0.out
      intro x1 _ x2 _ x3 _ x4 hx4
      have HS5 := Lib.hid hz5.s
      have HO5 := Lib.hid hz5.own
      have HL5 := Lib.hid hz5.low
      have HX5 := Lib.hid hx4
      clear hz5 hx4 HE0 HC
      cases r with
      | none =>
       have HE : Hid (rr = none) := HBK.out (.inl rfl)
       go_wp2
       go_ret2
       exact ⟨_, rfl, ⟨_, by rw [HE.out]; rfl, by rw [HE.out]; exact rfl⟩, HS5.out.bel⟩
      | some y =>
       have HX : Hid (IsW y x4 w5) := HX5.out
       obtain ⟨AW, capW, rfl, -⟩ := HX.out.len
       clear HX5
       by_cases hy : y = []
       ·have HE : Hid (rr = none) := HBK.out (.inr (by rw [hy]))
        have hyl : ((y.length : Nat) : Int) == 0 := by rw [hy]; rfl
        have hyl2 : (((y.length : Nat) : Int) == 0) = true := hyl
        have hyn : y.length = 0 := by rw [hy]; rfl
        have HYN := Lib.hid hyn
        clear hy hyl hyn
        go_wp2
        go_ret2
        exact ⟨_, rfl, ⟨_, by rw [HE.out]; rfl, by rw [HE.out]; exact rfl⟩, HS5.out.bel⟩
       ·have hyl2 : (((y.length : Nat) : Int) == 0) = false := by rw [beq_eq_false_iff_ne]; have := List.length_pos_iff.2 hy; omega
        have HN2 := Lib.hid (HNX.out y rfl)
        have HNE2 : Hid (∀ z ∈ ws ++ [y], z ≠ []) := fun z hz => by
         rcases List.mem_append.1 hz with h | h
         ·exact HNE.out z h
         ·rw [List.mem_singleton.1 h]; exact hy
        have HLN : Hid ((ws ++ [y]).length = k + 1) := by unfold Hid; rw [List.length_append, HWL.out]; rfl
        have hbd := HBD.out (ws ++ [y]) HLN.out HN2.out
        have hfl : (ws ++ [y]).flatten = ws.flatten ++ y := by simp
        rw [hfl, List.length_append] at hbd
        have HFL := Lib.hid hfl
        clear hy hfl HBK HNX
        go_wp2_with (at_builtin; refine wpList_append_w rfl _ _ rfl (w.heap.size + 3) u14 ws.flatten rfl HO5.out y (.slice AW y.length capW) rfl HX.out (by omega) HL5.out ?_; intro v6 w6 h1 h2; rw [<- HFL.out] at h1; have HO6 := Lib.hid h1; have HB6 := Lib.hid ((Below.refl (w.heap.size + 3) w5).grown h2 HL5.out (fun k hk => (World.ownsRow.lt HO5.out k hk).1)); clear h1 h2)
        have HS6 := Lib.hid (HS5.out.grown HR0.out HK0.out HB6.out)
        go_roundw
        case rel => exact ⟨k + 1, ws ++ [y], by simp only; omega, by go_num, HLN.out, HN2.out, HNE2.out, HS6.out, HO6.out, Nat.le_trans HL5.out HB6.out.size⟩
        case measure => simp [intOf]; omega
     ·obtain rfl : k = ks.len := by omega
      have hlast : ¬ ((ks.len : Nat) : Int) < (ks.len : Int) := by omega
      have HE : Hid (rr = some ws.flatten) := HYES.out ws HPP.out HP7.out HWL.out HWS.out HNE.out
      have hbd := HB2.out ks.len ws (Nat.le_refl _) HWL.out HWS.out
      have HI := Lib.hid (own_isW HO.out (by omega))
      clear hbd HWS HNE HWL HBAD HNO HYES HB2 HKC
      go_wp2
      go_ret2
      exact ⟨_, rfl, ⟨u14, by rw [HE.out]; rfl, by rw [HE.out]; exact HI.out⟩, HS.out.bel⟩
   ·have l2 : (ks.len : Int) > nhi := by omega
    have l2d : decide ((ks.len : Int) > nhi) = true := decide_eq_true l2
    have HE : Hid (rr = none) := HNO.out (fun h => hl2 (h.2 (by trivial)).2)
    clear HBAD HNO HYES HB2 HKC
    clear hl1 hl2
    go_wp2_with fail
    refine (HPV.out _ HS2.out).mono ?_; rintro e w3 ⟨rfl, hb⟩
    have HS3 := Lib.hid (HS2.out.later hb)
    clear hb HPV HS2 d0 b0 b1 b2 b3 b4 f0 f1 f2 f3 f4 f5 f6 f7 f8 f9
    have d0 := HS3.out.box.cell 0
    simp at d0
    obtain ⟨b0, b1, b2, b3, b4⟩ := vl_cells HS3.out.bv
    obtain ⟨f0, f1, f2, f3, f4, f5, f6, f7, f8, f9⟩ := ten_cells HS3.out.who
    go_wp2
    go_ret2
    exact ⟨_, rfl, ⟨_, by rw [HE.out]; rfl, by rw [HE.out]; exact rfl⟩, HS3.out.bel⟩
  ·have l1 : (ks.len : Int) < nlo := by omega
   have l1d : decide ((ks.len : Int) < nlo) = true := decide_eq_true l1
   have HE : Hid (rr = none) := HNO.out (fun h => hl1 (h.2 (by trivial)).1)
   clear HBAD HNO HYES HB2 HKC
   clear hl1
   go_wp2_with fail
   refine (HPV.out _ HS2.out).mono ?_; rintro e w3 ⟨rfl, hb⟩
   have HS3 := Lib.hid (HS2.out.later hb)
   clear hb HPV HS2 d0 b0 b1 b2 b3 b4 f0 f1 f2 f3 f4 f5 f6 f7 f8 f9
   have d0 := HS3.out.box.cell 0
   simp at d0
   obtain ⟨b0, b1, b2, b3, b4⟩ := vl_cells HS3.out.bv
   obtain ⟨f0, f1, f2, f3, f4, f5, f6, f7, f8, f9⟩ := ten_cells HS3.out.who
   go_wp2
   go_ret2
   exact ⟨_, rfl, ⟨_, by rw [HE.out]; rfl, by rw [HE.out]; exact rfl⟩, HS3.out.bel⟩
 ·rw [decide_eq_false hp] at HPV
  have HE : Hid (rr = none) := HNO.out (fun h => hp h.1)
  clear HBAD HNO HYES HB2 HKC
  clear hp HP
  go_wp2_with fail
  refine (HPV.out _ HS2.out).mono ?_; rintro e w3 ⟨rfl, hb⟩
  have HS3 := Lib.hid (HS2.out.later hb)
  clear hb HPV HS2 d0 b0 b1 b2 b3 b4 f0 f1 f2 f3 f4 f5 f6 f7 f8 f9
  go_wp2
  go_ret2
  exact ⟨_, rfl, ⟨_, by rw [HE.out]; rfl, by rw [HE.out]; exact rfl⟩, HS3.out.bel⟩
end Go.Proofs.Ytpbbokdmoaadfaa
