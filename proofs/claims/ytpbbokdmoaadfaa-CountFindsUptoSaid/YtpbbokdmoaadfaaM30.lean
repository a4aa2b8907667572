/- What a value writes: the document's walk, one node. -/
import Derived.Test.YtpbbokdmoaadfaaM27
import Derived.Test.YtpbbokdmoaadfaaM18
import Derived.Test.YtpbbokdmoaadfaaM29
import Derived.Test.YtpbbokdmoaadfaaM05
import Derived.Lib.ConvBytes
namespace Go.Proofs.Ytpbbokdmoaadfaa
set_option maxHeartbeats 64000000
set_option maxRecDepth 1000000
set_option linter.all false
open Go Go.RowKit
def IsWo (r : Option Wd) (v : Value) (w : World) : Prop := match r with | none => v = .slice none 0 0 | some W => IsW W v w
theorem IsWo.later (r : Option Wd) : ∀ v w w', IsWo r v w -> Below w.heap.size w w' -> IsWo r v w' := fun v w w' h hb => by
 cases r with
 | none => exact h
 | some W => exact IsW.later h hb
def TupW (r : Option Wd) (x : Value) (w : World) : Prop := ∃ sv, x = .tuple #[sv, .bool r.isSome] /\ IsWo r sv w
theorem TupW.later (r : Option Wd) : ∀ v w w', TupW r v w -> Below w.heap.size w w' -> TupW r v w' := fun v w w' ⟨sv, h1, h2⟩ hb => ⟨sv, h1, IsWo.later r sv w w' h2 hb⟩
def AtP (w : World) (r : Option Wd) (e : Ending) (w' : World) : Prop := ∃ x, e = .returned x /\ TupW r x w' /\ Below w.heap.size w w'
structure AtS (w0 : World) (A : Option Addr) (l : List Nd) (c : Nat) (n : Nd) (v : Vl) (B : Option Addr) (cv : Nat) (w : World) : Prop where
 bel : Below w0.heap.size w0 w
 row : NRow w A l
 box : Blk w w0.heap.size #[.slice A l.length c] 24
 bv : Blk w (w0.heap.size + 1) (vlC v B cv) 32
 who : Blk w (w0.heap.size + 2) (ndC n) 44
 kids : VRow w B 0 v.kids
theorem AtS.later {w0 w w' : World} {A : Option Addr} {l : List Nd} {c : Nat} {n : Nd} {v : Vl} {B : Option Addr} {cv : Nat} (h : AtS w0 A l c n v B cv w) (hb : Below w.heap.size w w') : AtS w0 A l c n v B cv w' :=
 ⟨h.bel.trans (hb.mono h.bel.size), h.row.later hb, h.box.later hb, h.bv.later hb, h.who.later hb, h.kids.later hb⟩
theorem AtS.new (w : World) (A : Option Addr) (l : List Nd) (c : Nat) (n : Nd) (v : Vl) (B : Option Addr) (cv : Nat) (h : NRow w A l) (k : VRow w B 0 v.kids) :
 AtS w A l c n v B cv (((w.alloc (.cells #[.slice A l.length c] 24)).alloc (.cells (vlC v B cv) 32)).alloc (.cells (ndC n) 44)) := by
 have HB := (((Below.refl w.heap.size w).alloc (Nat.le_refl _) (.cells #[.slice A l.length c] 24)).alloc (by simp) (.cells (vlC v B cv) 32)).alloc (by simp; omega) (.cells (ndC n) 44)
 exact ⟨HB, h.later HB, ((Blk.new w _ _).alloc _).alloc _, (Blk.new' (by simp) _ _).alloc _, Blk.new' (by simp) _ _, k.later HB⟩
structure AtE (w0 : World) (A : Option Addr) (l : List Nd) (c : Nat) (n : Nd) (v : Vl) (B : Option Addr) (cv : Nat) (g o : Nat) (y : Vl) (Y : Option Addr) (cy : Nat) (g2 o2 : Nat) (y2 : Vl) (Y2 : Option Addr) (cy2 : Nat) (w : World) : Prop where
 s : AtS w0 A l c n v B cv w
 e : ElS g o y Y cy w
 e2 : ElS g2 o2 y2 Y2 cy2 w
theorem AtE.later {w0 w w' : World} {A : Option Addr} {l : List Nd} {c : Nat} {n : Nd} {v : Vl} {B : Option Addr} {cv g o : Nat} {y : Vl} {Y : Option Addr} {cy : Nat} {g2 o2 : Nat} {y2 : Vl} {Y2 : Option Addr} {cy2 : Nat} (h : AtE w0 A l c n v B cv g o y Y cy g2 o2 y2 Y2 cy2 w) (hb : Below w.heap.size w w') : AtE w0 A l c n v B cv g o y Y cy g2 o2 y2 Y2 cy2 w' := ⟨h.s.later hb, h.e.later hb, h.e2.later hb⟩
structure AtF (w0 : World) (A : Option Addr) (l : List Nd) (c : Nat) (n : Nd) (v : Vl) (B : Option Addr) (cv : Nat) (g o : Nat) (y : Vl) (Y : Option Addr) (cy : Nat) (r : Option Wd) (x : Value) (w : World) : Prop where
 s : AtS w0 A l c n v B cv w
 e : ElS g o y Y cy w
 o : IsWo r x w
theorem AtF.later {w0 w w' : World} {A : Option Addr} {l : List Nd} {c : Nat} {n : Nd} {v : Vl} {B : Option Addr} {cv g o : Nat} {y : Vl} {Y : Option Addr} {cy : Nat} {r : Option Wd} {x : Value} (h : AtF w0 A l c n v B cv g o y Y cy r x w) (hb : Below w.heap.size w w') : AtF w0 A l c n v B cv g o y Y cy r x w' := ⟨h.s.later hb, h.e.later hb, IsWo.later r x w w' h.o hb⟩
theorem own8_lower {w : World} {base base' : Nat} {v : Value} {l : List Nat} (h : Own8 w base v l) (hb : base' <= base) : Own8 w base' v l := by
 obtain ⟨h0, ⟨hv, hn⟩ | ⟨g, cap, cur, hv, hg, hr⟩⟩ := h
 ·exact ⟨h0, .inl ⟨hv, hn⟩⟩
 ·exact ⟨h0, .inr ⟨g, cap, cur, hv, Nat.le_trans hb hg, hr⟩⟩
def KidC (A : Option Addr) (l : List Nd) (c : Nat) (q : Nat) (y : Vl) : Prop := ∀ (Y : Option Addr) (cy : Nat) (w : World), NRow w A l -> y.kids.len <= cy -> VRow w Y 0 y.kids ->
 Calls Try.prog 33 #[.agg #[.slice A l.length c], .int .i64 (q : Int), .agg (vlC y Y cy)] w (AtP w (wrV l q y))
theorem at_four (l : List Nd) (A : Option Addr) (c : Nat) (i : Nat) (hi : i < l.length) (hlen : l.length <= 536870912) (nb_ : Nat) (na_ : Nat) (ncls : BitVec 256) (ntext : List UInt8) (nlo nhi : Int) (hn : atN l i = ⟨4, (na_ : Int), (nb_ : Int), nlo, nhi, ncls, ntext⟩)
 (v : Vl) (hv : v.kids.len < 4611686018427387904) (B : Option Addr) (cv : Nat) (hcv : v.kids.len <= cv) (w : World) (hrow : NRow w A l) (hkr : VRow w B 0 v.kids) (hb1 : ∀ j q W, j < v.kids.len -> wrV l q (v.kids.at j) = some W -> W.length <= 400000000)
 (hkc : ∀ j q, j < v.kids.len -> q < i -> KidC A l c q (v.kids.at j)) (hna : na_ < i) (hnb : nb_ < i) :
 Calls Try.prog 33 #[.agg #[.slice A l.length c], .int .i64 (i : Int), .agg (vlC v B cv)] w (AtP w (wrV l i v)) := by
 have HW := Lib.hid (wr_k4 hn rfl (v := v))
 have HS2 := Lib.hid (AtS.new w A l c (l.getD i nd0) v B cv hrow hkr)
 obtain ⟨ba, oa, rfl, hbl, -⟩ := hrow i hi
 have g : At10 w ba (oa + i * 10) (l.getD i nd0) := hrow.at hi rfl
 have hiz : (i : Int) < (l.length : Int) := by omega
 have hn2 : l.getD i nd0 = ⟨4, (na_ : Int), (nb_ : Int), nlo, nhi, ncls, ntext⟩ := hn
 rw [hn2] at g HS2
 have HP : Hid (∀ u w', IsV w' u v -> Calls Try.prog 53 #[u, .int .i64 4, .int .u8 0, .string (bs []), .int .i64 0, .int .i64 2] w' (Ans w' (.bool (decide (plainP v 4 0 [] 0 2))))) := fun u w' h => rplain_any v 4 0 [] 0 2 hv u w' h
 have HKC := Lib.hid hkc
 have HB1 := Lib.hid hb1
 generalize wrV l i v = rr at *
 clear hkc hb1 hrow hkr hn hn2
 unfold At10 at g
 simp only at g
 obtain ⟨g0, g1, g2, g3, g4, g5, g6, g7, g8, g9⟩ := g
 have hl0 : ∀ o, ((w.alloc (.cells #[.slice (some ⟨ba, oa, none⟩) l.length c] 24)).alloc (.cells (vlC v B cv) 32)).cell? ⟨ba, o, none⟩ = w.cell? ⟨ba, o, none⟩ := fun o => (((Below.refl w.heap.size w).alloc (Nat.le_refl _) (.cells #[.slice (some ⟨ba, oa, none⟩) l.length c] 24)).alloc (by simp) (.cells (vlC v B cv) 32)).cell (p := ⟨ba, o, none⟩) hbl
 have HBX : Hid (Blk ((w.alloc (.cells #[.slice (some ⟨ba, oa, none⟩) l.length c] 24)).alloc (.cells (vlC v B cv) 32)) w.heap.size #[.slice (some ⟨ba, oa, none⟩) l.length c] 24) := (Blk.new _ _ _).alloc _
 rw [<- hl0] at g0 g1 g2 g3 g4 g5 g6 g7 g8 g9
 clear hl0
 obtain ⟨vk, vb, vt, vp, ks⟩ := v
 rw [vlC_five] at *
 unfold ndC at HS2
 simp only at HS2 HP HW HKC HB1 hv hcv
 simp only at HBX g0 g1 g2 g3 g4 g5 g6 g7 g8 g9 ⊢
 go_enter Try.func33, Try.ntmps33
 go_upto_region 1 with (fail)
 have hsz1 : ((w.alloc (.cells #[.slice (some ⟨ba, oa, none⟩) l.length c] 24)).alloc (.cells #[.int .i64 vk, .int .u8 ((vb.toNat : Nat) : Int), .string (bs vt), .int .i64 vp, .slice B ks.len cv] 32)).heap.size = w.heap.size + 2 := by simp
 generalize (w.alloc (.cells #[.slice (some ⟨ba, oa, none⟩) l.length c] 24)).alloc (.cells #[.int .i64 vk, .int .u8 ((vb.toNat : Nat) : Int), .string (bs vt), .int .i64 vp, .slice B ks.len cv] 32) = w1 at *
 have e0 := HBX.out.cell 0
 simp at e0
 go_upto_region 2 with (fail)
 rw [hsz1] at *
 clear g0 g1 g2 g3 g4 g5 g6 g7 g8 g9 e0 HBX
 generalize w1.alloc (.cells #[.int .i64 4, .int .i64 (na_ : Int), .int .i64 (nb_ : Int), .int .i64 nlo, .int .i64 nhi, .int .u64 (wd ncls 0), .int .u64 (wd ncls 1), .int .u64 (wd ncls 2), .int .u64 (wd ncls 3), .string (bs ntext)] 44) = w2 at *
 clear hsz1
 have d0 := HS2.out.box.cell 0
 simp at d0
 obtain ⟨b0, b1, b2, b3, b4⟩ := vl_cells HS2.out.bv
 obtain ⟨f0, f1, f2, f3, f4, f5, f6, f7, f8, f9⟩ := ten_cells HS2.out.who
 have HPV := Lib.hid (HP.out (.agg (vlC ⟨vk, vb, vt, vp, ks⟩ B cv)) w2 ⟨B, cv, hcv, rfl, HS2.out.kids⟩)
 unfold vlC at HPV
 simp only [bs_nil] at HPV
 by_cases hp : plainP ⟨vk, vb, vt, vp, ks⟩ 4 0 [] 0 2
 ·rw [if_pos hp] at HW
  rw [decide_eq_true hp] at HPV
  have HK2 : Hid (ks.len = 2) := hp.2.2.2.2
  clear hp HP
  go_wp2_with fail
  refine HPV.out.mono ?_; rintro e w3 ⟨rfl, hb⟩
  have HS3 := Lib.hid (HS2.out.later hb)
  clear hb HPV HS2 d0 b0 b1 b2 b3 b4 f0 f1 f2 f3 f4 f5 f6 f7 f8 f9
  obtain ⟨gx, ox, X, cx, rfl, hx⟩ := VRow.el HS3.out.kids (j := 0) (by have := HK2.out; simp only; omega)
  obtain ⟨gy, oy, Y, cy, hbo, hy⟩ := VRow.el HS3.out.kids (j := 1) (by have := HK2.out; simp only; omega)
  cases hbo
  simp only [Nat.zero_mul, Nat.add_zero] at hx
  have HE0 : Hid (AtE w (some ⟨ba, oa, none⟩) l c ⟨4, (na_ : Int), (nb_ : Int), nlo, nhi, ncls, ntext⟩ ⟨vk, vb, vt, vp, ks⟩ (some ⟨gx, ox, none⟩) cv gx ox (ks.at 0) X cx gx (ox + 1 * 5) (ks.at 1) Y cy w3) := ⟨HS3.out, hx, hy⟩
  have HC : Hid (∀ w', NRow w' (some ⟨ba, oa, none⟩) l -> ElS gx ox (ks.at 0) X cx w' -> Calls Try.prog 33 #[.agg #[.slice (some ⟨ba, oa, none⟩) l.length c], .int .i64 (na_ : Int), .agg (vlC (ks.at 0) X cx)] w' (AtP w' (wrV l na_ (ks.at 0)))) := fun w' h1 h2 => HKC.out 0 na_ (by have := HK2.out; omega) hna X cx w' h1 h2.cap h2.row
  have HC2 : Hid (∀ w', NRow w' (some ⟨ba, oa, none⟩) l -> ElS gx (ox + 1 * 5) (ks.at 1) Y cy w' -> Calls Try.prog 33 #[.agg #[.slice (some ⟨ba, oa, none⟩) l.length c], .int .i64 (nb_ : Int), .agg (vlC (ks.at 1) Y cy)] w' (AtP w' (wrV l nb_ (ks.at 1)))) := fun w' h1 h2 => HKC.out 1 nb_ (by have := HK2.out; omega) hnb Y cy w' h1 h2.cap h2.row
  have HBX := Lib.hid (HB1.out 0 na_ · (by have := HK2.out; omega))
  have HBY := Lib.hid (HB1.out 1 nb_ · (by have := HK2.out; omega))
  have HW : Hid (rr = joinW (wrV l na_ (ks.at 0)) (wrV l nb_ (ks.at 1))) := HW.out
  clear hx hy HS3 HKC HB1
  generalize wrV l na_ (ks.at 0) = r at *
  generalize wrV l nb_ (ks.at 1) = s at *
  generalize ks.at 0 = x0 at *
  generalize ks.at 1 = y0 at *
  obtain ⟨xk, xb, xt, xp, xs⟩ := x0
  obtain ⟨yk, yb, yt, yp, ys⟩ := y0
  rw [vlC_five] at HC HC2
  simp only at HC HC2
  have hl0 : (0 : Int) < (ks.len : Int) := by have := HK2.out; omega
  have hl1 : (1 : Int) < (ks.len : Int) := by have := HK2.out; omega
  have hl0n : 0 < ks.len := by have := HK2.out; omega
  have hl1n : 1 < ks.len := by have := HK2.out; omega
  clear HK2
  go_upto_region 17 with (fail)
  refine wp_region_stable (S := (AtE w (some ⟨ba, oa, none⟩) l c ⟨4, (na_ : Int), (nb_ : Int), nlo, nhi, ncls, ntext⟩ ⟨vk, vb, vt, vp, ks⟩ (some ⟨gx, ox, none⟩) cv gx ox ⟨xk, xb, xt, xp, xs⟩ X cx gx (ox + 1 * 5) ⟨yk, yb, yt, yp, ys⟩ Y cy)) (hSt := fun _ _ h hb => h.later hb) (plan := [[(3, none)], [(8, none)], [(69, some 1)], [(5, none)], [(71, some 3)], [(72, some 4)], [(73, some 5)], [(68, some 0), (70, some 2), (74, some 6)], [(75, some 7)], [(67, some 8)], [(67, some 8)], [(76, some 9)], [(77, some 10)]]) (by kernel_rfl) (by kernel_rfl) (by kernel_rfl) ?hS ?_
  rotate_left
  iterate 7 first
   | (refine chain_skip (by rfl) (by rfl) ?_)
   | (apply chain_want (by rfl)
      ·intro act wx hS hr
       simp at hr
       obtain ⟨b0, b1, b2, b3, b4⟩ := vl_cells hS.s.bv
       have d0 := hS.s.box.cell 0
       simp at d0
       obtain ⟨f0, f1, f2, f3, f4, f5, f6, f7, f8, f9⟩ := ten_cells hS.s.who
       obtain ⟨p0, p1, p2, p3, p4⟩ := hS.e.five
       go_simp
       (try go_ints)
       first
        | (obtain ⟨x, hr1, sv, rfl, hx⟩ := hr; simp only [hr1, Option.getD_some]; go_simp; exact Done.same)
        | exact Done.same
     )
  (refine chain_rel (TupW r) (TupW.later r) (by rfl) ?_ ?_
   ·intro act wx hS hr
    simp at hr
    obtain ⟨b0, b1, b2, b3, b4⟩ := vl_cells hS.s.bv
    have d0 := hS.s.box.cell 0
    simp at d0
    obtain ⟨f0, f1, f2, f3, f4, f5, f6, f7, f8, f9⟩ := ten_cells hS.s.who
    obtain ⟨p0, p1, p2, p3, p4⟩ := hS.e.five
    all_goals go_simp
    ((with_reducible refine (HC.out _ hS.s.row hS.e).mono ?_); rintro e w' ⟨x, rfl, hx, hb⟩; exact Done.rel hb hx)
  )
  (refine chain_rel (TupW r) (TupW.later r) (by rfl) ?_ ?_
   ·intro act wx hS hr
    simp at hr
    obtain ⟨b0, b1, b2, b3, b4⟩ := vl_cells hS.s.bv
    have d0 := hS.s.box.cell 0
    simp at d0
    obtain ⟨f0, f1, f2, f3, f4, f5, f6, f7, f8, f9⟩ := ten_cells hS.s.who
    obtain ⟨p0, p1, p2, p3, p4⟩ := hS.e.five
    obtain ⟨x, hr1, hx⟩ := hr
    all_goals go_simp
    exact Done.rel (Below.refl _ _) hx
  )
  (refine chain_rel (IsWo r) (IsWo.later r) (by rfl) ?_ ?_
   ·intro act wx hS hr
    simp at hr
    obtain ⟨b0, b1, b2, b3, b4⟩ := vl_cells hS.s.bv
    have d0 := hS.s.box.cell 0
    simp at d0
    obtain ⟨f0, f1, f2, f3, f4, f5, f6, f7, f8, f9⟩ := ten_cells hS.s.who
    obtain ⟨p0, p1, p2, p3, p4⟩ := hS.e.five
    obtain ⟨x, hr1, sv, rfl, hx⟩ := hr
    all_goals go_simp
    exact Done.rel (Below.refl _ _) hx
  )
  iterate 1 first
   | (refine chain_skip (by rfl) (by rfl) ?_)
   | (apply chain_want (by rfl)
      ·intro act wx hS hr
       simp at hr
       obtain ⟨b0, b1, b2, b3, b4⟩ := vl_cells hS.s.bv
       have d0 := hS.s.box.cell 0
       simp at d0
       obtain ⟨f0, f1, f2, f3, f4, f5, f6, f7, f8, f9⟩ := ten_cells hS.s.who
       obtain ⟨p0, p1, p2, p3, p4⟩ := hS.e.five
       go_simp
       (try go_ints)
       first
        | (obtain ⟨x, hr1, sv, rfl, hx⟩ := hr; simp only [hr1, Option.getD_some]; go_simp; exact Done.same)
        | exact Done.same
     )
  (refine chain_rel (IsWo r) (IsWo.later r) (by rfl) ?_ ?_
   ·intro act wx hS hr
    simp at hr
    obtain ⟨b0, b1, b2, b3, b4⟩ := vl_cells hS.s.bv
    have d0 := hS.s.box.cell 0
    simp at d0
    obtain ⟨f0, f1, f2, f3, f4, f5, f6, f7, f8, f9⟩ := ten_cells hS.s.who
    obtain ⟨p0, p1, p2, p3, p4⟩ := hS.e.five
    obtain ⟨x, hr1, hx⟩ := hr
    all_goals go_simp
    exact Done.rel (Below.refl _ _) hx
  )
  iterate 1 first
   | (refine chain_skip (by rfl) (by rfl) ?_)
   | (apply chain_want (by rfl)
      ·intro act wx hS hr
       simp at hr
       obtain ⟨b0, b1, b2, b3, b4⟩ := vl_cells hS.s.bv
       have d0 := hS.s.box.cell 0
       simp at d0
       obtain ⟨f0, f1, f2, f3, f4, f5, f6, f7, f8, f9⟩ := ten_cells hS.s.who
       obtain ⟨p0, p1, p2, p3, p4⟩ := hS.e.five
       go_simp
       (try go_ints)
       first
        | (obtain ⟨x, hr1, sv, rfl, hx⟩ := hr; simp only [hr1, Option.getD_some]; go_simp; exact Done.same)
        | exact Done.same
     )
  show ∀ w', _ -> _
  intro wz hz
  simp [Act.put]
  case hS => exact HE0.out
  intro x1 _ x2 _ x3 _ x4 hx4
  have HF0 : Hid (AtF w (some ⟨ba, oa, none⟩) l c ⟨4, (na_ : Int), (nb_ : Int), nlo, nhi, ncls, ntext⟩ ⟨vk, vb, vt, vp, ks⟩ (some ⟨gx, ox, none⟩) cv gx (ox + 1 * 5) ⟨yk, yb, yt, yp, ys⟩ Y cy r x4 wz) := ⟨hz.s, hz.e2, hx4⟩
  clear hz hx4 HE0 HC
  go_upto_region 18 with (fail)
  refine wp_region_stable (S := (AtF w (some ⟨ba, oa, none⟩) l c ⟨4, (na_ : Int), (nb_ : Int), nlo, nhi, ncls, ntext⟩ ⟨vk, vb, vt, vp, ks⟩ (some ⟨gx, ox, none⟩) cv gx (ox + 1 * 5) ⟨yk, yb, yt, yp, ys⟩ Y cy r x4)) (hSt := fun _ _ h hb => h.later hb) (plan := [[(3, none)], [(8, none)], [(80, some 1)], [(5, none)], [(82, some 3)], [(83, some 4)], [(84, some 5)], [(79, some 0), (81, some 2), (85, some 6)], [(86, some 7)], [(78, some 8)], [(78, some 8)], [(87, some 9)], [(88, some 10)]]) (by kernel_rfl) (by kernel_rfl) (by kernel_rfl) ?hS ?_
  rotate_left
  iterate 7 first
   | (refine chain_skip (by rfl) (by rfl) ?_)
   | (apply chain_want (by rfl)
      ·intro act wx hS hr
       simp at hr
       obtain ⟨b0, b1, b2, b3, b4⟩ := vl_cells hS.s.bv
       have d0 := hS.s.box.cell 0
       simp at d0
       obtain ⟨f0, f1, f2, f3, f4, f5, f6, f7, f8, f9⟩ := ten_cells hS.s.who
       obtain ⟨p0, p1, p2, p3, p4⟩ := hS.e.five
       go_simp
       (try go_ints)
       first
        | (obtain ⟨x, hr1, sv, rfl, hx⟩ := hr; simp only [hr1, Option.getD_some]; go_simp; exact Done.same)
        | exact Done.same
     )
  (refine chain_rel (TupW s) (TupW.later s) (by rfl) ?_ ?_
   ·intro act wx hS hr
    simp at hr
    obtain ⟨b0, b1, b2, b3, b4⟩ := vl_cells hS.s.bv
    have d0 := hS.s.box.cell 0
    simp at d0
    obtain ⟨f0, f1, f2, f3, f4, f5, f6, f7, f8, f9⟩ := ten_cells hS.s.who
    obtain ⟨p0, p1, p2, p3, p4⟩ := hS.e.five
    all_goals go_simp
    ((with_reducible refine (HC2.out _ hS.s.row hS.e).mono ?_); rintro e w' ⟨x, rfl, hx, hb⟩; exact Done.rel hb hx)
  )
  (refine chain_rel (TupW s) (TupW.later s) (by rfl) ?_ ?_
   ·intro act wx hS hr
    simp at hr
    obtain ⟨b0, b1, b2, b3, b4⟩ := vl_cells hS.s.bv
    have d0 := hS.s.box.cell 0
    simp at d0
    obtain ⟨f0, f1, f2, f3, f4, f5, f6, f7, f8, f9⟩ := ten_cells hS.s.who
    obtain ⟨p0, p1, p2, p3, p4⟩ := hS.e.five
    obtain ⟨x, hr1, hx⟩ := hr
    all_goals go_simp
    exact Done.rel (Below.refl _ _) hx
  )
  (refine chain_rel (IsWo s) (IsWo.later s) (by rfl) ?_ ?_
   ·intro act wx hS hr
    simp at hr
    obtain ⟨b0, b1, b2, b3, b4⟩ := vl_cells hS.s.bv
    have d0 := hS.s.box.cell 0
    simp at d0
    obtain ⟨f0, f1, f2, f3, f4, f5, f6, f7, f8, f9⟩ := ten_cells hS.s.who
    obtain ⟨p0, p1, p2, p3, p4⟩ := hS.e.five
    obtain ⟨x, hr1, sv, rfl, hx⟩ := hr
    all_goals go_simp
    exact Done.rel (Below.refl _ _) hx
  )
  iterate 1 first
   | (refine chain_skip (by rfl) (by rfl) ?_)
   | (apply chain_want (by rfl)
      ·intro act wx hS hr
       simp at hr
       obtain ⟨b0, b1, b2, b3, b4⟩ := vl_cells hS.s.bv
       have d0 := hS.s.box.cell 0
       simp at d0
       obtain ⟨f0, f1, f2, f3, f4, f5, f6, f7, f8, f9⟩ := ten_cells hS.s.who
       obtain ⟨p0, p1, p2, p3, p4⟩ := hS.e.five
       go_simp
       (try go_ints)
       first
        | (obtain ⟨x, hr1, sv, rfl, hx⟩ := hr; simp only [hr1, Option.getD_some]; go_simp; exact Done.same)
        | exact Done.same
     )
  (refine chain_rel (IsWo s) (IsWo.later s) (by rfl) ?_ ?_
   ·intro act wx hS hr
    simp at hr
    obtain ⟨b0, b1, b2, b3, b4⟩ := vl_cells hS.s.bv
    have d0 := hS.s.box.cell 0
    simp at d0
    obtain ⟨f0, f1, f2, f3, f4, f5, f6, f7, f8, f9⟩ := ten_cells hS.s.who
    obtain ⟨p0, p1, p2, p3, p4⟩ := hS.e.five
    obtain ⟨x, hr1, hx⟩ := hr
    all_goals go_simp
    exact Done.rel (Below.refl _ _) hx
  )
  iterate 1 first
   | (refine chain_skip (by rfl) (by rfl) ?_)
   | (apply chain_want (by rfl)
      ·intro act wx hS hr
       simp at hr
       obtain ⟨b0, b1, b2, b3, b4⟩ := vl_cells hS.s.bv
       have d0 := hS.s.box.cell 0
       simp at d0
       obtain ⟨f0, f1, f2, f3, f4, f5, f6, f7, f8, f9⟩ := ten_cells hS.s.who
       obtain ⟨p0, p1, p2, p3, p4⟩ := hS.e.five
       go_simp
       (try go_ints)
       first
        | (obtain ⟨x, hr1, sv, rfl, hx⟩ := hr; simp only [hr1, Option.getD_some]; go_simp; exact Done.same)
        | exact Done.same
     )
  show ∀ w', _ -> _
  intro w5 hz5
  simp [Act.put]
  case hS => exact HF0.out
  intro z1 _ z2 _ z3 _ z4 hz4
  have HS5 := Lib.hid hz5.s
  have HX5 := Lib.hid hz5.o
  have HZ5 := Lib.hid hz4
  clear hz5 hz4 HF0 HC2
  cases r with
  | none =>
   have HE : Hid (rr = none) := by unfold Hid; rw [HW.out]; rfl
   go_wp2
   go_ret2
   exact ⟨_, rfl, ⟨_, by rw [HE.out]; rfl, by rw [HE.out]; exact rfl⟩, HS5.out.bel⟩
  | some W =>
   cases s with
   | none =>
    have HE : Hid (rr = none) := by unfold Hid; rw [HW.out]; rfl
    go_wp2
    go_ret2
    exact ⟨_, rfl, ⟨_, by rw [HE.out]; rfl, by rw [HE.out]; exact rfl⟩, HS5.out.bel⟩
   | some V =>
    have HE : Hid (rr = some (W ++ V)) := by unfold Hid; rw [HW.out]; rfl
    have hWl := HBX.out W rfl
    have hVl := HBY.out V rfl
    have HX : Hid (IsW W x4 w5) := HX5.out
    have HZ : Hid (IsW V z4 w5) := HZ5.out
    clear HX5 HZ5 HBX HBY
    have hal := (Below.refl w5.heap.size w5).alloc (Nat.le_refl _) (.cells #[] 5)
    have HAL := Lib.hid hal
    have HO : Hid (Own8 (w5.alloc (.cells #[] 5)) w5.heap.size (.slice (some ⟨w5.heap.size, 0, none⟩) 0 0) (nats [])) := own_new (w := w5) (W := []) (cs := #[]) rfl (by decide)
    clear hal
    go_wp2_with (at_builtin; first | (refine wpList_append_w rfl _ _ rfl w5.heap.size (.slice (some ⟨w5.heap.size, 0, none⟩) 0 0) [] rfl HO.out W x4 rfl (HX.out.later HAL.out) (by have := hWl; simp only [List.length_nil]; omega) HAL.out.size ?_; intro v6 w6 h1 h2; have HO6 := Lib.hid h1; have HB6 := Lib.hid (HAL.out.grown h2 HAL.out.size (fun k hk => (World.ownsRow.lt HO.out k hk).1)); clear h1 h2) | (refine wpList_append_w rfl _ _ rfl w5.heap.size v6 ([] ++ W) rfl HO6.out V z4 rfl (HZ.out.later HB6.out) (by have := hWl; have := hVl; simp only [List.nil_append]; omega) HB6.out.size ?_; intro v7 w7 h1 h2; have HO7 := Lib.hid h1; have HB7 := Lib.hid (HB6.out.grown h2 HB6.out.size (fun k hk => (World.ownsRow.lt HO6.out k hk).1)); clear h1 h2))
    go_wp2
    go_ret2
    exact ⟨_, rfl, ⟨_, by rw [HE.out]; rfl, by rw [HE.out]; exact own_isW HO7.out (by simp only [List.nil_append, List.length_append]; omega)⟩, HS5.out.bel.trans (HB7.out.mono HS5.out.bel.size)⟩
 ·rw [if_neg hp] at HW
  rw [decide_eq_false hp] at HPV
  clear hp HP
  go_wp2_with fail
  refine HPV.out.mono ?_; rintro e w3 ⟨rfl, hb⟩
  have HS3 := Lib.hid (HS2.out.later hb)
  clear hb HPV HS2 d0 b0 b1 b2 b3 b4 f0 f1 f2 f3 f4 f5 f6 f7 f8 f9
  go_wp2
  go_ret2
  exact ⟨_, rfl, ⟨_, by rw [HW.out]; rfl, by rw [HW.out]; exact rfl⟩, HS3.out.bel⟩
end Go.Proofs.Ytpbbokdmoaadfaa
namespace Go.Proofs.Ytpbbokdmoaadfaa
set_option maxHeartbeats 64000000
set_option maxRecDepth 1000000
set_option linter.all false
open Go Go.RowKit Go.Lib
theorem conv_strb (t : List UInt8) (ht : t.length <= 1073741824) (w : World) : ∃ v w', (convert 9 25 (.string (bs t))).run Try.prog w = .ok v w' /\ IsW t v w' /\ Below w.heap.size w w' := by
 refine ⟨_, _, Lib.run_convert_string_bytes w _ _ 5 (bs t) Try.underlying9 Try.underlying25 Try.underlying5, ?_, ⟨rfl, rfl, rfl, by rw [bytesWorld_size]; omega, fun k hk => bytesWorld_at_old w _ _ k hk⟩⟩
 refine .inr ⟨w.heap.size, 0, _, rfl, by rw [<- bs_size]; exact grownCap_ge _ _ _ _, ht, by rw [bytesWorld_size]; omega, fun i hi => ?_⟩
 rw [Nat.zero_add, bytesWorld_cell w _ (bs t) i (by rw [bs_size]; exact hi)]
 rw [bs_data]
theorem at_empty (l : List Nd) (A : Option Addr) (c : Nat) (i : Nat) (hi : i < l.length) (hlen : l.length <= 536870912) (na_ : Int) (nb_ : Int) (ncls : BitVec 256) (ntext : List UInt8) (nlo nhi : Int) (hn : atN l i = ⟨1, na_, nb_, nlo, nhi, ncls, ntext⟩)
 (v : Vl) (hv : v.kids.len < 4611686018427387904) (B : Option Addr) (cv : Nat) (hcv : v.kids.len <= cv) (w : World) (hrow : NRow w A l) (hkr : VRow w B 0 v.kids) :
 Calls Try.prog 33 #[.agg #[.slice A l.length c], .int .i64 (i : Int), .agg (vlC v B cv)] w (AtP w (wrV l i v)) := by
 have HW := Lib.hid (wr_k1 hn rfl (v := v))
 have HS2 := Lib.hid (AtS.new w A l c (l.getD i nd0) v B cv hrow hkr)
 obtain ⟨ba, oa, rfl, hbl, -⟩ := hrow i hi
 have g : At10 w ba (oa + i * 10) (l.getD i nd0) := hrow.at hi rfl
 have hiz : (i : Int) < (l.length : Int) := by omega
 have hn2 : l.getD i nd0 = ⟨1, na_, nb_, nlo, nhi, ncls, ntext⟩ := hn
 rw [hn2] at g HS2
 have HP : Hid (∀ u w', IsV w' u v -> Calls Try.prog 53 #[u, .int .i64 1, .int .u8 (((0 : UInt8).toNat : Nat) : Int), .string (bs []), .int .i64 0, .int .i64 ((0 : Nat) : Int)] w' (Ans w' (.bool (decide (plainP v 1 (0 : UInt8) [] 0 0))))) := fun u w' h => rplain_any v 1 (0 : UInt8) [] 0 0 hv u w' h
 generalize wrV l i v = rr at *
 clear hrow hkr hn hn2
 unfold At10 at g
 simp only at g
 obtain ⟨g0, g1, g2, g3, g4, g5, g6, g7, g8, g9⟩ := g
 have hl0 : ∀ o, ((w.alloc (.cells #[.slice (some ⟨ba, oa, none⟩) l.length c] 24)).alloc (.cells (vlC v B cv) 32)).cell? ⟨ba, o, none⟩ = w.cell? ⟨ba, o, none⟩ := fun o => (((Below.refl w.heap.size w).alloc (Nat.le_refl _) (.cells #[.slice (some ⟨ba, oa, none⟩) l.length c] 24)).alloc (by simp) (.cells (vlC v B cv) 32)).cell (p := ⟨ba, o, none⟩) hbl
 have HBX : Hid (Blk ((w.alloc (.cells #[.slice (some ⟨ba, oa, none⟩) l.length c] 24)).alloc (.cells (vlC v B cv) 32)) w.heap.size #[.slice (some ⟨ba, oa, none⟩) l.length c] 24) := (Blk.new _ _ _).alloc _
 rw [<- hl0] at g0 g1 g2 g3 g4 g5 g6 g7 g8 g9
 clear hl0
 obtain ⟨vk, vb, vt, vp, ks⟩ := v
 rw [vlC_five] at *
 unfold ndC at HS2
 simp only at *
 go_enter Try.func33, Try.ntmps33
 go_upto_region 1 with (fail)
 have hsz1 : ((w.alloc (.cells #[.slice (some ⟨ba, oa, none⟩) l.length c] 24)).alloc (.cells #[.int .i64 vk, .int .u8 ((vb.toNat : Nat) : Int), .string (bs vt), .int .i64 vp, .slice B ks.len cv] 32)).heap.size = w.heap.size + 2 := by simp
 generalize (w.alloc (.cells #[.slice (some ⟨ba, oa, none⟩) l.length c] 24)).alloc (.cells #[.int .i64 vk, .int .u8 ((vb.toNat : Nat) : Int), .string (bs vt), .int .i64 vp, .slice B ks.len cv] 32) = w1 at *
 have e0 := HBX.out.cell 0
 simp at e0
 go_upto_region 2 with (fail)
 rw [hsz1] at *
 clear g0 g1 g2 g3 g4 g5 g6 g7 g8 g9 e0 HBX
 generalize w1.alloc (.cells #[.int .i64 1, .int .i64 na_, .int .i64 nb_, .int .i64 nlo, .int .i64 nhi, .int .u64 (wd ncls 0), .int .u64 (wd ncls 1), .int .u64 (wd ncls 2), .int .u64 (wd ncls 3), .string (bs ntext)] 44) = w2 at *
 clear hsz1
 have d0 := HS2.out.box.cell 0
 simp at d0
 obtain ⟨b0, b1, b2, b3, b4⟩ := vl_cells HS2.out.bv
 obtain ⟨f0, f1, f2, f3, f4, f5, f6, f7, f8, f9⟩ := ten_cells HS2.out.who
 have HPV := Lib.hid (fun w' (h : AtS w (some ⟨ba, oa, none⟩) l c ⟨1, na_, nb_, nlo, nhi, ncls, ntext⟩ ⟨vk, vb, vt, vp, ks⟩ B cv w') => HP.out (.agg (vlC ⟨vk, vb, vt, vp, ks⟩ B cv) ) w' ⟨B, cv, hcv, rfl, h.kids⟩)
 unfold vlC at HPV
 simp only [bs_nil] at HPV
 by_cases hp : plainP ⟨vk, vb, vt, vp, ks⟩ 1 0 [] 0 0
 ·rw [if_pos hp] at HW
  rw [decide_eq_true hp] at HPV
  clear hp HP
  go_wp2_with fail
  refine (HPV.out _ HS2.out).mono ?_; rintro e w3 ⟨rfl, hb⟩
  have HS3 := Lib.hid (HS2.out.later hb)
  clear hb HPV HS2 d0 b0 b1 b2 b3 b4 f0 f1 f2 f3 f4 f5 f6 f7 f8 f9
  go_wp2
  go_ret2
  exact ⟨_, rfl, ⟨_, by rw [HW.out]; rfl, by rw [HW.out]; exact IsW.nil _⟩, HS3.out.bel⟩
 ·rw [if_neg hp] at HW
  rw [decide_eq_false hp] at HPV
  clear hp HP
  go_wp2_with fail
  refine (HPV.out _ HS2.out).mono ?_; rintro e w3 ⟨rfl, hb⟩
  have HS3 := Lib.hid (HS2.out.later hb)
  clear hb HPV HS2 d0 b0 b1 b2 b3 b4 f0 f1 f2 f3 f4 f5 f6 f7 f8 f9
  go_wp2
  go_ret2
  exact ⟨_, rfl, ⟨_, by rw [HW.out]; rfl, by rw [HW.out]; exact rfl⟩, HS3.out.bel⟩
theorem at_bytes (l : List Nd) (A : Option Addr) (c : Nat) (i : Nat) (hi : i < l.length) (hlen : l.length <= 536870912) (na_ : Int) (nb_ : Int) (ncls : BitVec 256) (ntext : List UInt8) (nlo nhi : Int) (hn : atN l i = ⟨2, na_, nb_, nlo, nhi, ncls, ntext⟩)
 (v : Vl) (hv : v.kids.len < 4611686018427387904) (B : Option Addr) (cv : Nat) (hcv : v.kids.len <= cv) (w : World) (hrow : NRow w A l) (hkr : VRow w B 0 v.kids) :
 Calls Try.prog 33 #[.agg #[.slice A l.length c], .int .i64 (i : Int), .agg (vlC v B cv)] w (AtP w (wrV l i v)) := by
 have HW := Lib.hid (wr_k2 hn rfl (v := v))
 have HS2 := Lib.hid (AtS.new w A l c (l.getD i nd0) v B cv hrow hkr)
 obtain ⟨ba, oa, rfl, hbl, -⟩ := hrow i hi
 have g : At10 w ba (oa + i * 10) (l.getD i nd0) := hrow.at hi rfl
 have hiz : (i : Int) < (l.length : Int) := by omega
 have hn2 : l.getD i nd0 = ⟨2, na_, nb_, nlo, nhi, ncls, ntext⟩ := hn
 rw [hn2] at g HS2
 have HP : Hid (∀ u w', IsV w' u v -> Calls Try.prog 53 #[u, .int .i64 2, .int .u8 ((v.byte.toNat : Nat) : Int), .string (bs []), .int .i64 0, .int .i64 ((0 : Nat) : Int)] w' (Ans w' (.bool (decide (plainP v 2 v.byte [] 0 0))))) := fun u w' h => rplain_any v 2 v.byte [] 0 0 hv u w' h
 have HH : Hid (∀ w', Calls Try.prog 39 #[cls ncls, .int .u8 ((v.byte.toNat : Nat) : Int)] w' (Ans w' (.bool (ncls.getLsbD v.byte.toNat)))) := fun w' => refhas_any ncls v.byte.toNat v.byte.toNat_lt w'
 generalize wrV l i v = rr at *
 clear hrow hkr hn hn2
 unfold At10 at g
 simp only at g
 obtain ⟨g0, g1, g2, g3, g4, g5, g6, g7, g8, g9⟩ := g
 have hl0 : ∀ o, ((w.alloc (.cells #[.slice (some ⟨ba, oa, none⟩) l.length c] 24)).alloc (.cells (vlC v B cv) 32)).cell? ⟨ba, o, none⟩ = w.cell? ⟨ba, o, none⟩ := fun o => (((Below.refl w.heap.size w).alloc (Nat.le_refl _) (.cells #[.slice (some ⟨ba, oa, none⟩) l.length c] 24)).alloc (by simp) (.cells (vlC v B cv) 32)).cell (p := ⟨ba, o, none⟩) hbl
 have HBX : Hid (Blk ((w.alloc (.cells #[.slice (some ⟨ba, oa, none⟩) l.length c] 24)).alloc (.cells (vlC v B cv) 32)) w.heap.size #[.slice (some ⟨ba, oa, none⟩) l.length c] 24) := (Blk.new _ _ _).alloc _
 rw [<- hl0] at g0 g1 g2 g3 g4 g5 g6 g7 g8 g9
 clear hl0
 obtain ⟨vk, vb, vt, vp, ks⟩ := v
 rw [vlC_five] at *
 unfold ndC at HS2
 simp only at *
 go_enter Try.func33, Try.ntmps33
 go_upto_region 1 with (fail)
 have hsz1 : ((w.alloc (.cells #[.slice (some ⟨ba, oa, none⟩) l.length c] 24)).alloc (.cells #[.int .i64 vk, .int .u8 ((vb.toNat : Nat) : Int), .string (bs vt), .int .i64 vp, .slice B ks.len cv] 32)).heap.size = w.heap.size + 2 := by simp
 generalize (w.alloc (.cells #[.slice (some ⟨ba, oa, none⟩) l.length c] 24)).alloc (.cells #[.int .i64 vk, .int .u8 ((vb.toNat : Nat) : Int), .string (bs vt), .int .i64 vp, .slice B ks.len cv] 32) = w1 at *
 have e0 := HBX.out.cell 0
 simp at e0
 go_upto_region 2 with (fail)
 rw [hsz1] at *
 clear g0 g1 g2 g3 g4 g5 g6 g7 g8 g9 e0 HBX
 generalize w1.alloc (.cells #[.int .i64 2, .int .i64 na_, .int .i64 nb_, .int .i64 nlo, .int .i64 nhi, .int .u64 (wd ncls 0), .int .u64 (wd ncls 1), .int .u64 (wd ncls 2), .int .u64 (wd ncls 3), .string (bs ntext)] 44) = w2 at *
 clear hsz1
 have d0 := HS2.out.box.cell 0
 simp at d0
 obtain ⟨b0, b1, b2, b3, b4⟩ := vl_cells HS2.out.bv
 obtain ⟨f0, f1, f2, f3, f4, f5, f6, f7, f8, f9⟩ := ten_cells HS2.out.who
 have HPV := Lib.hid (fun w' (h : AtS w (some ⟨ba, oa, none⟩) l c ⟨2, na_, nb_, nlo, nhi, ncls, ntext⟩ ⟨vk, vb, vt, vp, ks⟩ B cv w') => HP.out (.agg (vlC ⟨vk, vb, vt, vp, ks⟩ B cv) ) w' ⟨B, cv, hcv, rfl, h.kids⟩)
 unfold vlC at HPV
 simp only [bs_nil] at HPV
 unfold cls at HH
 by_cases hp : plainP ⟨vk, vb, vt, vp, ks⟩ 2 vb [] 0 0
 ·rw [decide_eq_true hp] at HPV
  by_cases hc : ncls.getLsbD vb.toNat = true
  ·rw [if_pos ⟨hp, hc⟩] at HW
   rw [hc] at HH
   clear hp hc HP
   go_wp2_with fail
   refine (HPV.out _ HS2.out).mono ?_; rintro e w3 ⟨rfl, hb⟩
   have HS3 := Lib.hid (HS2.out.later hb)
   clear hb HPV HS2 d0 b0 b1 b2 b3 b4 f0 f1 f2 f3 f4 f5 f6 f7 f8 f9
   have d0 := HS3.out.box.cell 0
   simp at d0
   obtain ⟨b0, b1, b2, b3, b4⟩ := vl_cells HS3.out.bv
   obtain ⟨f0, f1, f2, f3, f4, f5, f6, f7, f8, f9⟩ := ten_cells HS3.out.who
   go_wp2_with fail
   refine (HH.out _).mono ?_; rintro e w4 ⟨rfl, hb⟩
   have HS4 := Lib.hid (HS3.out.later hb)
   clear hb HH HS3 d0 b0 b1 b2 b3 b4 f0 f1 f2 f3 f4 f5 f6 f7 f8 f9
   have d0 := HS4.out.box.cell 0
   simp at d0
   obtain ⟨b0, b1, b2, b3, b4⟩ := vl_cells HS4.out.bv
   obtain ⟨f0, f1, f2, f3, f4, f5, f6, f7, f8, f9⟩ := ten_cells HS4.out.who
   have HO := Lib.hid (own_new (w := w4) (W := [vb]) (cs := #[.int .u8 ((vb.toNat : Nat) : Int)]) rfl (by simp))
   have HB := Lib.hid (HS4.out.bel.trans (((Below.refl w4.heap.size w4).alloc (Nat.le_refl _) (.cells #[.int .u8 ((vb.toNat : Nat) : Int)] 5)).mono HS4.out.bel.size))
   go_wp2
   go_ret2
   exact ⟨_, rfl, ⟨_, by rw [HW.out]; rfl, by rw [HW.out]; exact own_isW HO.out (by simp)⟩, HB.out⟩
  ·rw [if_neg (fun h => hc h.2)] at HW
   rw [Bool.not_eq_true] at hc
   rw [hc] at HH
   clear hp hc HP
   go_wp2_with fail
   refine (HPV.out _ HS2.out).mono ?_; rintro e w3 ⟨rfl, hb⟩
   have HS3 := Lib.hid (HS2.out.later hb)
   clear hb HPV HS2 d0 b0 b1 b2 b3 b4 f0 f1 f2 f3 f4 f5 f6 f7 f8 f9
   have d0 := HS3.out.box.cell 0
   simp at d0
   obtain ⟨b0, b1, b2, b3, b4⟩ := vl_cells HS3.out.bv
   obtain ⟨f0, f1, f2, f3, f4, f5, f6, f7, f8, f9⟩ := ten_cells HS3.out.who
   go_wp2_with fail
   refine (HH.out _).mono ?_; rintro e w4 ⟨rfl, hb⟩
   have HS4 := Lib.hid (HS3.out.later hb)
   clear hb HH HS3 d0 b0 b1 b2 b3 b4 f0 f1 f2 f3 f4 f5 f6 f7 f8 f9
   go_wp2
   go_ret2
   exact ⟨_, rfl, ⟨_, by rw [HW.out]; rfl, by rw [HW.out]; exact rfl⟩, HS4.out.bel⟩
 ·rw [if_neg (fun h => hp h.1)] at HW
  rw [decide_eq_false hp] at HPV
  clear hp HP HH
  go_wp2_with fail
  refine (HPV.out _ HS2.out).mono ?_; rintro e w3 ⟨rfl, hb⟩
  have HS3 := Lib.hid (HS2.out.later hb)
  clear hb HPV HS2 d0 b0 b1 b2 b3 b4 f0 f1 f2 f3 f4 f5 f6 f7 f8 f9
  go_wp2
  go_ret2
  exact ⟨_, rfl, ⟨_, by rw [HW.out]; rfl, by rw [HW.out]; exact rfl⟩, HS3.out.bel⟩
theorem at_text (l : List Nd) (A : Option Addr) (c : Nat) (i : Nat) (hi : i < l.length) (hlen : l.length <= 536870912) (na_ : Int) (nb_ : Int) (ncls : BitVec 256) (ntext : List UInt8) (nlo nhi : Int) (hn : atN l i = ⟨3, na_, nb_, nlo, nhi, ncls, ntext⟩)
 (v : Vl) (hv : v.kids.len < 4611686018427387904) (B : Option Addr) (cv : Nat) (hcv : v.kids.len <= cv) (w : World) (hrow : NRow w A l) (hkr : VRow w B 0 v.kids) (htl : ntext.length <= 1073741824) :
 Calls Try.prog 33 #[.agg #[.slice A l.length c], .int .i64 (i : Int), .agg (vlC v B cv)] w (AtP w (wrV l i v)) := by
 have HW := Lib.hid (wr_k3 hn rfl (v := v))
 have HS2 := Lib.hid (AtS.new w A l c (l.getD i nd0) v B cv hrow hkr)
 obtain ⟨ba, oa, rfl, hbl, -⟩ := hrow i hi
 have g : At10 w ba (oa + i * 10) (l.getD i nd0) := hrow.at hi rfl
 have hiz : (i : Int) < (l.length : Int) := by omega
 have hn2 : l.getD i nd0 = ⟨3, na_, nb_, nlo, nhi, ncls, ntext⟩ := hn
 rw [hn2] at g HS2
 have HP : Hid (∀ u w', IsV w' u v -> Calls Try.prog 53 #[u, .int .i64 3, .int .u8 (((0 : UInt8).toNat : Nat) : Int), .string (bs ntext), .int .i64 0, .int .i64 ((0 : Nat) : Int)] w' (Ans w' (.bool (decide (plainP v 3 (0 : UInt8) ntext 0 0))))) := fun u w' h => rplain_any v 3 (0 : UInt8) ntext 0 0 hv u w' h
 generalize wrV l i v = rr at *
 clear hrow hkr hn hn2
 unfold At10 at g
 simp only at g
 obtain ⟨g0, g1, g2, g3, g4, g5, g6, g7, g8, g9⟩ := g
 have hl0 : ∀ o, ((w.alloc (.cells #[.slice (some ⟨ba, oa, none⟩) l.length c] 24)).alloc (.cells (vlC v B cv) 32)).cell? ⟨ba, o, none⟩ = w.cell? ⟨ba, o, none⟩ := fun o => (((Below.refl w.heap.size w).alloc (Nat.le_refl _) (.cells #[.slice (some ⟨ba, oa, none⟩) l.length c] 24)).alloc (by simp) (.cells (vlC v B cv) 32)).cell (p := ⟨ba, o, none⟩) hbl
 have HBX : Hid (Blk ((w.alloc (.cells #[.slice (some ⟨ba, oa, none⟩) l.length c] 24)).alloc (.cells (vlC v B cv) 32)) w.heap.size #[.slice (some ⟨ba, oa, none⟩) l.length c] 24) := (Blk.new _ _ _).alloc _
 rw [<- hl0] at g0 g1 g2 g3 g4 g5 g6 g7 g8 g9
 clear hl0
 obtain ⟨vk, vb, vt, vp, ks⟩ := v
 rw [vlC_five] at *
 unfold ndC at HS2
 simp only at *
 go_enter Try.func33, Try.ntmps33
 go_upto_region 1 with (fail)
 have hsz1 : ((w.alloc (.cells #[.slice (some ⟨ba, oa, none⟩) l.length c] 24)).alloc (.cells #[.int .i64 vk, .int .u8 ((vb.toNat : Nat) : Int), .string (bs vt), .int .i64 vp, .slice B ks.len cv] 32)).heap.size = w.heap.size + 2 := by simp
 generalize (w.alloc (.cells #[.slice (some ⟨ba, oa, none⟩) l.length c] 24)).alloc (.cells #[.int .i64 vk, .int .u8 ((vb.toNat : Nat) : Int), .string (bs vt), .int .i64 vp, .slice B ks.len cv] 32) = w1 at *
 have e0 := HBX.out.cell 0
 simp at e0
 go_upto_region 2 with (fail)
 rw [hsz1] at *
 clear g0 g1 g2 g3 g4 g5 g6 g7 g8 g9 e0 HBX
 generalize w1.alloc (.cells #[.int .i64 3, .int .i64 na_, .int .i64 nb_, .int .i64 nlo, .int .i64 nhi, .int .u64 (wd ncls 0), .int .u64 (wd ncls 1), .int .u64 (wd ncls 2), .int .u64 (wd ncls 3), .string (bs ntext)] 44) = w2 at *
 clear hsz1
 have d0 := HS2.out.box.cell 0
 simp at d0
 obtain ⟨b0, b1, b2, b3, b4⟩ := vl_cells HS2.out.bv
 obtain ⟨f0, f1, f2, f3, f4, f5, f6, f7, f8, f9⟩ := ten_cells HS2.out.who
 have HPV := Lib.hid (fun w' (h : AtS w (some ⟨ba, oa, none⟩) l c ⟨3, na_, nb_, nlo, nhi, ncls, ntext⟩ ⟨vk, vb, vt, vp, ks⟩ B cv w') => HP.out (.agg (vlC ⟨vk, vb, vt, vp, ks⟩ B cv) ) w' ⟨B, cv, hcv, rfl, h.kids⟩)
 unfold vlC at HPV
 simp only [bs_nil] at HPV
 by_cases hp : plainP ⟨vk, vb, vt, vp, ks⟩ 3 0 ntext 0 0
 ·rw [if_pos hp] at HW
  rw [decide_eq_true hp] at HPV
  clear hp HP
  go_wp2_with fail
  refine (HPV.out _ HS2.out).mono ?_; rintro e w3 ⟨rfl, hb⟩
  have HS3 := Lib.hid (HS2.out.later hb)
  clear hb HPV HS2 d0 b0 b1 b2 b3 b4 f0 f1 f2 f3 f4 f5 f6 f7 f8 f9
  have d0 := HS3.out.box.cell 0
  simp at d0
  obtain ⟨b0, b1, b2, b3, b4⟩ := vl_cells HS3.out.bv
  obtain ⟨f0, f1, f2, f3, f4, f5, f6, f7, f8, f9⟩ := ten_cells HS3.out.who
  obtain ⟨sv, w4, hcv4, hw4, hb4⟩ := conv_strb ntext htl w3
  have HI := Lib.hid hw4
  have HB := Lib.hid (HS3.out.bel.trans (hb4.mono HS3.out.bel.size))
  clear hw4 hb4
  go_wp2
  go_ret2
  exact ⟨_, rfl, ⟨_, by rw [HW.out]; rfl, by rw [HW.out]; exact HI.out⟩, HB.out⟩
 ·rw [if_neg hp] at HW
  rw [decide_eq_false hp] at HPV
  clear hp HP
  go_wp2_with fail
  refine (HPV.out _ HS2.out).mono ?_; rintro e w3 ⟨rfl, hb⟩
  have HS3 := Lib.hid (HS2.out.later hb)
  clear hb HPV HS2 d0 b0 b1 b2 b3 b4 f0 f1 f2 f3 f4 f5 f6 f7 f8 f9
  go_wp2
  go_ret2
  exact ⟨_, rfl, ⟨_, by rw [HW.out]; rfl, by rw [HW.out]; exact rfl⟩, HS3.out.bel⟩
theorem at_five (l : List Nd) (A : Option Addr) (c : Nat) (i : Nat) (hi : i < l.length) (hlen : l.length <= 536870912) (na_ : Nat) (nb_ : Nat) (ncls : BitVec 256) (ntext : List UInt8) (nlo nhi : Int) (hn : atN l i = ⟨5, (na_ : Int), (nb_ : Int), nlo, nhi, ncls, ntext⟩)
 (v : Vl) (hv : v.kids.len < 4611686018427387904) (B : Option Addr) (cv : Nat) (hcv : v.kids.len <= cv) (w : World) (hrow : NRow w A l) (hkr : VRow w B 0 v.kids) (hkc : ∀ j q, j < v.kids.len -> q < i -> KidC A l c q (v.kids.at j)) (hna : na_ < i) (hnb : nb_ < i) :
 Calls Try.prog 33 #[.agg #[.slice A l.length c], .int .i64 (i : Int), .agg (vlC v B cv)] w (AtP w (wrV l i v)) := by
 have HW := Lib.hid (wr_k5 hn rfl (v := v))
 have HS2 := Lib.hid (AtS.new w A l c (l.getD i nd0) v B cv hrow hkr)
 obtain ⟨ba, oa, rfl, hbl, -⟩ := hrow i hi
 have g : At10 w ba (oa + i * 10) (l.getD i nd0) := hrow.at hi rfl
 have hiz : (i : Int) < (l.length : Int) := by omega
 have hn2 : l.getD i nd0 = ⟨5, (na_ : Int), (nb_ : Int), nlo, nhi, ncls, ntext⟩ := hn
 rw [hn2] at g HS2
 have HP : Hid (∀ u w', IsV w' u v -> Calls Try.prog 53 #[u, .int .i64 5, .int .u8 (((0 : UInt8).toNat : Nat) : Int), .string (bs []), .int .i64 0, .int .i64 ((1 : Nat) : Int)] w' (Ans w' (.bool (decide (plainP v 5 (0 : UInt8) [] 0 1))))) := fun u w' h => rplain_any v 5 (0 : UInt8) [] 0 1 hv u w' h
 have HQ : Hid (∀ u w', IsV w' u v -> Calls Try.prog 53 #[u, .int .i64 5, .int .u8 (((0 : UInt8).toNat : Nat) : Int), .string (bs []), .int .i64 1, .int .i64 ((1 : Nat) : Int)] w' (Ans w' (.bool (decide (plainP v 5 (0 : UInt8) [] 1 1))))) := fun u w' h => rplain_any v 5 (0 : UInt8) [] 1 1 hv u w' h
 have HKC := Lib.hid hkc
 clear hkc
 generalize wrV l i v = rr at *
 clear hrow hkr hn hn2
 unfold At10 at g
 simp only at g
 obtain ⟨g0, g1, g2, g3, g4, g5, g6, g7, g8, g9⟩ := g
 have hl0 : ∀ o, ((w.alloc (.cells #[.slice (some ⟨ba, oa, none⟩) l.length c] 24)).alloc (.cells (vlC v B cv) 32)).cell? ⟨ba, o, none⟩ = w.cell? ⟨ba, o, none⟩ := fun o => (((Below.refl w.heap.size w).alloc (Nat.le_refl _) (.cells #[.slice (some ⟨ba, oa, none⟩) l.length c] 24)).alloc (by simp) (.cells (vlC v B cv) 32)).cell (p := ⟨ba, o, none⟩) hbl
 have HBX : Hid (Blk ((w.alloc (.cells #[.slice (some ⟨ba, oa, none⟩) l.length c] 24)).alloc (.cells (vlC v B cv) 32)) w.heap.size #[.slice (some ⟨ba, oa, none⟩) l.length c] 24) := (Blk.new _ _ _).alloc _
 rw [<- hl0] at g0 g1 g2 g3 g4 g5 g6 g7 g8 g9
 clear hl0
 obtain ⟨vk, vb, vt, vp, ks⟩ := v
 rw [vlC_five] at *
 unfold ndC at HS2
 simp only at *
 go_enter Try.func33, Try.ntmps33
 go_upto_region 1 with (fail)
 have hsz1 : ((w.alloc (.cells #[.slice (some ⟨ba, oa, none⟩) l.length c] 24)).alloc (.cells #[.int .i64 vk, .int .u8 ((vb.toNat : Nat) : Int), .string (bs vt), .int .i64 vp, .slice B ks.len cv] 32)).heap.size = w.heap.size + 2 := by simp
 generalize (w.alloc (.cells #[.slice (some ⟨ba, oa, none⟩) l.length c] 24)).alloc (.cells #[.int .i64 vk, .int .u8 ((vb.toNat : Nat) : Int), .string (bs vt), .int .i64 vp, .slice B ks.len cv] 32) = w1 at *
 have e0 := HBX.out.cell 0
 simp at e0
 go_upto_region 2 with (fail)
 rw [hsz1] at *
 clear g0 g1 g2 g3 g4 g5 g6 g7 g8 g9 e0 HBX
 generalize w1.alloc (.cells #[.int .i64 5, .int .i64 (na_ : Int), .int .i64 (nb_ : Int), .int .i64 nlo, .int .i64 nhi, .int .u64 (wd ncls 0), .int .u64 (wd ncls 1), .int .u64 (wd ncls 2), .int .u64 (wd ncls 3), .string (bs ntext)] 44) = w2 at *
 clear hsz1
 have d0 := HS2.out.box.cell 0
 simp at d0
 obtain ⟨b0, b1, b2, b3, b4⟩ := vl_cells HS2.out.bv
 obtain ⟨f0, f1, f2, f3, f4, f5, f6, f7, f8, f9⟩ := ten_cells HS2.out.who
 have HPV := Lib.hid (fun w' (h : AtS w (some ⟨ba, oa, none⟩) l c ⟨5, (na_ : Int), (nb_ : Int), nlo, nhi, ncls, ntext⟩ ⟨vk, vb, vt, vp, ks⟩ B cv w') => HP.out (.agg (vlC ⟨vk, vb, vt, vp, ks⟩ B cv) ) w' ⟨B, cv, hcv, rfl, h.kids⟩)
 unfold vlC at HPV
 simp only [bs_nil] at HPV
 have HQV := Lib.hid (fun w' (h : AtS w (some ⟨ba, oa, none⟩) l c ⟨5, (na_ : Int), (nb_ : Int), nlo, nhi, ncls, ntext⟩ ⟨vk, vb, vt, vp, ks⟩ B cv w') => HQ.out (.agg (vlC ⟨vk, vb, vt, vp, ks⟩ B cv) ) w' ⟨B, cv, hcv, rfl, h.kids⟩)
 unfold vlC at HQV
 simp only [bs_nil] at HQV
 by_cases hp : plainP ⟨vk, vb, vt, vp, ks⟩ 5 0 [] 0 1
 ·rw [if_pos hp] at HW
  rw [decide_eq_true hp] at HPV
  have HK1 : Hid (ks.len = 1) := hp.2.2.2.2
  clear hp HP HQ
  go_wp2_with fail
  refine (HPV.out _ HS2.out).mono ?_; rintro e w3 ⟨rfl, hb⟩
  have HS3 := Lib.hid (HS2.out.later hb)
  clear hb HPV HS2 d0 b0 b1 b2 b3 b4 f0 f1 f2 f3 f4 f5 f6 f7 f8 f9
  obtain ⟨gx, ox, X, cx, rfl, hx⟩ := VRow.el HS3.out.kids (j := 0) (by have := HK1.out; simp only; omega)
  simp only [Nat.zero_mul, Nat.add_zero] at hx
  have HE0 : Hid (AtE w (some ⟨ba, oa, none⟩) l c ⟨5, (na_ : Int), (nb_ : Int), nlo, nhi, ncls, ntext⟩ ⟨vk, vb, vt, vp, ks⟩ (some ⟨gx, ox, none⟩) cv gx ox (ks.at 0) X cx gx ox (ks.at 0) X cx w3) := ⟨HS3.out, hx, hx⟩
  have HC : Hid (∀ w', NRow w' (some ⟨ba, oa, none⟩) l -> ElS gx ox (ks.at 0) X cx w' -> Calls Try.prog 33 #[.agg #[.slice (some ⟨ba, oa, none⟩) l.length c], .int .i64 (na_ : Int), .agg (vlC (ks.at 0) X cx)] w' (AtP w' (wrV l na_ (ks.at 0)))) := fun w' h1 h2 => HKC.out 0 na_ (by have := HK1.out; omega) hna X cx w' h1 h2.cap h2.row
  have HW2 : Hid (rr = wrV l na_ (ks.at 0)) := by have h := HW.out; simp only [Int.toNat_natCast] at h; exact h
  clear HW
  clear hx HS3 HKC
  generalize wrV l na_ (ks.at 0) = r at *
  generalize ks.at 0 = x0 at *
  obtain ⟨xk, xb, xt, xp, xs⟩ := x0
  rw [vlC_five] at HC
  simp only at HC
  have hl0 : (0 : Int) < (ks.len : Int) := by have := HK1.out; omega
  have hl0n : 0 < ks.len := by have := HK1.out; omega
  clear HK1
  go_upto_region 24 with (fail)
  refine wp_region_stable (S := (AtE w (some ⟨ba, oa, none⟩) l c ⟨5, (na_ : Int), (nb_ : Int), nlo, nhi, ncls, ntext⟩ ⟨vk, vb, vt, vp, ks⟩ (some ⟨gx, ox, none⟩) cv gx ox ⟨xk, xb, xt, xp, xs⟩ X cx gx ox ⟨xk, xb, xt, xp, xs⟩ X cx)) (hSt := fun _ _ h hb => h.later hb) (plan := [[(3, none)], [(8, none)], [(105, some 1)], [(5, none)], [(107, some 3)], [(108, some 4)], [(109, some 5)], [(104, some 0), (106, some 2), (110, some 6)], [(111, some 7)], [(111, some 7)], [(112, some 8)], [(113, some 9)]]) (by kernel_rfl) (by kernel_rfl) (by kernel_rfl) ?hS ?_
  rotate_left
  iterate 7 first
   | (refine chain_skip (by rfl) (by rfl) ?_)
   | (apply chain_want (by rfl)
      ·intro act wx hS hr
       simp at hr
       obtain ⟨b0, b1, b2, b3, b4⟩ := vl_cells hS.s.bv
       have d0 := hS.s.box.cell 0
       simp at d0
       obtain ⟨f0, f1, f2, f3, f4, f5, f6, f7, f8, f9⟩ := ten_cells hS.s.who
       obtain ⟨p0, p1, p2, p3, p4⟩ := hS.e.five
       go_simp
       (try go_ints)
       first
        | (obtain ⟨x, hr1, sv, rfl, hx⟩ := hr; simp only [hr1, Option.getD_some]; go_simp; exact Done.same)
        | exact Done.same
     )
  (refine chain_rel (TupW r) (TupW.later r) (by rfl) ?_ ?_
   ·intro act wx hS hr
    simp at hr
    obtain ⟨b0, b1, b2, b3, b4⟩ := vl_cells hS.s.bv
    have d0 := hS.s.box.cell 0
    simp at d0
    obtain ⟨f0, f1, f2, f3, f4, f5, f6, f7, f8, f9⟩ := ten_cells hS.s.who
    obtain ⟨p0, p1, p2, p3, p4⟩ := hS.e.five
    all_goals go_simp
    ((with_reducible refine (HC.out _ hS.s.row hS.e).mono ?_); rintro e w' ⟨x, rfl, hx, hb⟩; exact Done.rel hb hx)
  )
  (refine chain_rel (IsWo r) (IsWo.later r) (by rfl) ?_ ?_
   ·intro act wx hS hr
    simp at hr
    obtain ⟨b0, b1, b2, b3, b4⟩ := vl_cells hS.s.bv
    have d0 := hS.s.box.cell 0
    simp at d0
    obtain ⟨f0, f1, f2, f3, f4, f5, f6, f7, f8, f9⟩ := ten_cells hS.s.who
    obtain ⟨p0, p1, p2, p3, p4⟩ := hS.e.five
    obtain ⟨x, hr1, sv, rfl, hx⟩ := hr
    all_goals go_simp
    exact Done.rel (Below.refl _ _) hx
  )
  iterate 1 first
   | (refine chain_skip (by rfl) (by rfl) ?_)
   | (apply chain_want (by rfl)
      ·intro act wx hS hr
       simp at hr
       obtain ⟨b0, b1, b2, b3, b4⟩ := vl_cells hS.s.bv
       have d0 := hS.s.box.cell 0
       simp at d0
       obtain ⟨f0, f1, f2, f3, f4, f5, f6, f7, f8, f9⟩ := ten_cells hS.s.who
       obtain ⟨p0, p1, p2, p3, p4⟩ := hS.e.five
       go_simp
       (try go_ints)
       first
        | (obtain ⟨x, hr1, sv, rfl, hx⟩ := hr; simp only [hr1, Option.getD_some]; go_simp; exact Done.same)
        | exact Done.same
     )
  (refine chain_rel (IsWo r) (IsWo.later r) (by rfl) ?_ ?_
   ·intro act wx hS hr
    simp at hr
    obtain ⟨b0, b1, b2, b3, b4⟩ := vl_cells hS.s.bv
    have d0 := hS.s.box.cell 0
    simp at d0
    obtain ⟨f0, f1, f2, f3, f4, f5, f6, f7, f8, f9⟩ := ten_cells hS.s.who
    obtain ⟨p0, p1, p2, p3, p4⟩ := hS.e.five
    obtain ⟨x, hr1, hx⟩ := hr
    all_goals go_simp
    exact Done.rel (Below.refl _ _) hx
  )
  iterate 1 first
   | (refine chain_skip (by rfl) (by rfl) ?_)
   | (apply chain_want (by rfl)
      ·intro act wx hS hr
       simp at hr
       obtain ⟨b0, b1, b2, b3, b4⟩ := vl_cells hS.s.bv
       have d0 := hS.s.box.cell 0
       simp at d0
       obtain ⟨f0, f1, f2, f3, f4, f5, f6, f7, f8, f9⟩ := ten_cells hS.s.who
       obtain ⟨p0, p1, p2, p3, p4⟩ := hS.e.five
       go_simp
       (try go_ints)
       first
        | (obtain ⟨x, hr1, sv, rfl, hx⟩ := hr; simp only [hr1, Option.getD_some]; go_simp; exact Done.same)
        | exact Done.same
     )
  show ∀ w', _ -> _
  intro wz hz
  simp [Act.put]
  case hS => exact HE0.out
  intro x1 _ x3 _ x4 hx4
  have HS5 := Lib.hid hz.s
  have HX5 := Lib.hid hx4
  clear hz hx4 HE0 HC
  go_wp2
  go_ret2
  exact ⟨_, rfl, ⟨x4, by rw [HW2.out]; rfl, by rw [HW2.out]; exact HX5.out⟩, HS5.out.bel⟩
 ·rw [if_neg hp] at HW
  rw [decide_eq_false hp] at HPV
  clear hp
  by_cases hp : plainP ⟨vk, vb, vt, vp, ks⟩ 5 0 [] 1 1
  ·rw [if_pos hp] at HW
   rw [decide_eq_true hp] at HQV
   have HK1 : Hid (ks.len = 1) := hp.2.2.2.2
   clear hp HP HQ
   go_wp2_with fail
   refine (HPV.out _ HS2.out).mono ?_; rintro e w3 ⟨rfl, hb⟩
   have HS3 := Lib.hid (HS2.out.later hb)
   clear hb HPV HS2 d0 b0 b1 b2 b3 b4 f0 f1 f2 f3 f4 f5 f6 f7 f8 f9
   have d0 := HS3.out.box.cell 0
   simp at d0
   obtain ⟨b0, b1, b2, b3, b4⟩ := vl_cells HS3.out.bv
   obtain ⟨f0, f1, f2, f3, f4, f5, f6, f7, f8, f9⟩ := ten_cells HS3.out.who
   go_wp2_with fail
   refine (HQV.out _ HS3.out).mono ?_; rintro e w4 ⟨rfl, hb⟩
   have HS4 := Lib.hid (HS3.out.later hb)
   clear hb HQV HS3 d0 b0 b1 b2 b3 b4 f0 f1 f2 f3 f4 f5 f6 f7 f8 f9
   obtain ⟨gx, ox, X, cx, rfl, hx⟩ := VRow.el HS4.out.kids (j := 0) (by have := HK1.out; simp only; omega)
   simp only [Nat.zero_mul, Nat.add_zero] at hx
   have HE0 : Hid (AtE w (some ⟨ba, oa, none⟩) l c ⟨5, (na_ : Int), (nb_ : Int), nlo, nhi, ncls, ntext⟩ ⟨vk, vb, vt, vp, ks⟩ (some ⟨gx, ox, none⟩) cv gx ox (ks.at 0) X cx gx ox (ks.at 0) X cx w4) := ⟨HS4.out, hx, hx⟩
   have HC : Hid (∀ w', NRow w' (some ⟨ba, oa, none⟩) l -> ElS gx ox (ks.at 0) X cx w' -> Calls Try.prog 33 #[.agg #[.slice (some ⟨ba, oa, none⟩) l.length c], .int .i64 (nb_ : Int), .agg (vlC (ks.at 0) X cx)] w' (AtP w' (wrV l nb_ (ks.at 0)))) := fun w' h1 h2 => HKC.out 0 nb_ (by have := HK1.out; omega) hnb X cx w' h1 h2.cap h2.row
   have HW2 : Hid (rr = wrV l nb_ (ks.at 0)) := by have h := HW.out; simp only [Int.toNat_natCast] at h; exact h
   clear HW
   clear hx HS4 HKC
   generalize wrV l nb_ (ks.at 0) = r at *
   generalize ks.at 0 = x0 at *
   obtain ⟨xk, xb, xt, xp, xs⟩ := x0
   rw [vlC_five] at HC
   simp only at HC
   have hl0 : (0 : Int) < (ks.len : Int) := by have := HK1.out; omega
   have hl0n : 0 < ks.len := by have := HK1.out; omega
   clear HK1
   go_upto_region 26 with (fail)
   refine wp_region_stable (S := (AtE w (some ⟨ba, oa, none⟩) l c ⟨5, (na_ : Int), (nb_ : Int), nlo, nhi, ncls, ntext⟩ ⟨vk, vb, vt, vp, ks⟩ (some ⟨gx, ox, none⟩) cv gx ox ⟨xk, xb, xt, xp, xs⟩ X cx gx ox ⟨xk, xb, xt, xp, xs⟩ X cx)) (hSt := fun _ _ h hb => h.later hb) (plan := [[(3, none)], [(8, none)], [(117, some 1)], [(5, none)], [(119, some 3)], [(120, some 4)], [(121, some 5)], [(116, some 0), (118, some 2), (122, some 6)], [(123, some 7)], [(123, some 7)], [(124, some 8)], [(125, some 9)]]) (by kernel_rfl) (by kernel_rfl) (by kernel_rfl) ?hS ?_
   rotate_left
   iterate 7 first
    | (refine chain_skip (by rfl) (by rfl) ?_)
    | (apply chain_want (by rfl)
       ·intro act wx hS hr
        simp at hr
        obtain ⟨b0, b1, b2, b3, b4⟩ := vl_cells hS.s.bv
        have d0 := hS.s.box.cell 0
        simp at d0
        obtain ⟨f0, f1, f2, f3, f4, f5, f6, f7, f8, f9⟩ := ten_cells hS.s.who
        obtain ⟨p0, p1, p2, p3, p4⟩ := hS.e.five
        go_simp
        (try go_ints)
        first
         | (obtain ⟨x, hr1, sv, rfl, hx⟩ := hr; simp only [hr1, Option.getD_some]; go_simp; exact Done.same)
         | exact Done.same
      )
   (refine chain_rel (TupW r) (TupW.later r) (by rfl) ?_ ?_
    ·intro act wx hS hr
     simp at hr
     obtain ⟨b0, b1, b2, b3, b4⟩ := vl_cells hS.s.bv
     have d0 := hS.s.box.cell 0
     simp at d0
     obtain ⟨f0, f1, f2, f3, f4, f5, f6, f7, f8, f9⟩ := ten_cells hS.s.who
     obtain ⟨p0, p1, p2, p3, p4⟩ := hS.e.five
     all_goals go_simp
     ((with_reducible refine (HC.out _ hS.s.row hS.e).mono ?_); rintro e w' ⟨x, rfl, hx, hb⟩; exact Done.rel hb hx)
   )
   (refine chain_rel (IsWo r) (IsWo.later r) (by rfl) ?_ ?_
    ·intro act wx hS hr
     simp at hr
     obtain ⟨b0, b1, b2, b3, b4⟩ := vl_cells hS.s.bv
     have d0 := hS.s.box.cell 0
     simp at d0
     obtain ⟨f0, f1, f2, f3, f4, f5, f6, f7, f8, f9⟩ := ten_cells hS.s.who
     obtain ⟨p0, p1, p2, p3, p4⟩ := hS.e.five
     obtain ⟨x, hr1, sv, rfl, hx⟩ := hr
     all_goals go_simp
     exact Done.rel (Below.refl _ _) hx
   )
   iterate 1 first
    | (refine chain_skip (by rfl) (by rfl) ?_)
    | (apply chain_want (by rfl)
       ·intro act wx hS hr
        simp at hr
        obtain ⟨b0, b1, b2, b3, b4⟩ := vl_cells hS.s.bv
        have d0 := hS.s.box.cell 0
        simp at d0
        obtain ⟨f0, f1, f2, f3, f4, f5, f6, f7, f8, f9⟩ := ten_cells hS.s.who
        obtain ⟨p0, p1, p2, p3, p4⟩ := hS.e.five
        go_simp
        (try go_ints)
        first
         | (obtain ⟨x, hr1, sv, rfl, hx⟩ := hr; simp only [hr1, Option.getD_some]; go_simp; exact Done.same)
         | exact Done.same
      )
   (refine chain_rel (IsWo r) (IsWo.later r) (by rfl) ?_ ?_
    ·intro act wx hS hr
     simp at hr
     obtain ⟨b0, b1, b2, b3, b4⟩ := vl_cells hS.s.bv
     have d0 := hS.s.box.cell 0
     simp at d0
     obtain ⟨f0, f1, f2, f3, f4, f5, f6, f7, f8, f9⟩ := ten_cells hS.s.who
     obtain ⟨p0, p1, p2, p3, p4⟩ := hS.e.five
     obtain ⟨x, hr1, hx⟩ := hr
     all_goals go_simp
     exact Done.rel (Below.refl _ _) hx
   )
   iterate 1 first
    | (refine chain_skip (by rfl) (by rfl) ?_)
    | (apply chain_want (by rfl)
       ·intro act wx hS hr
        simp at hr
        obtain ⟨b0, b1, b2, b3, b4⟩ := vl_cells hS.s.bv
        have d0 := hS.s.box.cell 0
        simp at d0
        obtain ⟨f0, f1, f2, f3, f4, f5, f6, f7, f8, f9⟩ := ten_cells hS.s.who
        obtain ⟨p0, p1, p2, p3, p4⟩ := hS.e.five
        go_simp
        (try go_ints)
        first
         | (obtain ⟨x, hr1, sv, rfl, hx⟩ := hr; simp only [hr1, Option.getD_some]; go_simp; exact Done.same)
         | exact Done.same
      )
   show ∀ w', _ -> _
   intro wz hz
   simp [Act.put]
   case hS => exact HE0.out
   intro x1 _ x3 _ x4 hx4
   have HS5 := Lib.hid hz.s
   have HX5 := Lib.hid hx4
   clear hz hx4 HE0 HC
   go_wp2
   go_ret2
   exact ⟨_, rfl, ⟨x4, by rw [HW2.out]; rfl, by rw [HW2.out]; exact HX5.out⟩, HS5.out.bel⟩
  ·rw [if_neg hp] at HW
   rw [decide_eq_false hp] at HQV
   clear hp HP HQ
   go_wp2_with fail
   refine (HPV.out _ HS2.out).mono ?_; rintro e w3 ⟨rfl, hb⟩
   have HS3 := Lib.hid (HS2.out.later hb)
   clear hb HPV HS2 d0 b0 b1 b2 b3 b4 f0 f1 f2 f3 f4 f5 f6 f7 f8 f9
   have d0 := HS3.out.box.cell 0
   simp at d0
   obtain ⟨b0, b1, b2, b3, b4⟩ := vl_cells HS3.out.bv
   obtain ⟨f0, f1, f2, f3, f4, f5, f6, f7, f8, f9⟩ := ten_cells HS3.out.who
   go_wp2_with fail
   refine (HQV.out _ HS3.out).mono ?_; rintro e w4 ⟨rfl, hb⟩
   have HS4 := Lib.hid (HS3.out.later hb)
   clear hb HQV HS3 d0 b0 b1 b2 b3 b4 f0 f1 f2 f3 f4 f5 f6 f7 f8 f9
   go_wp2
   go_ret2
   exact ⟨_, rfl, ⟨_, by rw [HW.out]; rfl, by rw [HW.out]; exact rfl⟩, HS4.out.bel⟩
end Go.Proofs.Ytpbbokdmoaadfaa
