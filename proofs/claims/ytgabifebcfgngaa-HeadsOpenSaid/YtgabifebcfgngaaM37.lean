/- States put together: slices.Grow, slices.Concat: walked. -/
import Derived.Test.YtgabifebcfgngaaM36
import Derived.Test.YtgabifebcfgngaaM15
import Derived.Test.YtgabifebcfgngaaM32
import Derived.Test.YtgabifebcfgngaaM34
import Derived.Shelf.Spec.SlicesGrow
import Derived.Deep.RegionHeld3
import Derived.Sort.Grow
import Derived.Deep.Draws
import Derived.Shelf.SlSortCmp.WholeK
namespace Go.Proofs.Ytgabifebcfgngaa
open Go Go.RowKit
set_option linter.unusedVariables false
set_option linter.unusedSimpArgs false
set_option maxRecDepth 100000

def laysGrowI_ren : Go.Shelf.Ren := ⟨fun | 4 => 50 | n => n, fun | 0 => 0 | 3 => 3 | 4 => 4 | 9 => 9 | 20 => 20 | 22 => 30 | 25 => 43 | n => n, fun n => n⟩
theorem laysGrowI : Lays8.n4 Try.prog laysGrowI_ren := {
  mixed := by kernel_rfl,
  f4 := ⟨Try.f50.name, by kernel_rfl, Try.func50.trans (congrArg some (by kernel_rfl))⟩,
  t0 := Try.underlying0,
  a0 := Try.isAgg0,
  z0 := Try.sizeOf0,
  v0 := Try.zeroValue0,
  t3 := Try.underlying3,
  a3 := Try.isAgg3,
  z3 := Try.sizeOf3,
  v3 := Try.zeroValue3,
  t4 := Try.underlying4,
  a4 := Try.isAgg4,
  z4 := Try.sizeOf4,
  v4 := Try.zeroValue4,
  t9 := Try.underlying9,
  a9 := Try.isAgg9,
  z9 := Try.sizeOf9,
  v9 := Try.zeroValue9,
  t20 := Try.underlying20,
  a20 := Try.isAgg20,
  z20 := Try.sizeOf20,
  v20 := Try.zeroValue20,
  t22 := Try.underlying30,
  a22 := Try.isAgg30,
  z22 := Try.sizeOf30,
  v22 := Try.zeroValue30 }
theorem hdGrow_any (n : Nat) (h0 : 0 < n) (hn : n ≤ 1000000) (w : World) : Calls Try.prog 50 #[.slice none 0 0, .int .i64 (n : Int)] w (fun e w' => ∃ g c, e = .returned (.slice (some ⟨g, 0, none⟩) 0 c) ∧ OwnIt w' w.heap.size (.slice (some ⟨g, 0, none⟩) 0 c) [] ∧ Below w.heap.size w w') := by
  obtain ⟨ib, hib, hz0, hz1, hz2⟩ := info_parts infoIt
  have h := Any8.slices_Grow_grow laysGrowI ib _ hib hz0 (by rw [hz1]; decide) none 0 0 n [] w (Nat.le_refl _) (by omega) (by rw [hz2]; omega) (by omega) (by simp) (fun _ => rfl) (fun a ha => by cases ha)
  refine h.mono ?_
  rintro e w' ⟨rfl, rfl⟩
  have hb : ∀ o, Below w.heap.size w (w.drew.alloc o) := fun o => by
    have h := (Below.refl w.heap.size w.drew).alloc (Nat.le_refl w.heap.size) o
    exact ⟨h.os, h.tape, h.output, h.size, h.block⟩
  refine ⟨w.heap.size, _, rfl, ⟨rfl, .inr ⟨w.heap.size, _, _, rfl, Nat.le_refl _, heap_alloc_new w.drew _, Nat.zero_le _, grownCap_le_maxLen w (0 + n) 0 43 (by unfold maxLen; omega), ?_, by simp; rfl⟩⟩, hb _⟩
  have hge := grownCap_ge w (0 + n) 0 43
  simp only [Array.size_append, List.size_toArray, size_zeroCells, List.length_nil]
  show 0 + (0 + n - 0) * 4 + (grownCap w (0 + n) 0 43 - (0 + n)) * 4 = grownCap w (0 + n) 0 43 * 4
  omega
theorem hdGrow0_any (n : Nat) (hn : n ≤ 1000000) (w : World) : Calls Try.prog 50 #[.slice none 0 0, .int .i64 (n : Int)] w (fun e w' => ∃ A c, e = .returned (.slice A 0 c) ∧ OwnIt w' w.heap.size (.slice A 0 c) [] ∧ Below w.heap.size w w') := by
  by_cases h0 : 0 < n
  · exact (hdGrow_any n h0 hn w).mono fun e w' ⟨g, c, h1, h2, h3⟩ => ⟨_, c, h1, h2, h3⟩
  · obtain rfl : n = 0 := by omega
    go_enter Try.func50, Try.ntmps50
    go_wp2
    go_ret
    exact ⟨none, 0, rfl, OwnIt.nil0 _ _, Below.refl _ _⟩
def RwI (w : World) (b : Nat) (R : List (List Itm)) : Prop := b < w.heap.size ∧ ∀ k, k < R.length → ∃ A c, w.cell? ⟨b, k, none⟩ = some (.slice A (R.getD k []).length c) ∧ ItRow w A (R.getD k [])
theorem RwI.later {w w' : World} {b : Nat} {R : List (List Itm)} (h : RwI w b R) (hb : Below w.heap.size w w') : RwI w' b R := ⟨Nat.lt_of_lt_of_le h.1 hb.size, fun k hk => by
  obtain ⟨A, c, h1, h2⟩ := h.2 k hk
  exact ⟨A, c, (hb.cell (p := ⟨b, k, none⟩) h.1).trans h1, h2.later hb⟩⟩
def HkN (w0 : World) (R : List (List Itm)) (s i : Value) (w : World) : Prop := ∃ k : Nat, k ≤ R.length ∧ i = .int .i64 (k : Int) ∧ s = .int .i64 ((R.take k).flatten.length : Int) ∧ w = w0
structure HkS (w0 : World) (b : Nat) (R : List (List Itm)) (L : List Itm) (v : Value) (w : World) : Prop where
  bel : Below w0.heap.size w0 w
  own : OwnIt w w0.heap.size v L
  rows : RwI w b R
def HkL (w0 : World) (b : Nat) (R : List (List Itm)) (v i : Value) (w : World) : Prop := ∃ k : Nat, k ≤ R.length ∧ i = .int .i64 (k : Int) ∧ HkS w0 b R (R.take k).flatten v w
theorem flatHc_snoc {α : Type} {R : List (List α)} {k : Nat} (h : k < R.length) : (R.take (k + 1)).flatten = (R.take k).flatten ++ R.getD k [] := by
  rw [List.getD_eq_getElem?_getD, List.getElem?_eq_getElem h, List.take_add_one, List.getElem?_eq_getElem h, List.flatten_append]; simp [Option.toList]
theorem flatHc_le {α : Type} {R : List (List α)} (k : Nat) : (R.take k).flatten.length ≤ R.flatten.length := by
  conv => rhs; rw [← List.take_append_drop k R, List.flatten_append, List.length_append]
  omega
set_option maxHeartbeats 8000000 in
theorem hdConcat_any (R : List (List Itm)) (b c : Nat) (hl : R.length ≤ 10) (hlen : R.flatten.length ≤ 1000000) (w : World) (hrow : RwI w b R) :
    Calls Try.prog 35 #[.slice (some ⟨b, 0, none⟩) R.length c] w (HcP w R.flatten) := by
  have HR := Lib.hid hrow
  have hfl := fun k => flatHc_le (R := R) k
  clear hrow
  go_enter Try.func35, Try.ntmps35
  go_wp2
  go_loopw [3, 11] (HkN w R) (fun _ i _ => 20 - (intOf i).toNat)
  case atStart => exact ⟨0, Nat.zero_le _, rfl, rfl, rfl⟩
  case round =>
    obtain ⟨k, hk, rfl, rfl, rfl⟩ := hrel
    by_cases hlt : k < R.length
    · have hltz : (k : Int) < (R.length : Int) := by omega
      obtain ⟨g, cc, hv, -⟩ := HR.out.2 k hlt
      have HF := Lib.hid (flatHc_snoc hlt)
      have hle := hfl k
      have hle2 := hfl (k + 1)
      rw [HF.out, List.length_append] at hle2
      have hsum : ((R.take k).flatten.length : Int) + ((R.getD k []).length : Int) ≤ 1000000 := by omega
      have hn0 : ¬ ((R.take k).flatten.length : Int) + ((R.getD k []).length : Int) < 0 := by omega
      generalize R.getD k [] = r at *
      generalize (R.take k).flatten = L at *
      go_wp2
      go_roundw
      case rel => exact ⟨k + 1, by omega, by go_num, by rw [HF.out, List.length_append]; go_num, rfl⟩
      case measure => simp [intOf]; omega
    · obtain rfl : k = R.length := by omega
      have hlast : ¬ ((R.length : Nat) : Int) < (R.length : Int) := by omega
      rw [List.take_length]
      obtain ⟨N, hN⟩ : ∃ N, R.flatten.length = N := ⟨_, rfl⟩
      rw [hN] at hlen hfl ⊢
      have HN := Lib.hid hN
      clear hN
      go_wp2_with fail
      refine (hdGrow0_any N (by omega) _).mono ?_; rintro e w2 ⟨g0, c0, rfl, ho, hb⟩
      have HS2 : Hid (HkS wr b R [] (.slice g0 0 c0) w2) := ⟨hb, ho, HR.out.later hb⟩
      clear ho hb
      have hrowsQ := HR
      generalize wr = wQ at *
      go_wp2
      go_loopw [6, 27] (HkL wQ b R) (fun _ i _ => 20 - (intOf i).toNat)
      case atStart => exact ⟨0, Nat.zero_le _, rfl, HS2.out⟩
      case round =>
        obtain ⟨k, hk, rfl, hs⟩ := hrel
        have HS := Lib.hid hs
        clear hs HS2
        obtain ⟨a7, c7, hv7, -, -⟩ := HS.out.own.row
        subst hv7
        by_cases hlt : k < R.length
        · have hltz : (k : Int) < (R.length : Int) := by omega
          obtain ⟨g2, cc2, hv, hrow2⟩ := HS.out.rows.2 k hlt
          have HF := Lib.hid (flatHc_snoc hlt)
          have hle2 := hfl (k + 1)
          rw [HF.out, List.length_append] at hle2
          have HLE := Lib.hid hle2
          clear hle2
          generalize (R.take k).flatten = L at *
          generalize R.getD k [] = r at *
          have hlow := HS.out.bel.size
          have HR2 := Lib.hid hrow2
          have HLL : Hid (L.length + r.length < 1073741000) := by have := HLE.out; unfold Hid; omega
          clear hrow2
          go_wp2_with (at_builtin; refine wpList_append_any rfl _ _ rfl _ _ L rfl HS.out.own g2 cc2 r rfl HR2.out HLL.out hlow ?_; intro v' w5 h1 h2; have HO5 := Lib.hid h1; have HB5 := Lib.hid ((Below.refl _ _).grown h2 hlow (fun k hk => (World.ownsRow.lt HS.out.own k hk).1)); clear h1 h2)
          have HS5 : Hid (HkS wQ b R ((R.take (k + 1)).flatten) v' w5) :=
            ⟨HS.out.bel.trans HB5.out, by rw [HF.out]; exact HO5.out, hrowsQ.out.later (HS.out.bel.trans HB5.out)⟩
          go_roundw
          case rel => exact ⟨k + 1, by omega, by go_num, HS5.out⟩
          case measure => simp [intOf]; omega
        · obtain rfl : k = R.length := by omega
          have hlast2 : ¬ ((R.length : Nat) : Int) < (R.length : Int) := by omega
          have ho : OwnIt wr wQ.heap.size (.slice a7 (R.take R.length).flatten.length c7) R.flatten := by
            have := HS.out.own
            rw [List.take_length] at this ⊢
            exact this
          have HO := Lib.hid ho
          have HB := Lib.hid HS.out.bel
          clear ho HS
          generalize (R.take R.length).flatten.length = q at *
          go_wp2
          go_ret
          exact ⟨_, rfl, HO.out, HB.out⟩
end Go.Proofs.Ytgabifebcfgngaa
/- States held against each other, the world told to the draw: walked. -/
namespace Go.Proofs.Ytgabifebcfgngaa
open Go Go.RowKit
set_option linter.unusedVariables false
set_option linter.unusedSimpArgs false
set_option maxRecDepth 100000
set_option maxHeartbeats 16000000

/-- A world with draws, and new memory, behind it. -/
def GrwD (w w' : World) : Prop := ∃ q os, w' = Go.Sort.grow (w.drewN q) os
theorem GrwD.refl (w : World) : GrwD w w := ⟨0, #[], by unfold Go.Sort.grow World.drewN; simp⟩
theorem GrwD.drew (w : World) : GrwD w w.drew := ⟨1, #[], by unfold Go.Sort.grow World.drewN World.drew; simp⟩
theorem GrwD.alloc (w : World) (o : Obj) : GrwD w (w.alloc o) := ⟨0, #[o], by rw [Go.Sort.alloc_eq_grow]; rfl⟩
theorem GrwD.trans {a b d : World} (h : GrwD a b) (k : GrwD b d) : GrwD a d := by
  obtain ⟨q, os, rfl⟩ := h
  obtain ⟨q2, os2, rfl⟩ := k
  refine ⟨q + q2, os ++ os2, ?_⟩
  unfold Go.Sort.grow World.drewN
  simp [Array.append_assoc, Nat.add_assoc]
theorem GrwD.below {w w' : World} (h : GrwD w w') : Below w.heap.size w w' := by
  obtain ⟨q, os, rfl⟩ := h
  refine ⟨rfl, rfl, rfl, ?_, fun k hk => ?_⟩
  · unfold Go.Sort.grow World.drewN; simp
  · unfold Go.Sort.grow World.drewN; simp [Array.getElem?_append, hk]
def AnsGd (w : World) (v : Value) (e : Ending) (w' : World) : Prop := e = .returned v ∧ GrwD w w'
theorem citemD (x y : Itm) (w : World) : Calls Try.prog 59 #[.agg (itV x), .agg (itV y)] w (AnsGd w (.int .i64 (itC x y))) := by
  have hg2 := (GrwD.alloc w (.cells (itV x) 43)).trans (GrwD.alloc _ (.cells (itV y) 43))
  have HGW := Lib.hid hg2
  have hb1 := (Below.refl w.heap.size w).alloc (Nat.le_refl _) (.cells (itV x) 43)
  have hb2 := hb1.alloc (hb1.size) (.cells (itV y) 43)
  have HS0 : Hid (CiS w x y w.heap.size (w.alloc (.cells (itV x) 43)).heap.size ((w.alloc (.cells (itV x) 43)).alloc (.cells (itV y) 43))) :=
    ⟨hb2, (Blk.new w _ _).later ((Below.refl _ _).alloc (Nat.le_refl _) _), Blk.new _ _ _⟩
  rw [World.size_alloc] at HS0
  have HQ := Lib.hid (fun w => eql_it x y w)
  have HG := Lib.hid (fun o1 o2 w => eqGuard_eql_it o1 o2 x y w)
  obtain ⟨v, hv⟩ : ∃ v, itC x y = v := ⟨_, rfl⟩
  have HV := Lib.hid hv
  have HO := Lib.hid (itC_or x y)
  have HZ := Lib.hid (itC_zero x y)
  rw [hv]
  clear hb1 hb2 hv hg2
  go_enter Try.func59, Try.ntmps59
  go_upto_region 1 with (fail)
  unfold itV at HS0 HQ HG HGW ⊢
  generalize (w.alloc (.cells #[.int .i64 x.kind, .int .i64 x.node, .int .i64 x.lo, .int .i64 x.hi] 43)).alloc (.cells #[.int .i64 y.kind, .int .i64 y.node, .int .i64 y.lo, .int .i64 y.hi] 43) = w1 at *
  have c := HS0.out.cells
  unfold At4 at c
  obtain ⟨⟨x0, x1, x2, x3⟩, ⟨y0, y1, y2, y3⟩⟩ := c
  have hq := HQ.out
  have hg := HG.out
  by_cases hxy : x = y
  · have hd : decide (x = y) = true := decide_eq_true hxy
    rw [hd] at hq
    have HR : Hid (v = 0) := by unfold Hid; rw [← HV.out]; exact HZ.out.2 hxy
    clear hd hxy
    go_wp2
    go_ret
    exact ⟨by rw [HR.out]; rfl, HGW.out⟩
  · have hd : decide (x = y) = false := decide_eq_false hxy
    rw [hd] at hq
    have HR : Hid (v = orI (cmpI x.kind y.kind) (orI (cmpI x.node y.node) (orI (cmpI x.lo y.lo) (cmpI x.hi y.hi)))) := by unfold Hid; rw [← HV.out, HO.out]
    clear hd hxy
    go_upto_region 3 with (fail)
    clear hq hg HQ HG HZ HV HO
    generalize w.heap.size = bx at *
    go_region_held3 (fun w' => w'.cell? ⟨bx, 0, none⟩ = some (.int .i64 x.kind) ∧ w'.cell? ⟨bx, 1, none⟩ = some (.int .i64 x.node) ∧ w'.cell? ⟨bx, 2, none⟩ = some (.int .i64 x.lo) ∧ w'.cell? ⟨bx, 3, none⟩ = some (.int .i64 x.hi) ∧ w'.cell? ⟨bx + 1, 0, none⟩ = some (.int .i64 y.kind) ∧ w'.cell? ⟨bx + 1, 1, none⟩ = some (.int .i64 y.node) ∧ w'.cell? ⟨bx + 1, 2, none⟩ = some (.int .i64 y.lo) ∧ w'.cell? ⟨bx + 1, 3, none⟩ = some (.int .i64 y.hi)) (go_keep) (first | (go_at_call 57; refine (icmp_any _ _ _).mono ?_; rintro e w' ⟨rfl, rfl⟩) | (go_at_call 56; refine (cmpor4 _ _ _ _ ((Blk.new w1 _ _).later (Below.refl _ _).drew)).mono ?_; rintro e w' ⟨rfl, rfl⟩))
    go_wp2
    go_ret
    exact ⟨by rw [HR.out]; rfl, (HGW.out.trans (GrwD.alloc _ _)).trans (GrwD.drew _)⟩
/-- Two states in memory. -/
structure CfG (w0 : World) (A B : Option Addr) (a b : List Itm) (w : World) : Prop where
  g : GrwD w0 w
  ra : ItRow w A a
  rb : ItRow w B b
theorem CfG.next {w0 w w' : World} {A B : Option Addr} {a b : List Itm} (h : CfG w0 A B a b w) (hb : GrwD w w') : CfG w0 A B a b w' := ⟨h.g.trans hb, h.ra.later hb.below, h.rb.later hb.below⟩
def CfGL (w0 : World) (A B : Option Addr) (a b : List Itm) (i : Value) (w : World) : Prop := ∃ k : Nat, k ≤ a.length ∧ k ≤ b.length ∧ i = .int .i64 (k : Int) ∧ a.take k = b.take k ∧ CfG w0 A B a b w
def CfGP (w0 : World) (a b : List Itm) (e : Ending) (w : World) : Prop := ∃ v : Int, e = .returned (.int .i64 v) ∧ (a.length = b.length → v = stC a b) ∧ GrwD w0 w
theorem cfuncD (a b : List Itm) (A B : Option Addr) (c1 c2 : Nat) (w : World) (ha : ItRow w A a) (hb : ItRow w B b) (h1 : a.length ≤ 1073741824) (h2 : b.length ≤ 1073741824) :
    Calls Try.prog 58 #[.slice A a.length c1, .slice B b.length c2, ciF] w (CfGP w a b) := by
  have HE : Hid (CfG w A B a b w) := ⟨GrwD.refl _, ha, hb⟩
  clear ha hb
  unfold ciF
  go_enter Try.func58, Try.ntmps58
  go_wp2
  go_loopw [13] (CfGL w A B a b) (fun i _ => a.length - (intOf i).toNat)
  case atStart => exact ⟨0, Nat.zero_le _, Nat.zero_le _, rfl, rfl, HE.out⟩
  case round =>
    obtain ⟨k, hk, hkb, rfl, hlk, hs⟩ := hrel
    have HLK := Lib.hid hlk
    have HS := Lib.hid hs
    by_cases hlt : k < a.length
    · have hltz : (k : Int) < (a.length : Int) := by omega
      obtain ⟨ba, oa, rfl, hba, xa⟩ := hs.ra.four hlt
      by_cases hlb : k < b.length
      · have hge : ¬ (k : Int) ≥ (b.length : Int) := by omega
        obtain ⟨bb, ob, rfl, hbb, -⟩ := hs.rb.four hlb
        have FB := Lib.hid (fun (w' : World) (h : ItRow w' (some ⟨bb, ob, none⟩) b) => h.at hlb rfl)
        have HOT := Lib.hid (fun hl : a.length = b.length => stC_other hl hlt HLK.out)
        have HNX := Lib.hid (take_next hlt hlb HLK.out)
        have HZE := Lib.hid (itC_zero (a.getD k it0) (b.getD k it0))
        have HC := Lib.hid (fun w' => citemD (a.getD k it0) (b.getD k it0) w')
        clear hs hlk
        generalize a.getD k it0 = x at *
        generalize b.getD k it0 = y at *
        unfold At4 at xa
        obtain ⟨x0, x1, x2, x3⟩ := xa
        go_upto_region 6 with (fail)
        have hb1 := GrwD.alloc wr (.cells (itV x) 43)
        have HS1 : Hid (CfG w (some ⟨ba, oa, none⟩) (some ⟨bb, ob, none⟩) a b (wr.alloc (.cells (itV x) 43))) := HS.out.next hb1
        have HX1 := Lib.hid (Blk.new wr (itV x) 43)
        clear hb1 x0 x1 x2 x3
        unfold itV at HS1 HX1 HC
        generalize wr.alloc (.cells #[.int .i64 x.kind, .int .i64 x.node, .int .i64 x.lo, .int .i64 x.hi] 43) = w1 at HS1 HX1 ⊢
        obtain ⟨y0, y1, y2, y3⟩ := FB.out _ HS1.out.rb
        go_upto_region 7 with (fail)
        have hb2 := GrwD.alloc w1 (.cells #[.int .i64 y.kind, .int .i64 y.node, .int .i64 y.lo, .int .i64 y.hi] 43)
        have HS2 := Lib.hid (HS1.out.next hb2)
        have HX2 := Lib.hid (HX1.out.later hb2.below)
        have HY2 := Lib.hid (Blk.new w1 #[.int .i64 y.kind, .int .i64 y.node, .int .i64 y.lo, .int .i64 y.hi] 43)
        clear hb2 y0 y1 y2 y3
        generalize w1.alloc (.cells #[.int .i64 y.kind, .int .i64 y.node, .int .i64 y.lo, .int .i64 y.hi] 43) = w2 at HS2 HX2 HY2 ⊢
        have x0 := HX2.out.cell 0
        have x1 := HX2.out.cell 1
        have x2 := HX2.out.cell 2
        have x3 := HX2.out.cell 3
        have y0 := HY2.out.cell 0
        have y1 := HY2.out.cell 1
        have y2 := HY2.out.cell 2
        have y3 := HY2.out.cell 3
        simp at x0 x1 x2 x3 y0 y1 y2 y3
        go_wp2_with fail
        refine (HC.out _).mono ?_; rintro e w3 ⟨rfl, hb⟩
        have HS3 := Lib.hid (HS2.out.next hb)
        clear hb x0 x1 x2 x3 y0 y1 y2 y3 HX1 HX2 HY2 HS1 HS2
        by_cases hc : itC x y = 0
        · rw [hc]
          have HN := Lib.hid (HNX.out (HZE.out.1 hc))
          clear hc
          have HLT := Lib.hid hlt
          have HLB := Lib.hid hlb
          go_wp2
          go_roundw
          case rel => exact ⟨k + 1, HLT.out, HLB.out, by go_num, HN.out, HS3.out⟩
          case measure => have := HLT.out; simp [intOf] <;> omega
        · have HN := Lib.hid (fun hl => HOT.out hl hc)
          have hcb : (itC x y != 0) = true := by simpa using hc
          clear hc HOT HNX HZE
          generalize itC x y = v at *
          go_wp2
          go_ret
          exact ⟨v, rfl, fun hl => (HN.out hl).symm, HS3.out.g⟩
      · have hge : (k : Int) ≥ (b.length : Int) := by omega
        have HNE : Hid (a.length ≠ b.length) := by unfold Hid; omega
        unfold At4 at xa
        obtain ⟨x0, x1, x2, x3⟩ := xa
        clear hs hlk
        generalize a.getD k it0 = x at *
        have hb1 := GrwD.alloc wr (.cells (itV x) 43)
        have HB := Lib.hid (HS.out.g.trans hb1)
        clear hb1
        go_wp2
        go_ret
        exact ⟨1, rfl, fun hl => absurd hl HNE.out, HB.out⟩
    · obtain rfl : k = a.length := by omega
      have hltz : ¬ ((a.length : Nat) : Int) < (a.length : Int) := by omega
      clear hs
      by_cases hab : a.length < b.length
      · have hz : (a.length : Int) < (b.length : Int) := by omega
        have HNE : Hid (a.length ≠ b.length) := by unfold Hid; omega
        clear hlk hab
        go_wp2
        go_ret
        exact ⟨-1, rfl, fun hl => absurd hl HNE.out, HS.out.g⟩
      · have hz : ¬ (a.length : Int) < (b.length : Int) := by omega
        have HEQ : Hid (a = b) := by
          unfold Hid
          have h3 : a.length = b.length := by omega
          have h4 := hlk
          rw [List.take_length, h3, List.take_length] at h4
          exact h4
        clear hlk hab
        go_wp2
        go_ret
        exact ⟨0, rfl, fun _ => by rw [HEQ.out, stC_self], HS.out.g⟩
/-- Compare. -/
theorem icompareD (a b : List Itm) (A B : Option Addr) (c1 c2 : Nat) (w : World) (ha : ItRow w A a) (hb : ItRow w B b) (h1 : a.length ≤ 1073741824) (h2 : b.length ≤ 1073741824) :
    Calls Try.prog 45 #[.slice A a.length c1, .slice B b.length c2] w (AnsGd w (.int .i64 (stC a b))) := by
  have HC := Lib.hid (cfuncD a b A B c1 c2 w ha hb h1 h2)
  have H1 := Lib.hid (icmp_any (a.length : Int) (b.length : Int) w)
  have HM : Hid (∀ v : Int, (a.length = b.length → v = stC a b) → orI (cmpI (a.length : Int) (b.length : Int)) v = stC a b) := fun v hv => by
    unfold cmpI
    rcases Nat.lt_trichotomy a.length b.length with h | h | h
    · rw [if_pos (by omega), stC_len h]; rfl
    · rw [if_neg (by omega), if_neg (by omega), ← hv h]; rfl
    · rw [if_neg (by omega), if_pos (by omega), stC_len2 h]; rfl
  clear ha hb h1 h2
  unfold ciF at HC
  go_enter Try.func45, Try.ntmps45
  go_wp2_with fail
  refine H1.out.mono ?_; rintro e w1 ⟨rfl, rfl⟩
  go_wp2_with fail
  refine HC.out.mono ?_; rintro e w2 ⟨v, rfl, hv, hb⟩
  have HV := Lib.hid (HM.out v hv)
  have HB := Lib.hid hb
  clear hv hb HM HC H1
  generalize cmpI (a.length : Int) (b.length : Int) = c at *
  generalize stC a b = r at *
  go_wp2_with fail
  refine (cmpor2 _ _ (Blk.new _ _ _)).mono ?_
  rintro e w' ⟨rfl, rfl⟩
  have HR : Hid (r = orI c v) := by unfold Hid; rw [← HV.out]
  go_wp2
  go_ret
  exact ⟨by rw [HR.out]; rfl, HB.out.trans (GrwD.alloc _ _)⟩
end Go.Proofs.Ytgabifebcfgngaa
/- Branches sorted: slices.SortFunc by its contract. -/
namespace Go.Proofs.Ytgabifebcfgngaa
open Go Go.RowKit Go.Shelf Go.Sort
set_option linter.unusedVariables false
set_option linter.unusedSimpArgs false
set_option maxRecDepth 100000

def laysSortB_ren : Go.Shelf.Ren := ⟨fun | 6 => 43 | 14 => 54 | 15 => 55 | 20 => 61 | 21 => 62 | 22 => 63 | 23 => 64 | 24 => 65 | 25 => 66 | 26 => 67 | 27 => 68 | 28 => 69 | 29 => 70 | 46 => 73 | 47 => 74 | 48 => 75 | 49 => 76 | 50 => 77 | 57 => 78 | n => n, fun | 0 => 0 | 3 => 3 | 4 => 4 | 5 => 5 | 9 => 9 | 22 => 27 | 24 => 34 | 25 => 85 | 39 => 99 | 45 => 106 | 46 => 107 | 50 => 53 | 53 => 113 | 55 => 44 | 66 => 117 | 70 => 121 | 76 => 123 | 77 => 124 | n => n, fun n => n⟩
theorem laysSortB : SlLaysF0.n6 Try.prog laysSortB_ren := {
  mixed := by kernel_rfl,
  f6 := ⟨Try.f43.name, by kernel_rfl, Try.func43.trans (congrArg some (by kernel_rfl))⟩,
  f14 := ⟨Try.f54.name, by kernel_rfl, Try.func54.trans (congrArg some (by kernel_rfl))⟩,
  f15 := Try.func55.trans (congrArg some (by kernel_rfl)),
  f20 := ⟨Try.f61.name, by kernel_rfl, Try.func61.trans (congrArg some (by kernel_rfl))⟩,
  f21 := ⟨Try.f62.name, by kernel_rfl, Try.func62.trans (congrArg some (by kernel_rfl))⟩,
  f22 := ⟨Try.f63.name, by kernel_rfl, Try.func63.trans (congrArg some (by kernel_rfl))⟩,
  f23 := ⟨Try.f64.name, by kernel_rfl, Try.func64.trans (congrArg some (by kernel_rfl))⟩,
  f24 := ⟨Try.f65.name, by kernel_rfl, Try.func65.trans (congrArg some (by kernel_rfl))⟩,
  f25 := ⟨Try.f66.name, by kernel_rfl, Try.func66.trans (congrArg some (by kernel_rfl))⟩,
  f26 := ⟨Try.f67.name, by kernel_rfl, Try.func67.trans (congrArg some (by kernel_rfl))⟩,
  f27 := ⟨Try.f68.name, by kernel_rfl, Try.func68.trans (congrArg some (by kernel_rfl))⟩,
  f28 := Try.func69.trans (congrArg some (by kernel_rfl)),
  f29 := Try.func70.trans (congrArg some (by kernel_rfl)),
  f46 := ⟨Try.f73.name, by kernel_rfl, Try.func73.trans (congrArg some (by kernel_rfl))⟩,
  f47 := Try.func74.trans (congrArg some (by kernel_rfl)),
  f48 := Try.func75.trans (congrArg some (by kernel_rfl)),
  f49 := ⟨Try.f76.name, by kernel_rfl, Try.func76.trans (congrArg some (by kernel_rfl))⟩,
  f50 := ⟨Try.f77.name, by kernel_rfl, Try.func77.trans (congrArg some (by kernel_rfl))⟩,
  f57 := ⟨Try.f78.name, by kernel_rfl, Try.func78.trans (congrArg some (by kernel_rfl))⟩,
  t0 := Try.underlying0,
  a0 := Try.isAgg0,
  z0 := Try.sizeOf0,
  v0 := Try.zeroValue0,
  t3 := Try.underlying3,
  a3 := Try.isAgg3,
  z3 := Try.sizeOf3,
  v3 := Try.zeroValue3,
  t4 := Try.underlying4,
  a4 := Try.isAgg4,
  z4 := Try.sizeOf4,
  v4 := Try.zeroValue4,
  t5 := Try.underlying5,
  a5 := Try.isAgg5,
  z5 := Try.sizeOf5,
  v5 := Try.zeroValue5,
  t9 := Try.underlying9,
  a9 := Try.isAgg9,
  z9 := Try.sizeOf9,
  v9 := Try.zeroValue9,
  t22 := Try.underlying27,
  a22 := Try.isAgg27,
  z22 := Try.sizeOf27,
  v22 := Try.zeroValue27,
  t25 := Try.underlying85,
  a25 := Try.isAgg85,
  z25 := Try.sizeOf85,
  v25 := Try.zeroValue85,
  t39 := Try.underlying99,
  a39 := Try.isAgg99,
  z39 := Try.sizeOf99,
  v39 := Try.zeroValue99,
  t45 := Try.underlying106,
  a45 := Try.isAgg106,
  z45 := Try.sizeOf106,
  v45 := Try.zeroValue106,
  t46 := Try.underlying107,
  a46 := Try.isAgg107,
  z46 := Try.sizeOf107,
  v46 := Try.zeroValue107,
  t50 := Try.underlying53,
  a50 := Try.isAgg53,
  z50 := Try.sizeOf53,
  v50 := Try.zeroValue53,
  t53 := Try.underlying113,
  a53 := Try.isAgg113,
  z53 := Try.sizeOf113,
  v53 := Try.zeroValue113,
  t55 := Try.underlying44,
  a55 := Try.isAgg44,
  z55 := Try.sizeOf44,
  v55 := Try.zeroValue44,
  t66 := Try.underlying117,
  a66 := Try.isAgg117,
  z66 := Try.sizeOf117,
  v66 := Try.zeroValue117,
  t70 := Try.underlying121,
  a70 := Try.isAgg121,
  z70 := Try.sizeOf121,
  v70 := Try.zeroValue121,
  t76 := Try.underlying123,
  a76 := Try.isAgg123,
  z76 := Try.sizeOf123,
  v76 := Try.zeroValue123,
  t77 := Try.underlying124,
  a77 := Try.isAgg124,
  z77 := Try.sizeOf124,
  v77 := Try.zeroValue124 }
end Go.Proofs.Ytgabifebcfgngaa
/- Branches in memory; sorted. -/
namespace Go.Proofs.Ytgabifebcfgngaa
open Go Go.RowKit
set_option linter.unusedVariables false
set_option linter.unusedSimpArgs false
set_option maxRecDepth 100000
set_option maxHeartbeats 16000000

def flatBr : List HdE → List Value
  | [] => []
  | e :: l => (brC e).toList ++ flatBr l
theorem brC_size (e : HdE) : (brC e).toList.length = 2 := rfl
theorem flatBr_length : ∀ l, (flatBr l).length = l.length * 2
  | [] => rfl
  | t :: l => by rw [flatBr, List.length_append, flatBr_length l, brC_size, List.length_cons]; omega
theorem flatBr_append : ∀ l m, flatBr (l ++ m) = flatBr l ++ flatBr m
  | [], m => rfl
  | t :: l, m => by show (brC t).toList ++ flatBr (l ++ m) = _; rw [flatBr_append l m, flatBr, List.append_assoc]
def hd0 : HdE := ⟨[], none, 0, 1⟩
theorem flatBr_get : ∀ (l : List HdE) (i j : Nat), i < l.length → j < 2 → (flatBr l)[i * 2 + j]? = (brC (l.getD i hd0))[j]?
  | [], i, j, h, _ => by simp at h
  | s :: l, 0, j, _, hj => by
    rw [flatBr, List.getElem?_append_left (by rw [brC_size]; omega)]
    simp
  | s :: l, i + 1, j, hi, hj => by
    have ih := flatBr_get l i j (by simpa using hi) hj
    show ((brC s).toList ++ flatBr l)[(i + 1) * 2 + j]? = _
    rw [List.getElem?_append_right (by rw [brC_size]; omega), brC_size, show (i + 1) * 2 + j - 2 = i * 2 + j by omega, ih]
    simp
theorem flatBr_ones : ∀ (l : List HdE) (u : Value), u ∈ flatBr l → u.oneCell' = true
  | [], u, h => by cases h
  | t :: l, u, h => by
    rw [flatBr, List.mem_append] at h
    rcases h with h | h
    · simp [brC] at h
      rcases h with rfl | rfl <;> rfl
    · exact flatBr_ones l u h
/-- Branches that are read. -/
def BrRow (w : World) (a : Option Addr) (l : List HdE) : Prop := ∀ i, i < l.length → ∃ b off, a = some ⟨b, off, none⟩ ∧ b < w.heap.size ∧ ∀ j, j < 2 → w.cell? ⟨b, off + i * 2 + j, none⟩ = (brC (l.getD i hd0))[j]?
theorem BrRow.later {w w' : World} {a : Option Addr} {l : List HdE} (h : BrRow w a l) (hb : Below w.heap.size w w') : BrRow w' a l := fun i hi => by
  obtain ⟨b, off, ha, hlt, hc⟩ := h i hi
  exact ⟨b, off, ha, Nat.lt_of_lt_of_le hlt hb.size, fun j hj => (hb.cell (p := ⟨b, off + i * 2 + j, none⟩) hlt).trans (hc j hj)⟩
/-- Branches that a call owns. -/
def OwnBr (w : World) (base : Nat) (v : Value) (l : List HdE) : Prop := w.ownsRow base 34 2 v l.length (flatBr l)
theorem OwnBr.later {w w' : World} {base : Nat} {v : Value} {l : List HdE} (h : OwnBr w base v l) (hb : Below w.heap.size w w') : OwnBr w' base v l := ownsRow_later h hb
theorem OwnBr.row {w : World} {base : Nat} {v : Value} {l : List HdE} (h : OwnBr w base v l) : ∃ a cap, v = .slice a l.length cap ∧ l.length ≤ cap ∧ BrRow w a l := by
  obtain ⟨_, ⟨hv, hn⟩ | ⟨g, cap, cur, hv, hb, hg, hc, hm, hs, ht⟩⟩ := h
  · have : l = [] := List.length_eq_zero_iff.1 hn
    subst this
    exact ⟨none, 0, hv, Nat.le_refl _, fun i hi => by simp at hi⟩
  · refine ⟨_, cap, hv, hc, fun i hi => ⟨g, 0, rfl, Blk.lt (w := w) (b := g) (vs := cur) (t := 34) hg, fun j hj => ?_⟩⟩
    rw [Blk.cell (w := w) (b := g) (vs := cur) (t := 34) hg, ← flatBr_get l i j hi hj, ← ht, List.getElem?_take, if_pos (by omega)]
    simp
theorem infoBr : (Try.prog.info? 34).map (fun i => (i.zero, i.size, i.bytes)) = some (some (.agg #[.slice none 0 0, .int .i64 0]), 2, 32) := by kernel_rfl
theorem br_news {w : World} {b : Nat} {p : HdE} (h : Blk w b (brC p) 34) : ∀ (j : Nat) (u : Value), (flatBr [p])[j]? = some u → w.cell? ((⟨b, 0, none⟩ : Addr).add j) = some u := fun j u hu => by
  have e : flatBr [p] = (brC p).toList := by simp [flatBr]
  rw [e, Array.getElem?_toList] at hu
  have hadd : (⟨b, 0, none⟩ : Addr).add j = ⟨b, j, none⟩ := by unfold Addr.add; split <;> simp_all
  rw [hadd, h.cell]; exact hu
set_option maxRecDepth 100000 in
theorem wpList_append_br {w : World} {ops : Array Oper} {rest : List Oper} {o : Oper} {a : Act} {Q : Exit → Act → World → Prop} (hgd : o.guard = none) (s x : Operand)
    (ho : o.op = .call { callee := .builtin .append, args := #[s, x], argTypes := #[27, 27] })
    (base : Nat) (v : Value) (l : List HdE) (hs : a.eval s = v) (hown : OwnBr w base v l)
    (b : Nat) (p : HdE) (hx : a.eval x = .slice (some ⟨b, 0, none⟩) 1 1) (hnew : Blk w b (brC p) 34) (hlen : l.length < 1073741824) (hbase : base ≤ w.heap.size)
    (h : ∀ v' w', OwnBr w' base v' (l ++ [p]) → w.grownBy w' v.ownBlock → wpList Try.prog ops Q rest (a.put o.dst v') w') : wpList Try.prog ops Q (o :: rest) a w :=
  wpList_plain hgd fun K hK => by
    obtain ⟨ib, hib, hz0, hz1, hz2⟩ := info_parts infoBr
    obtain ⟨v', w', hrun, h2, h3, _⟩ := run_append_own (P := Try.prog) w base 27 o.type 34 ib _ 2 32 Try.underlying27 hib hz0 hz1 hz2 rfl (by decide) v l.length (flatBr l) hown ⟨b, 0, none⟩ 1 1 (flatBr [p]) rfl (br_news hnew) (flatBr_ones [p]) (by unfold maxLen; omega) (by omega) hbase
    unfold Oper.wp execOp
    simp only [ho, resolve, invoke, builtin, Sem.run_bind, Sem.run_pure, Result.andThen_ok, List.map_toArray, List.map_cons, List.map_nil, hs, hx, hrun]
    exact hK _ _ (h v' w' (by unfold OwnBr; rw [List.length_append, flatBr_append]; exact h2) h3)
theorem wpList_make_br {w : World} {ops : Array Oper} {rest : List Oper} {o : Oper} {a : Act} {Q : Exit → Act → World → Prop} (hgd : o.guard = none) (l c : Operand) (hop : o.op = Op.makeSlice 27 l c)
    (C : Int) (n : Nat) (hl : a.eval l = .int .i64 0) (hc : a.eval c = .int .i64 C) (hC : C = (n : Int)) (hn : n ≤ 1073741824)
    (hK : ∀ w', OwnBr w' w.heap.size (.slice (some ⟨w.heap.size, 0, none⟩) 0 n) [] → Below w.heap.size w w' → wpList Try.prog ops Q rest (a.put o.dst (.slice (some ⟨w.heap.size, 0, none⟩) 0 n)) w') : wpList Try.prog ops Q (o :: rest) a w := by
  obtain ⟨ib, hib, hz0, hz1, hz2⟩ := info_parts infoBr
  exact wpList_make_own w hgd l c 27 hop w.heap.size 34 ib _ 2 Try.underlying27 hib hz0 hz1 .i64 .i64 C n hl hc hC (by rw [hz2]; omega) (by unfold maxLen; omega) (Nat.le_refl _)
    fun w' h1 h2 => hK w' h1 ⟨h2.os, h2.tape, h2.output, h2.size, fun k hk => h2.block k hk (by simp)⟩
/-- What compares two branches. -/
theorem hdCmp_any (x y : HdE) (W : World) (hx : ItRow W x.A x.s) (hy : ItRow W y.A y.s) (h1 : x.s.length ≤ 1073741824) (h2 : y.s.length ≤ 1073741824) :
    Calls Try.prog 44 #[.agg (brC x), .agg (brC y)] W (AnsGd W (.int .i64 (stC x.s y.s))) := by
  have hb1 := GrwD.alloc W (.cells (brC x) 34)
  have hb2 := GrwD.alloc (W.alloc (.cells (brC x) 34)) (.cells (brC y) 34)
  have HB := Lib.hid (hb1.trans hb2)
  have HX := Lib.hid ((Blk.new W (brC x) 34).later hb2.below)
  have HY := Lib.hid (Blk.new (W.alloc (.cells (brC x) 34)) (brC y) 34)
  have HC := Lib.hid (icompareD x.s y.s x.A y.A x.cap y.cap _ (hx.later HB.out.below) (hy.later HB.out.below) h1 h2)
  rw [World.size_alloc] at HY
  clear hb1 hb2 hx hy
  go_enter Try.func44, Try.ntmps44
  go_upto_region 1 with (fail)
  unfold brC at HX HY HB HC ⊢
  generalize (W.alloc (.cells #[.slice x.A x.s.length x.cap, .int .i64 (x.many : Int)] 34)).alloc (.cells #[.slice y.A y.s.length y.cap, .int .i64 (y.many : Int)] 34) = w1 at *
  have c0 := HX.out.cell 0
  have d0 := HY.out.cell 0
  simp at c0 d0
  go_wp2_with fail
  refine HC.out.mono ?_
  rintro e w2 ⟨rfl, hg⟩
  have HG := Lib.hid (HB.out.trans hg)
  clear hg HC
  generalize stC x.s y.s = q at *
  go_wp2
  go_ret
  exact ⟨rfl, HG.out⟩
end Go.Proofs.Ytgabifebcfgngaa
