/- Ways of nothing: what they are made of, walked. -/
import Derived.Test.YtcgjmnhmhiddkaaDoorM29
import Derived.Test.YtcgjmnhmhiddkaaDoorM10
import Derived.Test.YtcgjmnhmhiddkaaDoorM25
import Derived.Test.YtcgjmnhmhiddkaaDoorProg
import Derived.WalkKit
import Derived.Carry
import Derived.Below
import Derived.Laws.EntriesVeiled
namespace Go.Proofs.YtcgjmnhmhiddkaaDoor
open Go Go.RowKit
set_option linter.unusedVariables false
set_option linter.unusedSimpArgs false

set_option maxHeartbeats 4000000 in
set_option maxRecDepth 100000 in
theorem nmost_any (n : Nat) (hn : n ≤ 1000) (w : World) : Calls Tryd.prog 46 #[.int .i64 (n : Int)] w (Pure w (.int .i64 ((min n 2 : Nat) : Int))) := by
  have e : ((min n 2 : Nat) : Int) = min (n : Int) 2 := by omega
  rw [e]
  clear e
  go_enter Tryd.func46, Tryd.ntmps46
  go_wp2
  go_ret
  exact ⟨rfl, rfl⟩
set_option maxHeartbeats 4000000 in
set_option maxRecDepth 100000 in
theorem npower_any (a : Nat) (k : Int) (w : World) : Calls Tryd.prog 60 #[.int .i64 (a : Int), .int .i64 k] w (Pure w (.int .i64 ((powW a k : Nat) : Int))) := by
  by_cases h : k = 0
  · subst h
    have hz : ((0 : Int) == 0) = true := rfl
    have e : powW a 0 = 1 := by unfold powW; rw [if_pos rfl]
    rw [e]
    go_enter Tryd.func60, Tryd.ntmps60
    go_wp2
    go_ret
    exact ⟨rfl, rfl⟩
  · have hz : (k == 0) = false := by rw [beq_eq_false_iff_ne]; exact h
    have e : powW a k = a := by unfold powW; rw [if_neg h]
    rw [e]
    clear h e
    go_enter Tryd.func60, Tryd.ntmps60
    go_wp2
    go_ret
    exact ⟨rfl, rfl⟩
set_option maxHeartbeats 4000000 in
set_option maxRecDepth 100000 in
theorem ntimes_any (a : Nat) (ha : a ≤ 2) (lo hi : Int) (h1 : -9223372036854775808 ≤ lo) (h2 : hi ≤ 9223372036854775807) (w : World) : Calls Tryd.prog 50 #[.int .i64 (a : Int), .int .i64 lo, .int .i64 hi] w (Pure w (.int .i64 ((tmsW a lo hi : Nat) : Int))) := by
  have CP := Lib.hid (npower_any a lo w)
  have CQ := Lib.hid (npower_any a (lo + 1) w)
  have hp := powW_le ha lo
  have hq := powW_le ha (lo + 1)
  by_cases h : lo < hi
  · have e : tmsW a lo hi = min (powW a lo + powW a (lo + 1)) 2 := by unfold tmsW; rw [if_pos h]
    rw [e]
    clear e
    generalize powW a lo = p at *
    generalize powW a (lo + 1) = q at *
    have CM := Lib.hid (nmost_any (p + q) (by omega) w)
    have hs : ((p + q : Nat) : Int) = (p : Int) + (q : Int) := by omega
    rw [hs] at CM
    clear hs
    go_enter Tryd.func50, Tryd.ntmps50
    go_wp2_with fail
    refine CP.out.mono ?_; rintro e w2 ⟨rfl, rfl⟩
    go_wp2_with fail
    refine CQ.out.mono ?_; rintro e w2 ⟨rfl, rfl⟩
    go_wp2_with fail
    refine CM.out.mono ?_; rintro e w2 ⟨rfl, rfl⟩
    go_wp2
    go_ret
    exact ⟨rfl, rfl⟩
  · have e : tmsW a lo hi = min (powW a lo) 2 := by unfold tmsW; rw [if_neg h]; rfl
    rw [e]
    clear e
    generalize powW a lo = p at *
    have hm : min p 2 = p := by omega
    have CM := Lib.hid (nmost_any p (by omega) w)
    rw [hm] at CM ⊢
    clear hm
    go_enter Tryd.func50, Tryd.ntmps50
    go_wp2_with fail
    refine CP.out.mono ?_; rintro e w2 ⟨rfl, rfl⟩
    go_wp2_with fail
    refine CM.out.mono ?_; rintro e w2 ⟨rfl, rfl⟩
    go_wp2
    go_ret
    exact ⟨rfl, rfl⟩
set_option maxHeartbeats 4000000 in
set_option maxRecDepth 100000 in
theorem npart_any (S : List Nat) (a : Int) (A : Option Addr) (c : Nat) (w : World) (hrow : IRow w A (natI S)) :
    Calls Tryd.prog 19 #[.slice A S.length c, .int .i64 a] w (Pure w (.int .i64 ((partS S a : Nat) : Int))) := by
  go_enter Tryd.func19, Tryd.ntmps19
  by_cases h0 : a < 0
  · have e : partS S a = 0 := by unfold partS; rw [if_neg (by omega)]
    rw [e]
    go_wp2
    go_ret
    exact ⟨rfl, rfl⟩
  · by_cases h1 : a < (S.length : Int)
    · obtain ⟨k, rfl⟩ : ∃ k : Nat, a = (k : Int) := ⟨a.toNat, by omega⟩
      have hk : k < S.length := by omega
      obtain ⟨b, off, rfl, -, hc⟩ := hrow k (by rw [natI_length]; exact hk)
      rw [natI_get hk] at hc
      have e : partS S (k : Int) = S.getD k 0 := by unfold partS; rw [if_pos (by omega)]; rfl
      rw [e]
      generalize S.getD k 0 = x at *
      have h2 : ¬ (k : Int) ≥ (S.length : Int) := by omega
      go_wp2
      go_ret
      exact ⟨rfl, rfl⟩
    · have e : partS S a = 0 := by unfold partS; rw [if_neg (by omega)]
      rw [e]
      have h2 : a ≥ (S.length : Int) := by omega
      go_wp2
      go_ret
      exact ⟨rfl, rfl⟩
/-- The one who tells a part's ways. -/
def fnW (bw : Nat) : Value := .func (.func 30) #[] #[.pointer (some ⟨bw, 0, none⟩)]
/-- What is known when a node is come to. -/
structure KwS (bf bw : Nat) (A : Option Addr) (c : Nat) (S : List Nat) (w : World) : Prop where
  fn : Blk w bf #[fnW bw] 82
  box : Blk w bw #[.slice A S.length c] 38
  row : IRow w A (natI S)
theorem KwS.later {bf bw : Nat} {A : Option Addr} {c : Nat} {S : List Nat} {w w' : World} (h : KwS bf bw A c S w) (hb : Below w.heap.size w w') : KwS bf bw A c S w' := ⟨h.fn.later hb, h.box.later hb, h.row.later hb⟩
set_option maxHeartbeats 4000000 in
set_option maxRecDepth 100000 in
theorem told1_any {bf bw : Nat} {A : Option Addr} {c : Nat} {S : List Nat} (a : Int) {w : World} (h : KwS bf bw A c S w) :
    Calls Tryd.prog 30 #[.int .i64 a, .pointer (some ⟨bw, 0, none⟩)] w (Pure w (.int .i64 ((partS S a : Nat) : Int))) := by
  have e0 := h.box.cell 0
  simp at e0
  have CP := Lib.hid (npart_any S a A c w h.row)
  clear h
  go_enter Tryd.func30, Tryd.ntmps30
  go_wp2_with fail
  refine CP.out.mono ?_; rintro e w2 ⟨rfl, rfl⟩
  go_wp2
  go_ret
  exact ⟨rfl, rfl⟩
structure NnS (w0 : World) (n : Nd) (bf bw : Nat) (A : Option Addr) (c : Nat) (S : List Nat) (w : World) : Prop where
  bel : Below w0.heap.size w0 w
  box : Blk w w0.heap.size (ndC n) 35
  kw : KwS bf bw A c S w
theorem NnS.later {w0 w w' : World} {n : Nd} {bf bw : Nat} {A : Option Addr} {c : Nat} {S : List Nat} (h : NnS w0 n bf bw A c S w) (hb : Below w.heap.size w w') : NnS w0 n bf bw A c S w' := ⟨h.bel.trans (hb.mono h.bel.size), h.box.later hb, h.kw.later hb⟩
set_option maxHeartbeats 4000000 in
set_option maxRecDepth 100000 in
theorem nk1_any (n : Nd) (w : World) : Calls Tryd.prog 44 #[.agg (ndC n)] w (Ans w (.int .i64 ((1 : Nat) : Int))) := by
  have hb := (Below.refl w.heap.size w).alloc (Nat.le_refl _) (.cells (ndC n) 35)
  obtain ⟨kind, a, b, lo, hi, cls, text⟩ := n
  unfold ndC at hb ⊢
  simp only at hb ⊢
  have HB := Lib.hid hb
  clear hb
  go_enter Tryd.func44, Tryd.ntmps44
  go_wp2
  go_ret
  exact ⟨rfl, HB.out⟩
set_option maxHeartbeats 16000000 in
set_option maxRecDepth 100000 in
theorem nk2_any (n : Nd) (hk : n.kind = 4) {bf bw : Nat} {A : Option Addr} {c : Nat} {S : List Nat} (hS : ∀ x ∈ S, x ≤ 2) (hl : True) (w : World) (h : KwS bf bw A c S w) : Calls Tryd.prog 45 #[.agg (ndC n), .pointer (some ⟨bf, 0, none⟩)] w (Ans w (.int .i64 ((waysW n S : Nat) : Int))) := by
  have HS0 : Hid (NnS w n bf bw A c S (w.alloc (.cells (ndC n) 35))) :=
    ⟨(Below.refl _ _).alloc (Nat.le_refl _) _, Blk.new _ _ _, h.later ((Below.refl _ _).alloc (Nat.le_refl _) _)⟩
  clear h
  obtain ⟨kind, a, b, lo, hi, cls, text⟩ := n
  simp only at hk hl
  have hent := enters_of Tryd.func30 (by kernel_rfl) rfl
  have hpa := partS_two hS a
  have CA : Hid (∀ w', NnS w ⟨kind, a, b, lo, hi, cls, text⟩ bf bw A c S w' → Calls Tryd.prog 30 #[.int .i64 a, .pointer (some ⟨bw, 0, none⟩)] w' (Pure w' (.int .i64 ((partS S a : Nat) : Int)))) := fun w' h => told1_any a h.kw
  have CB : Hid (∀ w', NnS w ⟨kind, a, b, lo, hi, cls, text⟩ bf bw A c S w' → Calls Tryd.prog 30 #[.int .i64 b, .pointer (some ⟨bw, 0, none⟩)] w' (Pure w' (.int .i64 ((partS S b : Nat) : Int)))) := fun w' h => told1_any b h.kw
  have hpb := partS_two hS b
  have e : waysW ⟨kind, a, b, lo, hi, cls, text⟩ S = min (partS S a * partS S b) 2 := by subst hk; simp [waysW]
  rw [e]
  clear e hk
  generalize partS S a = x at *
  generalize partS S b = y at *
  unfold ndC at HS0 ⊢
  simp only at HS0 ⊢
  go_enter Tryd.func45, Tryd.ntmps45
  go_upto_region 1 with (fail)
  generalize w.alloc (.cells #[.int .i64 kind, .int .i64 a, .int .i64 b, .int .i64 lo, .int .i64 hi, .int .u64 (wd cls 0), .int .u64 (wd cls 1), .int .u64 (wd cls 2), .int .u64 (wd cls 3), .string (bs text)] 35) = w1 at *
  have hxy : x * y ≤ 4 := by exact Nat.mul_le_mul hpa hpb
  have hc : ((x * y : Nat) : Int) = (x : Int) * (y : Int) := by simp
  have CM : Hid (∀ w', Calls Tryd.prog 46 #[.int .i64 ((x : Int) * (y : Int))] w' (Pure w' (.int .i64 ((min (x * y) 2 : Nat) : Int)))) := fun w' => by rw [← hc]; exact nmost_any (x * y) (by omega) w'
  generalize min (x * y) 2 = z at *
  have hi1 : (x : Int) * (y : Int) ≤ 4 := by rw [← hc]; omega
  have hi0 : 0 ≤ (x : Int) * (y : Int) := by rw [← hc]; omega
  clear hc hxy
  refine wp_region_stable_tail 9 (S := (NnS w ⟨kind, a, b, lo, hi, cls, text⟩ bf bw A c S)) (hSt := fun _ _ h hb => h.later hb) (plan := [[(1, none)], [(2, none)], [(5, some 1)], [(4, some 0), (6, some 2)], [(1, none)], [(2, none)], [(9, some 5)], [(8, some 4), (10, some 6)], [(7, some 3), (11, some 7)]]) rfl rfl (by kernel_rfl) (by kernel_rfl) (by kernel_rfl) (by kernel_rfl) ?hS ?_
  rotate_left
  iterate 9 first
    | (refine chain_skip (by rfl) (by rfl) ?_)
    | (apply chain_want (by rfl)
       · intro act wx hS hr
         simp at hr
         obtain ⟨f0, f1, f2, f3, f4, f5, f6, f7, f8, f9⟩ := ten_cells hS.box
         have k0 := hS.kw.fn.cell 0
         simp [fnW] at k0
         go_simp
         (try go_ints)
         first
           | ((with_reducible refine (CA.out _ hS).mono ?_); rintro e w' ⟨rfl, rfl⟩; exact Done.same)
           | ((with_reducible refine (CB.out _ hS).mono ?_); rintro e w' ⟨rfl, rfl⟩; exact Done.same)
           | exact Done.same
      )
  show ∀ w', _ → _
  intro wz hz
  simp [Act.put]
  case hS => exact HS0.out
  have HB := Lib.hid hz.bel
  clear hz
  go_wp2_with fail
  refine (CM.out _).mono ?_
  rintro e w2 ⟨rfl, rfl⟩
  go_wp2
  go_ret
  exact ⟨rfl, HB.out⟩
set_option maxHeartbeats 16000000 in
set_option maxRecDepth 100000 in
theorem nk3_any (n : Nd) (hk : n.kind = 5) {bf bw : Nat} {A : Option Addr} {c : Nat} {S : List Nat} (hS : ∀ x ∈ S, x ≤ 2) (hl : True) (w : World) (h : KwS bf bw A c S w) : Calls Tryd.prog 47 #[.agg (ndC n), .pointer (some ⟨bf, 0, none⟩)] w (Ans w (.int .i64 ((waysW n S : Nat) : Int))) := by
  have HS0 : Hid (NnS w n bf bw A c S (w.alloc (.cells (ndC n) 35))) :=
    ⟨(Below.refl _ _).alloc (Nat.le_refl _) _, Blk.new _ _ _, h.later ((Below.refl _ _).alloc (Nat.le_refl _) _)⟩
  clear h
  obtain ⟨kind, a, b, lo, hi, cls, text⟩ := n
  simp only at hk hl
  have hent := enters_of Tryd.func30 (by kernel_rfl) rfl
  have hpa := partS_two hS a
  have CA : Hid (∀ w', NnS w ⟨kind, a, b, lo, hi, cls, text⟩ bf bw A c S w' → Calls Tryd.prog 30 #[.int .i64 a, .pointer (some ⟨bw, 0, none⟩)] w' (Pure w' (.int .i64 ((partS S a : Nat) : Int)))) := fun w' h => told1_any a h.kw
  have CB : Hid (∀ w', NnS w ⟨kind, a, b, lo, hi, cls, text⟩ bf bw A c S w' → Calls Tryd.prog 30 #[.int .i64 b, .pointer (some ⟨bw, 0, none⟩)] w' (Pure w' (.int .i64 ((partS S b : Nat) : Int)))) := fun w' h => told1_any b h.kw
  have hpb := partS_two hS b
  have e : waysW ⟨kind, a, b, lo, hi, cls, text⟩ S = min (partS S a + partS S b) 2 := by subst hk; simp [waysW]
  rw [e]
  clear e hk
  generalize partS S a = x at *
  generalize partS S b = y at *
  unfold ndC at HS0 ⊢
  simp only at HS0 ⊢
  go_enter Tryd.func47, Tryd.ntmps47
  go_upto_region 1 with (fail)
  generalize w.alloc (.cells #[.int .i64 kind, .int .i64 a, .int .i64 b, .int .i64 lo, .int .i64 hi, .int .u64 (wd cls 0), .int .u64 (wd cls 1), .int .u64 (wd cls 2), .int .u64 (wd cls 3), .string (bs text)] 35) = w1 at *
  have hxy : x + y ≤ 4 := by omega
  have hc : ((x + y : Nat) : Int) = (x : Int) + (y : Int) := by simp
  have CM : Hid (∀ w', Calls Tryd.prog 46 #[.int .i64 ((x : Int) + (y : Int))] w' (Pure w' (.int .i64 ((min (x + y) 2 : Nat) : Int)))) := fun w' => by rw [← hc]; exact nmost_any (x + y) (by omega) w'
  generalize min (x + y) 2 = z at *
  have hi1 : (x : Int) + (y : Int) ≤ 4 := by rw [← hc]; omega
  have hi0 : 0 ≤ (x : Int) + (y : Int) := by rw [← hc]; omega
  clear hc hxy
  refine wp_region_stable_tail 9 (S := (NnS w ⟨kind, a, b, lo, hi, cls, text⟩ bf bw A c S)) (hSt := fun _ _ h hb => h.later hb) (plan := [[(1, none)], [(2, none)], [(5, some 1)], [(4, some 0), (6, some 2)], [(1, none)], [(2, none)], [(9, some 5)], [(8, some 4), (10, some 6)], [(7, some 3), (11, some 7)]]) rfl rfl (by kernel_rfl) (by kernel_rfl) (by kernel_rfl) (by kernel_rfl) ?hS ?_
  rotate_left
  iterate 9 first
    | (refine chain_skip (by rfl) (by rfl) ?_)
    | (apply chain_want (by rfl)
       · intro act wx hS hr
         simp at hr
         obtain ⟨f0, f1, f2, f3, f4, f5, f6, f7, f8, f9⟩ := ten_cells hS.box
         have k0 := hS.kw.fn.cell 0
         simp [fnW] at k0
         go_simp
         (try go_ints)
         first
           | ((with_reducible refine (CA.out _ hS).mono ?_); rintro e w' ⟨rfl, rfl⟩; exact Done.same)
           | ((with_reducible refine (CB.out _ hS).mono ?_); rintro e w' ⟨rfl, rfl⟩; exact Done.same)
           | exact Done.same
      )
  show ∀ w', _ → _
  intro wz hz
  simp [Act.put]
  case hS => exact HS0.out
  have HB := Lib.hid hz.bel
  clear hz
  go_wp2_with fail
  refine (CM.out _).mono ?_
  rintro e w2 ⟨rfl, rfl⟩
  go_wp2
  go_ret
  exact ⟨rfl, HB.out⟩
set_option maxHeartbeats 16000000 in
set_option maxRecDepth 100000 in
theorem nk4_any (n : Nd) (hk : n.kind = 6) {bf bw : Nat} {A : Option Addr} {c : Nat} {S : List Nat} (hS : ∀ x ∈ S, x ≤ 2) (hl : True) (w : World) (h : KwS bf bw A c S w) : Calls Tryd.prog 48 #[.agg (ndC n), .pointer (some ⟨bf, 0, none⟩)] w (Ans w (.int .i64 ((waysW n S : Nat) : Int))) := by
  have HS0 : Hid (NnS w n bf bw A c S (w.alloc (.cells (ndC n) 35))) :=
    ⟨(Below.refl _ _).alloc (Nat.le_refl _) _, Blk.new _ _ _, h.later ((Below.refl _ _).alloc (Nat.le_refl _) _)⟩
  clear h
  obtain ⟨kind, a, b, lo, hi, cls, text⟩ := n
  simp only at hk hl
  have hent := enters_of Tryd.func30 (by kernel_rfl) rfl
  have hpa := partS_two hS a
  have CA : Hid (∀ w', NnS w ⟨kind, a, b, lo, hi, cls, text⟩ bf bw A c S w' → Calls Tryd.prog 30 #[.int .i64 a, .pointer (some ⟨bw, 0, none⟩)] w' (Pure w' (.int .i64 ((partS S a : Nat) : Int)))) := fun w' h => told1_any a h.kw
  have CB : Hid (∀ w', NnS w ⟨kind, a, b, lo, hi, cls, text⟩ bf bw A c S w' → Calls Tryd.prog 30 #[.int .i64 b, .pointer (some ⟨bw, 0, none⟩)] w' (Pure w' (.int .i64 ((partS S b : Nat) : Int)))) := fun w' h => told1_any b h.kw
  have hpb := partS_two hS b
  have e : waysW ⟨kind, a, b, lo, hi, cls, text⟩ S = min (1 + partS S a) 2 := by subst hk; simp [waysW]
  rw [e]
  clear e hk
  generalize partS S a = x at *
  generalize partS S b = y at *
  unfold ndC at HS0 ⊢
  simp only at HS0 ⊢
  go_enter Tryd.func48, Tryd.ntmps48
  go_upto_region 1 with (fail)
  generalize w.alloc (.cells #[.int .i64 kind, .int .i64 a, .int .i64 b, .int .i64 lo, .int .i64 hi, .int .u64 (wd cls 0), .int .u64 (wd cls 1), .int .u64 (wd cls 2), .int .u64 (wd cls 3), .string (bs text)] 35) = w1 at *
  have CM : Hid (∀ w', Calls Tryd.prog 46 #[.int .i64 (1 + (x : Int))] w' (Pure w' (.int .i64 ((min (1 + x) 2 : Nat) : Int)))) := fun w' => by rw [show (1 + (x : Int)) = ((1 + x : Nat) : Int) by omega]; exact nmost_any (1 + x) (by omega) w'
  generalize min (1 + x) 2 = z at *
  obtain ⟨f0, f1, f2, f3, f4, f5, f6, f7, f8, f9⟩ := ten_cells HS0.out.box
  have k0 := HS0.out.kw.fn.cell 0
  simp [fnW] at k0
  go_wp2_with fail
  refine (CA.out _ HS0.out).mono ?_
  rintro e w2 ⟨rfl, rfl⟩
  go_wp2_with fail
  refine (CM.out _).mono ?_
  rintro e w2 ⟨rfl, rfl⟩
  go_wp2
  go_ret
  exact ⟨rfl, HS0.out.bel⟩
set_option maxHeartbeats 16000000 in
set_option maxRecDepth 100000 in
theorem nk5_any (n : Nd) (hk : n.kind = 7) {bf bw : Nat} {A : Option Addr} {c : Nat} {S : List Nat} (hS : ∀ x ∈ S, x ≤ 2) (hl : -9223372036854775808 ≤ n.lo ∧ n.hi ≤ 9223372036854775807) (w : World) (h : KwS bf bw A c S w) : Calls Tryd.prog 49 #[.agg (ndC n), .pointer (some ⟨bf, 0, none⟩)] w (Ans w (.int .i64 ((waysW n S : Nat) : Int))) := by
  have HS0 : Hid (NnS w n bf bw A c S (w.alloc (.cells (ndC n) 35))) :=
    ⟨(Below.refl _ _).alloc (Nat.le_refl _) _, Blk.new _ _ _, h.later ((Below.refl _ _).alloc (Nat.le_refl _) _)⟩
  clear h
  obtain ⟨kind, a, b, lo, hi, cls, text⟩ := n
  simp only at hk hl
  have hent := enters_of Tryd.func30 (by kernel_rfl) rfl
  have hpa := partS_two hS a
  have CA : Hid (∀ w', NnS w ⟨kind, a, b, lo, hi, cls, text⟩ bf bw A c S w' → Calls Tryd.prog 30 #[.int .i64 a, .pointer (some ⟨bw, 0, none⟩)] w' (Pure w' (.int .i64 ((partS S a : Nat) : Int)))) := fun w' h => told1_any a h.kw
  have CB : Hid (∀ w', NnS w ⟨kind, a, b, lo, hi, cls, text⟩ bf bw A c S w' → Calls Tryd.prog 30 #[.int .i64 b, .pointer (some ⟨bw, 0, none⟩)] w' (Pure w' (.int .i64 ((partS S b : Nat) : Int)))) := fun w' h => told1_any b h.kw
  have hpb := partS_two hS b
  have e : waysW ⟨kind, a, b, lo, hi, cls, text⟩ S = tmsW (partS S a) lo hi := by subst hk; simp [waysW]
  rw [e]
  clear e hk
  generalize partS S a = x at *
  generalize partS S b = y at *
  unfold ndC at HS0 ⊢
  simp only at HS0 ⊢
  go_enter Tryd.func49, Tryd.ntmps49
  go_upto_region 1 with (fail)
  generalize w.alloc (.cells #[.int .i64 kind, .int .i64 a, .int .i64 b, .int .i64 lo, .int .i64 hi, .int .u64 (wd cls 0), .int .u64 (wd cls 1), .int .u64 (wd cls 2), .int .u64 (wd cls 3), .string (bs text)] 35) = w1 at *
  have CM : Hid (∀ w', Calls Tryd.prog 50 #[.int .i64 (x : Int), .int .i64 lo, .int .i64 hi] w' (Pure w' (.int .i64 ((tmsW x lo hi : Nat) : Int)))) := fun w' => ntimes_any x hpa lo hi hl.1 hl.2 w'
  generalize tmsW x lo hi = z at *
  refine wp_region_stable_tail 8 (S := (NnS w ⟨kind, a, b, lo, hi, cls, text⟩ bf bw A c S)) (hSt := fun _ _ h hb => h.later hb) (plan := [[(1, none)], [(2, none)], [(5, some 1)], [(4, some 0), (6, some 2)], [(2, none)], [(8, some 4)], [(2, none)], [(10, some 6)]]) rfl rfl (by kernel_rfl) (by kernel_rfl) (by kernel_rfl) (by kernel_rfl) ?hS ?_
  rotate_left
  iterate 8 first
    | (refine chain_skip (by rfl) (by rfl) ?_)
    | (apply chain_want (by rfl)
       · intro act wx hS hr
         simp at hr
         obtain ⟨f0, f1, f2, f3, f4, f5, f6, f7, f8, f9⟩ := ten_cells hS.box
         have k0 := hS.kw.fn.cell 0
         simp [fnW] at k0
         go_simp
         (try go_ints)
         first
           | ((with_reducible refine (CA.out _ hS).mono ?_); rintro e w' ⟨rfl, rfl⟩; exact Done.same)
           | exact Done.same
      )
  show ∀ w', _ → _
  intro wz hz
  simp [Act.put]
  case hS => exact HS0.out
  have HB := Lib.hid hz.bel
  clear hz
  go_wp2_with fail
  refine (CM.out _).mono ?_
  rintro e w2 ⟨rfl, rfl⟩
  go_wp2
  go_ret
  exact ⟨rfl, HB.out⟩
end Go.Proofs.YtcgjmnhmhiddkaaDoor
/- A map whose keys are numbers: what a look-up finds, what a new key leaves. -/
namespace Go.Proofs.YtcgjmnhmhiddkaaDoor
open Go Go.RowKit
set_option linter.unusedVariables false
set_option linter.unusedSimpArgs false

def mapEsK : List (Int × Value) → Nat → List MapEntry
  | [], _ => []
  | p :: l, i => { key := .int .i64 p.1, val := p.2, born := i } :: mapEsK l (i + 1)
theorem mapEsK_append : ∀ (l : List (Int × Value)) (k : Int) (v : Value) (i : Nat), mapEsK (l ++ [(k, v)]) i = mapEsK l i ++ [{ key := .int .i64 k, val := v, born := i + l.length }]
  | [], k, v, i => rfl
  | p :: l, k, v, i => by
    show _ :: mapEsK (l ++ [(k, v)]) (i + 1) = _
    rw [mapEsK_append l k v (i + 1)]
    simp [mapEsK]; omega
/-- What a map holds, in the order in which it was put in. -/
def IsMapK (w : World) (m : Nat) (l : List (Int × Value)) : Prop := w.heap[m]? = some (.map (mapEsK l 0).toArray l.length)
theorem IsMapK.lt {w : World} {m : Nat} {l : List (Int × Value)} (h : IsMapK w m l) : m < w.heap.size := (Array.getElem?_eq_some_iff.1 h).1
theorem IsMapK.later {w w' : World} {m : Nat} {l : List (Int × Value)} (h : IsMapK w m l) (hb : Below w.heap.size w w') : IsMapK w' m l := (hb.block m h.lt).trans h
/-- The world with a map's block turned. -/
def putMapK (w : World) (m : Nat) (l : List (Int × Value)) : World := { w with heap := w.heap.setIfInBounds m (.map (mapEsK l 0).toArray l.length) }
theorem putMapK_is {w : World} {m : Nat} (h : m < w.heap.size) (l' : List (Int × Value)) : IsMapK (putMapK w m l') m l' := by
  unfold IsMapK putMapK; simp [h]
theorem putMapK_other {w : World} {m b : Nat} (hb : b ≠ m) (l : List (Int × Value)) : (putMapK w m l).heap[b]? = w.heap[b]? := by
  unfold putMapK; simp [Ne.symm hb]
theorem putMapK_size (w : World) (m : Nat) (l : List (Int × Value)) : (putMapK w m l).heap.size = w.heap.size := by simp [putMapK]
theorem putMapK_below {B : Nat} {a w : World} {m : Nat} (h : Below B a w) (hm : B ≤ m) (l : List (Int × Value)) : Below B a (putMapK w m l) :=
  h.trans ⟨rfl, rfl, rfl, by rw [putMapK_size]; exact Nat.le_refl _, fun i hi => putMapK_other (by omega) l⟩
/-- What a look-up finds. -/
def findEK : List (Int × Value) → Int → Nat → Option (Nat × Value)
  | [], _, _ => none
  | p :: l, k, i => if p.1 = k then some (i, p.2) else findEK l k (i + 1)
theorem findNow_mapEsK (k : Int) : ∀ (l : List (Int × Value)) (i : Nat), Instr.findNow (.int .i64) (.int .i64 k) (mapEsK l i) i = some (findEK l k i)
  | [], i => rfl
  | p :: l, i => by
    unfold mapEsK Instr.findNow findEK
    simp only [Instr.sameNow, if_true]
    by_cases h : p.1 = k
    · have : (k == p.1) = true := by rw [beq_iff_eq]; exact h.symm
      rw [this, if_pos h]
    · have : (k == p.1) = false := by rw [beq_eq_false_iff_ne]; exact fun e => h e.symm
      rw [this, if_neg h]
      exact findNow_mapEsK k l (i + 1)
theorem keysK_free {e : Bool} {k : Int} (w : World) : (Instr.checkKey e 10000 3 (.int .i64 k)).run Tryd.prog w = .ok () w := by
  rw [show (10000 : Nat) = 9999 + 1 from rfl]
  unfold Instr.checkKey
  simp [run_underlying Tryd.underlying3, Result.andThen]
end Go.Proofs.YtcgjmnhmhiddkaaDoor
/- The table of kinds, of the ways of nothing: walked. -/
namespace Go.Proofs.YtcgjmnhmhiddkaaDoor
open Go Go.RowKit
set_option linter.unusedVariables false
set_option linter.unusedSimpArgs false
set_option maxRecDepth 100000

theorem run_lookup_way (w : World) (m : Nat) (l : List (Int × Value)) (k : Int) (hm : IsMapK w m l) :
    (Instr.lookup 80 (.map (some m)) (.int .i64 k) true).run Tryd.prog w = .ok (match findEK l k 0 with | some (_, v) => .tuple #[v, .bool true] | none => .tuple #[.nilFunc, .bool false]) w := by
  unfold IsMapK at hm
  have hf := findNow_mapEsK k l 0
  have hz := Tryd.zeroValue83
  simp only [Instr.lookup, Sem.run_bind, run_underlying Tryd.underlying80, Result.andThen, getObj, Sem.run, hm, keysK_free, Instr.findKey, run_underlying Tryd.underlying3, hf]
  rw [show (Sem.run Tryd.prog (pure (mapEsK l 0).toArray) w) = .ok (mapEsK l 0).toArray w from rfl]
  simp only [hf]
  cases h : findEK l k 0 with
  | none => simp [Sem.run_bind, hz, Result.andThen]
  | some p => obtain ⟨i, v⟩ := p; rfl
theorem run_update_way (w : World) (m : Nat) (l : List (Int × Value)) (k : Int) (v : Value) (hm : IsMapK w m l) (hk : findEK l k 0 = none) :
    (Instr.mapUpdate 80 (.map (some m)) (.int .i64 k) v).run Tryd.prog w = .ok () (putMapK w m (l ++ [(k, v)])) := by
  have hlt := hm.lt
  unfold IsMapK at hm
  have hf := findNow_mapEsK k l 0
  rw [hk] at hf
  simp only [Instr.mapUpdate, Sem.run_bind, run_underlying Tryd.underlying80, Result.andThen, getObj, Sem.run, hm, keysK_free, Instr.findKey, run_underlying Tryd.underlying3, hf]
  simp only [setObj, Sem.run, hm]
  unfold putMapK
  rw [mapEsK_append]
  simp [Sem.run, hm]
theorem blk_putW {w : World} {m b : Nat} {vs : Array Value} {t : TypeId} {l l' : List (Int × Value)} (hm : IsMapK w m l) (h : Blk w b vs t) : Blk (putMapK w m l') b vs t := by
  have hne : b ≠ m := fun e => by
    unfold Blk at h; unfold IsMapK at hm
    rw [e, hm] at h; cases h
  exact (putMapK_other hne l').trans h
theorem put_stepW {w0 w : World} {m : Nat} {l l' : List (Int × Value)} (hb : Below w0.heap.size w0 w) (hlow : w0.heap.size ≤ m) (hm : IsMapK w m l) : Below w0.heap.size w0 (putMapK w m l') ∧ IsMapK (putMapK w m l') m l' := ⟨putMapK_below hb hlow l', putMapK_is hm.lt l'⟩
/-- The table of kinds. -/
def wL (bf : Nat) : List (Int × Value) := [(1, (.func (.func 44) #[] #[] : Value)), (4, (.func (.func 45) #[] #[.pointer (some ⟨bf, 0, none⟩)] : Value)), (5, (.func (.func 47) #[] #[.pointer (some ⟨bf, 0, none⟩)] : Value)), (6, (.func (.func 48) #[] #[.pointer (some ⟨bf, 0, none⟩)] : Value)), (7, (.func (.func 49) #[] #[.pointer (some ⟨bf, 0, none⟩)] : Value))]
structure NkS (w0 : World) (bf bw m : Nat) (l : List (Int × Value)) (w : World) : Prop where
  bel : Below w0.heap.size w0 w
  fn : Blk w bf #[fnW bw] 82
  map : IsMapK w m l
  low : w0.heap.size ≤ m
theorem NkS.put {w0 w : World} {bf bw m : Nat} {l : List (Int × Value)} (h : NkS w0 bf bw m l w) (l' : List (Int × Value)) : NkS w0 bf bw m l' (putMapK w m l') :=
  ⟨(put_stepW h.bel h.low h.map).1, blk_putW h.map h.fn, (put_stepW h.bel h.low h.map).2, h.low⟩
set_option maxHeartbeats 16000000 in
theorem nkinds_any (bw : Nat) (w : World) : Calls Tryd.prog 29 #[.func (.func 30) #[] #[.pointer (some ⟨bw, 0, none⟩)]] w (fun e w' => ∃ m bf, e = .returned (.map (some m)) ∧ IsMapK w' m (wL bf) ∧ Blk w' bf #[fnW bw] 82 ∧ Below w.heap.size w w') := by
  have hmm := @run_makeMap Tryd.prog
  have hb1 := (Below.refl w.heap.size w).alloc (Nat.le_refl _) (.cells #[fnW bw] 82)
  have hf1 := Blk.new w #[fnW bw] 82
  unfold fnW at hb1 hf1
  have HB1 := Lib.hid hb1
  have HF1 := Lib.hid hf1
  clear hb1 hf1
  go_enter Tryd.func29, Tryd.ntmps29
  go_upto_region 1 with (fail)
  generalize w.alloc (.cells #[.func (.func 30) #[] #[.pointer (some ⟨bw, 0, none⟩)]] 82) = w1 at *
  have HLOW : Hid (w.heap.size ≤ w1.heap.size) := HB1.out.size
  have HS0 : Hid (NkS w w.heap.size bw w1.heap.size [] (w1.alloc (.map #[] 0))) := ⟨HB1.out.trans ((Below.refl _ _).alloc HLOW.out _), HF1.out.alloc _, by unfold IsMapK mapEsK; show (w1.heap.push _)[w1.heap.size]? = _; simp, HLOW.out⟩

  obtain ⟨u1, hu1⟩ : ∃ u, u = putMapK (w1.alloc (.map #[] 0)) w1.heap.size [(1, (.func (.func 44) #[] #[] : Value))] := ⟨_, rfl⟩
  have hx1 : (Instr.mapUpdate 80 (.map (some w1.heap.size)) (.int .i64 1) (.func (.func 44) #[] #[] : Value)).run Tryd.prog (w1.alloc (.map #[] 0)) = .ok () u1 := by
    rw [hu1]; exact run_update_way (w1.alloc (.map #[] 0)) w1.heap.size [] 1 (.func (.func 44) #[] #[] : Value) HS0.out.map rfl
  have HS1 : Hid (NkS w w.heap.size bw w1.heap.size [(1, (.func (.func 44) #[] #[] : Value))] u1) := by rw [hu1]; exact HS0.out.put _
  clear hu1
  obtain ⟨u2, hu2⟩ : ∃ u, u = putMapK u1 w1.heap.size [(1, (.func (.func 44) #[] #[] : Value)), (4, (.func (.func 45) #[] #[.pointer (some ⟨w.heap.size, 0, none⟩)] : Value))] := ⟨_, rfl⟩
  have hx2 : (Instr.mapUpdate 80 (.map (some w1.heap.size)) (.int .i64 4) (.func (.func 45) #[] #[.pointer (some ⟨w.heap.size, 0, none⟩)] : Value)).run Tryd.prog u1 = .ok () u2 := by
    rw [hu2]; exact run_update_way u1 w1.heap.size [(1, (.func (.func 44) #[] #[] : Value))] 4 (.func (.func 45) #[] #[.pointer (some ⟨w.heap.size, 0, none⟩)] : Value) HS1.out.map rfl
  have HS2 : Hid (NkS w w.heap.size bw w1.heap.size [(1, (.func (.func 44) #[] #[] : Value)), (4, (.func (.func 45) #[] #[.pointer (some ⟨w.heap.size, 0, none⟩)] : Value))] u2) := by rw [hu2]; exact HS1.out.put _
  clear hu2
  obtain ⟨u3, hu3⟩ : ∃ u, u = putMapK u2 w1.heap.size [(1, (.func (.func 44) #[] #[] : Value)), (4, (.func (.func 45) #[] #[.pointer (some ⟨w.heap.size, 0, none⟩)] : Value)), (5, (.func (.func 47) #[] #[.pointer (some ⟨w.heap.size, 0, none⟩)] : Value))] := ⟨_, rfl⟩
  have hx3 : (Instr.mapUpdate 80 (.map (some w1.heap.size)) (.int .i64 5) (.func (.func 47) #[] #[.pointer (some ⟨w.heap.size, 0, none⟩)] : Value)).run Tryd.prog u2 = .ok () u3 := by
    rw [hu3]; exact run_update_way u2 w1.heap.size [(1, (.func (.func 44) #[] #[] : Value)), (4, (.func (.func 45) #[] #[.pointer (some ⟨w.heap.size, 0, none⟩)] : Value))] 5 (.func (.func 47) #[] #[.pointer (some ⟨w.heap.size, 0, none⟩)] : Value) HS2.out.map rfl
  have HS3 : Hid (NkS w w.heap.size bw w1.heap.size [(1, (.func (.func 44) #[] #[] : Value)), (4, (.func (.func 45) #[] #[.pointer (some ⟨w.heap.size, 0, none⟩)] : Value)), (5, (.func (.func 47) #[] #[.pointer (some ⟨w.heap.size, 0, none⟩)] : Value))] u3) := by rw [hu3]; exact HS2.out.put _
  clear hu3
  obtain ⟨u4, hu4⟩ : ∃ u, u = putMapK u3 w1.heap.size [(1, (.func (.func 44) #[] #[] : Value)), (4, (.func (.func 45) #[] #[.pointer (some ⟨w.heap.size, 0, none⟩)] : Value)), (5, (.func (.func 47) #[] #[.pointer (some ⟨w.heap.size, 0, none⟩)] : Value)), (6, (.func (.func 48) #[] #[.pointer (some ⟨w.heap.size, 0, none⟩)] : Value))] := ⟨_, rfl⟩
  have hx4 : (Instr.mapUpdate 80 (.map (some w1.heap.size)) (.int .i64 6) (.func (.func 48) #[] #[.pointer (some ⟨w.heap.size, 0, none⟩)] : Value)).run Tryd.prog u3 = .ok () u4 := by
    rw [hu4]; exact run_update_way u3 w1.heap.size [(1, (.func (.func 44) #[] #[] : Value)), (4, (.func (.func 45) #[] #[.pointer (some ⟨w.heap.size, 0, none⟩)] : Value)), (5, (.func (.func 47) #[] #[.pointer (some ⟨w.heap.size, 0, none⟩)] : Value))] 6 (.func (.func 48) #[] #[.pointer (some ⟨w.heap.size, 0, none⟩)] : Value) HS3.out.map rfl
  have HS4 : Hid (NkS w w.heap.size bw w1.heap.size [(1, (.func (.func 44) #[] #[] : Value)), (4, (.func (.func 45) #[] #[.pointer (some ⟨w.heap.size, 0, none⟩)] : Value)), (5, (.func (.func 47) #[] #[.pointer (some ⟨w.heap.size, 0, none⟩)] : Value)), (6, (.func (.func 48) #[] #[.pointer (some ⟨w.heap.size, 0, none⟩)] : Value))] u4) := by rw [hu4]; exact HS3.out.put _
  clear hu4
  obtain ⟨u5, hu5⟩ : ∃ u, u = putMapK u4 w1.heap.size [(1, (.func (.func 44) #[] #[] : Value)), (4, (.func (.func 45) #[] #[.pointer (some ⟨w.heap.size, 0, none⟩)] : Value)), (5, (.func (.func 47) #[] #[.pointer (some ⟨w.heap.size, 0, none⟩)] : Value)), (6, (.func (.func 48) #[] #[.pointer (some ⟨w.heap.size, 0, none⟩)] : Value)), (7, (.func (.func 49) #[] #[.pointer (some ⟨w.heap.size, 0, none⟩)] : Value))] := ⟨_, rfl⟩
  have hx5 : (Instr.mapUpdate 80 (.map (some w1.heap.size)) (.int .i64 7) (.func (.func 49) #[] #[.pointer (some ⟨w.heap.size, 0, none⟩)] : Value)).run Tryd.prog u4 = .ok () u5 := by
    rw [hu5]; exact run_update_way u4 w1.heap.size [(1, (.func (.func 44) #[] #[] : Value)), (4, (.func (.func 45) #[] #[.pointer (some ⟨w.heap.size, 0, none⟩)] : Value)), (5, (.func (.func 47) #[] #[.pointer (some ⟨w.heap.size, 0, none⟩)] : Value)), (6, (.func (.func 48) #[] #[.pointer (some ⟨w.heap.size, 0, none⟩)] : Value))] 7 (.func (.func 49) #[] #[.pointer (some ⟨w.heap.size, 0, none⟩)] : Value) HS4.out.map rfl
  have HS5 : Hid (NkS w w.heap.size bw w1.heap.size [(1, (.func (.func 44) #[] #[] : Value)), (4, (.func (.func 45) #[] #[.pointer (some ⟨w.heap.size, 0, none⟩)] : Value)), (5, (.func (.func 47) #[] #[.pointer (some ⟨w.heap.size, 0, none⟩)] : Value)), (6, (.func (.func 48) #[] #[.pointer (some ⟨w.heap.size, 0, none⟩)] : Value)), (7, (.func (.func 49) #[] #[.pointer (some ⟨w.heap.size, 0, none⟩)] : Value))] u5) := by rw [hu5]; exact HS4.out.put _
  clear hu5
  go_wp2
  go_ret
  exact ⟨_, _, rfl, HS5.out.map, HS5.out.fn, HS5.out.bel⟩
/-- What is found. -/
theorem findW (bf : Nat) (k : Int) : findEK (wL bf) k 0 = if k = 1 then some (0, .func (.func 44) #[] #[]) else if k = 4 then some (1, .func (.func 45) #[] #[.pointer (some ⟨bf, 0, none⟩)]) else if k = 5 then some (2, .func (.func 47) #[] #[.pointer (some ⟨bf, 0, none⟩)]) else if k = 6 then some (3, .func (.func 48) #[] #[.pointer (some ⟨bf, 0, none⟩)]) else if k = 7 then some (4, .func (.func 49) #[] #[.pointer (some ⟨bf, 0, none⟩)]) else none := by
  simp only [wL, findEK, eq_comm (a := k)]
/-- A node's kind, looked up: who tells its ways, or none, and none are. -/
theorem way_at (n : Nd) (hn : IntOk n) (m bf bw : Nat) (w : World) (hm : IsMapK w m (wL bf)) : (∃ fK binds, (Instr.lookup 80 (.map (some m)) (.int .i64 n.kind) true).run Tryd.prog w = .ok (.tuple #[.func (.func fK) #[] binds, .bool true]) w ∧
    (∀ args w, (callFunc fK args).run Tryd.prog w = .ok (.enter fK args) w) ∧ ∀ (A : Option Addr) (c : Nat) (S : List Nat) (w' : World), (∀ x ∈ S, x ≤ 2) → KwS bf bw A c S w' → Calls Tryd.prog fK (#[.agg (ndC n)] ++ binds) w' (Ans w' (.int .i64 ((waysW n S : Nat) : Int)))) ∨
    ((Instr.lookup 80 (.map (some m)) (.int .i64 n.kind) true).run Tryd.prog w = .ok (.tuple #[.nilFunc, .bool false]) w ∧ ∀ S, waysW n S = 0) := by
  have hl := run_lookup_way w m (wL bf) n.kind hm
  rw [findW] at hl
  by_cases h1 : n.kind = 1
  · rw [if_pos h1] at hl
    exact .inl ⟨_, #[], hl, enters_of Tryd.func44 (by kernel_rfl) rfl, fun A c S w' hS hk => by
      have e : waysW n S = 1 := by unfold waysW; rw [if_pos h1]
      rw [e]; exact nk1_any n w'⟩
  rw [if_neg h1] at hl
  by_cases h4 : n.kind = 4
  · rw [if_pos h4] at hl
    exact .inl ⟨_, #[.pointer (some ⟨bf, 0, none⟩)], hl, enters_of Tryd.func45 (by kernel_rfl) rfl, fun A c S w' hS hk => nk2_any n h4 hS trivial w' hk⟩
  rw [if_neg h4] at hl
  by_cases h5 : n.kind = 5
  · rw [if_pos h5] at hl
    exact .inl ⟨_, #[.pointer (some ⟨bf, 0, none⟩)], hl, enters_of Tryd.func47 (by kernel_rfl) rfl, fun A c S w' hS hk => nk3_any n h5 hS trivial w' hk⟩
  rw [if_neg h5] at hl
  by_cases h6 : n.kind = 6
  · rw [if_pos h6] at hl
    exact .inl ⟨_, #[.pointer (some ⟨bf, 0, none⟩)], hl, enters_of Tryd.func48 (by kernel_rfl) rfl, fun A c S w' hS hk => nk4_any n h6 hS trivial w' hk⟩
  rw [if_neg h6] at hl
  by_cases h7 : n.kind = 7
  · rw [if_pos h7] at hl
    exact .inl ⟨_, #[.pointer (some ⟨bf, 0, none⟩)], hl, enters_of Tryd.func49 (by kernel_rfl) rfl, fun A c S w' hS hk => nk5_any n h7 hS hn w' hk⟩
  rw [if_neg h7] at hl
  exact .inr ⟨hl, fun S => by unfold waysW; rw [if_neg h1, if_neg h4, if_neg h5, if_neg h6, if_neg h7]⟩
end Go.Proofs.YtcgjmnhmhiddkaaDoor
/- The anchor of layer 4: answers that the document fixes. -/
namespace Go.Proofs.YtcgjmnhmhiddkaaDoor
open Go Go.RowKit
set_option linter.unusedVariables false
set_option linter.unusedSimpArgs false

end Go.Proofs.YtcgjmnhmhiddkaaDoor
