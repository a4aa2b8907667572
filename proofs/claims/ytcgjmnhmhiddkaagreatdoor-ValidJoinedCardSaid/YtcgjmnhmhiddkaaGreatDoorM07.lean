/- The items of a class, numbers: walked. -/
import Derived.Test.YtcgjmnhmhiddkaaGreatDoorM04
import Derived.Lib.OthersKept
import Derived.WalkSpells
namespace Go.Proofs.YtcgjmnhmhiddkaaGreatDoor
open Go Go.RowKit
set_option linter.unusedVariables false

def digI (c : UInt8) : Int := match digV c with
  | some x => (x : Int)
  | none => -1
def digTab : List UInt8 := [48, 49, 50, 51, 52, 53, 54, 55, 56, 57, 97, 98, 99, 100, 101, 102]
theorem dig_idx (c : UInt8) : Lib.indexByte digTab c = digI c := by
  have key : ∀ n, n < 256 → Lib.indexByte digTab (UInt8.ofNat n) = digI (UInt8.ofNat n) := by decide +kernel
  have := key c.toNat c.toNat_lt
  simpa using this
theorem idxdig_any (c : UInt8) (w : World) :
    Calls Tryz.prog 174 #[.string ⟨#[48, 49, 50, 51, 52, 53, 54, 55, 56, 57, 97, 98, 99, 100, 101, 102]⟩, .int .u8 (c.toNat : Int)] w (Pure w (.int .i64 (digI c))) := by
  refine (idx_any _ _ w).mono fun e w' ⟨he, hw⟩ => ⟨?_, hw⟩
  rw [he, ← dig_idx]; simp; rfl
theorem digI_some {c : UInt8} {x : Nat} (h : digV c = some x) : digI c = (x : Int) := by unfold digI; rw [h]
theorem digI_none {c : UInt8} (h : digV c = none) : digI c = -1 := by unfold digI; rw [h]
def hexR (l : List UInt8) : Value := match hexV l with
  | some x => .tuple #[.int .u8 (x : Int), .bool true]
  | none => .tuple #[.int .u8 0, .bool false]

set_option maxHeartbeats 4000000 in
set_option maxRecDepth 100000 in
theorem hex2_any (s : ByteArray) (a b : UInt8) (w : World) (h0 : 0 < s.size) (h1 : 1 < s.size) (h2 : ((s.size : Int) != 2) = false) (ea : s[0]'h0 = a) (eb : s[1]'h1 = b) (v : Value) (hv : hexR [a, b] = v) :
    Calls Tryz.prog 165 #[.string s] w (Pure w v) := by
  cases ha : digV a with
  | none =>
    have HI := Lib.hid (digI_none ha)
    have HR : Hid (v = .tuple #[.int .u8 0, .bool false]) := by rw [← hv]; unfold Hid hexR hexV; simp only [ha]
    clear ha hv
    go_enter Tryz.func165, Tryz.ntmps165
    go_wp2_with fail
    refine (idxdig_any a _).mono ?_; rintro e w' ⟨rfl, rfl⟩; rw [HI.out]
    cases hb : digV b with
    | none =>
      have HJ := Lib.hid (digI_none hb)
      clear hb
      go_wp2_with fail
      refine (idxdig_any b _).mono ?_; rintro e w' ⟨rfl, rfl⟩; rw [HJ.out]
      go_wp2
      go_ret2
      exact ⟨by rw [HR.out]; rfl, rfl⟩
    | some y =>
      have HJ := Lib.hid (digI_some hb)
      clear hb
      go_wp2_with fail
      refine (idxdig_any b _).mono ?_; rintro e w' ⟨rfl, rfl⟩; rw [HJ.out]
      go_wp2
      go_ret2
      exact ⟨by rw [HR.out]; rfl, rfl⟩
  | some x =>
    have HI := Lib.hid (digI_some ha)
    have hx := digV_lt ha
    have hx0 : ¬ ((x : Int) < 0) := by omega
    cases hb : digV b with
    | none =>
      have HJ := Lib.hid (digI_none hb)
      have HR : Hid (v = .tuple #[.int .u8 0, .bool false]) := by rw [← hv]; unfold Hid hexR hexV; simp only [ha, hb]
      clear ha hb hv
      go_enter Tryz.func165, Tryz.ntmps165
      go_wp2_with fail
      refine (idxdig_any a _).mono ?_; rintro e w' ⟨rfl, rfl⟩; rw [HI.out]
      go_wp2_with fail
      refine (idxdig_any b _).mono ?_; rintro e w' ⟨rfl, rfl⟩; rw [HJ.out]
      go_wp2
      go_ret2
      exact ⟨by rw [HR.out]; rfl, rfl⟩
    | some y =>
      have HJ := Lib.hid (digI_some hb)
      have hy := digV_lt hb
      have hy0 : ¬ ((y : Int) < 0) := by omega
      have HR : Hid (v = .tuple #[.int .u8 ((16 * x + y : Nat) : Int), .bool true]) := by rw [← hv]; unfold Hid hexR hexV; simp only [ha, hb]
      have hb1 : (0 : Int) ≤ 16 * (x : Int) + (y : Int) := by omega
      have hb2 : 16 * (x : Int) + (y : Int) ≤ 255 := by omega
      have hb3 : (0 : Int) ≤ 16 * (x : Int) := by omega
      have hb4 : 16 * (x : Int) ≤ 255 := by omega
      clear ha hb hv
      go_enter Tryz.func165, Tryz.ntmps165
      go_wp2_with fail
      refine (idxdig_any a _).mono ?_; rintro e w' ⟨rfl, rfl⟩; rw [HI.out]
      go_wp2_with fail
      refine (idxdig_any b _).mono ?_; rintro e w' ⟨rfl, rfl⟩; rw [HJ.out]
      go_wp2
      go_ret2
      exact ⟨by rw [HR.out]; simp; done, rfl⟩
set_option maxHeartbeats 4000000 in
set_option maxRecDepth 100000 in
theorem hexlen_any (s : ByteArray) (w : World) (h2 : ((s.size : Int) != 2) = true) :
    Calls Tryz.prog 165 #[.string s] w (Pure w (.tuple #[.int .u8 0, .bool false])) := by
  go_enter Tryz.func165, Tryz.ntmps165
  go_wp2
  go_ret2
  exact ⟨rfl, rfl⟩
theorem hex_any (l : List UInt8) (w : World) : Calls Tryz.prog 165 #[.string (bs l)] w (Pure w (hexR l)) := by
  by_cases h : l.length = 2
  · match l, h with
    | [a, b], _ => exact hex2_any (bs [a, b]) a b w (by rw [bs_size]; simp) (by rw [bs_size]; simp) rfl rfl rfl _ rfl
  · have hr : hexR l = .tuple #[.int .u8 0, .bool false] := by
      unfold hexR hexV
      split
      · rename_i x hx; split at hx
        · simp at h
        · cases hx
      · rfl
    rw [hr]
    exact hexlen_any _ w (by rw [bs_size, bne_iff_ne]; omega)
/-! ### an item -/
def itemR (l : List UInt8) : Value := match itemV l with
  | some s => .tuple #[cls s, .bool true]
  | none => .tuple #[cls 0#256, .bool false]
theorem hexR_some {l : List UInt8} {x : Nat} (h : hexV l = some x) : hexR l = .tuple #[.int .u8 (x : Int), .bool true] := by unfold hexR; rw [h]
theorem hexR_none {l : List UInt8} (h : hexV l = none) : hexR l = .tuple #[.int .u8 0, .bool false] := by unfold hexR; rw [h]
def z4 : Array Value := #[.int .u64 0, .int .u64 0, .int .u64 0, .int .u64 0]
theorem z4_eq : z4 = cells4 0#256 := by
  have z0 : wd 0#256 0 = 0 := by decide
  have z1 : wd 0#256 1 = 0 := by decide
  have z2 : wd 0#256 2 = 0 := by decide
  have z3 : wd 0#256 3 = 0 := by decide
  unfold cells4 z4; rw [z0, z1, z2, z3]; rfl
theorem cls_zero : cls 0#256 = .agg #[.int .u64 0, .int .u64 0, .int .u64 0, .int .u64 0] := by
  have z0 : wd 0#256 0 = 0 := by decide
  have z1 : wd 0#256 1 = 0 := by decide
  have z2 : wd 0#256 2 = 0 := by decide
  have z3 : wd 0#256 3 = 0 := by decide
  unfold cls; rw [z0, z1, z2, z3]; rfl
/-- The two halves of an item: what hexByte answers of each, and the item's class. -/
theorem item_cases (l : List UInt8) (a b : List UInt8) (hp : (cutAt 45 l).getD (l, l) = (a, b)) :
    (hexV a = none ∧ itemR l = .tuple #[cls 0#256, .bool false]) ∨ (∃ x, hexV a = some x ∧ hexV b = none ∧ itemR l = .tuple #[cls 0#256, .bool false]) ∨
    (∃ x y, hexV a = some x ∧ hexV b = some y ∧ y < x ∧ itemR l = .tuple #[cls 0#256, .bool false]) ∨ (∃ x y, hexV a = some x ∧ hexV b = some y ∧ x ≤ y ∧ itemR l = .tuple #[cls (rowB x y), .bool true]) := by
  have hi : itemV l = match hexV a, hexV b with
    | some x, some y => if x ≤ y then some (rowB x y) else none
    | _, _ => none := by unfold itemV; rw [hp]; rfl
  cases ha : hexV a with
  | none => left; exact ⟨rfl, by unfold itemR; rw [hi, ha]⟩
  | some x =>
    right
    cases hb : hexV b with
    | none => left; exact ⟨x, rfl, rfl, by unfold itemR; rw [hi, ha, hb]⟩
    | some y =>
      right
      by_cases h : x ≤ y
      · right; exact ⟨x, y, rfl, rfl, h, by unfold itemR; rw [hi, ha, hb]; simp only [if_pos h]⟩
      · left; exact ⟨x, y, rfl, rfl, by omega, by unfold itemR; rw [hi, ha, hb]; simp only [if_neg h]⟩
theorem z_cells {w : World} {b : Nat} {t : TypeId} (h : Blk w b z4 t) :
    w.cell? ⟨b, 0, none⟩ = some (.int .u64 0) ∧ w.cell? ⟨b, 1, none⟩ = some (.int .u64 0) ∧ w.cell? ⟨b, 2, none⟩ = some (.int .u64 0) ∧ w.cell? ⟨b, 3, none⟩ = some (.int .u64 0) :=
  ⟨h.cell 0, h.cell 1, h.cell 2, h.cell 3⟩
/-- What is stored is read. -/
theorem four {w : World} {b : Nat} {t : TypeId} (h : Blk w b z4 t) :
    (∀ v, (w.setCell ⟨b, 0, none⟩ v).cell? ⟨b, 0, none⟩ = some v) ∧ (∀ u v, ((w.setCell ⟨b, 0, none⟩ u).setCell ⟨b, 1, none⟩ v).cell? ⟨b, 1, none⟩ = some v) ∧
    (∀ x u v, (((w.setCell ⟨b, 0, none⟩ x).setCell ⟨b, 1, none⟩ u).setCell ⟨b, 2, none⟩ v).cell? ⟨b, 2, none⟩ = some v) ∧
    (∀ y x u v, ((((w.setCell ⟨b, 0, none⟩ y).setCell ⟨b, 1, none⟩ x).setCell ⟨b, 2, none⟩ u).setCell ⟨b, 3, none⟩ v).cell? ⟨b, 3, none⟩ = some v) :=
  ⟨fun v => (h.setCell 0 v).cell 0, fun u v => ((h.setCell 0 u).setCell 1 v).cell 1, fun x u v => (((h.setCell 0 x).setCell 1 u).setCell 2 v).cell 2, fun y x u v => ((((h.setCell 0 y).setCell 1 x).setCell 2 u).setCell 3 v).cell 3⟩
/-- A box for a class that was just made, and all that was there. -/
structure Box4 (w : World) (w' : World) : Prop where
  bel : Below w.heap.size w w'
  blk : Blk w' w.heap.size z4 42
theorem Box4.new (w : World) : Box4 w (w.alloc (.cells #[.int .u64 0, .int .u64 0, .int .u64 0, .int .u64 0] 42)) := ⟨(Below.refl _ _).alloc (Nat.le_refl _) _, Blk.new _ _ _⟩
theorem Box4.later {w w1 w2 : World} (h : Box4 w w1) (hb : Below w1.heap.size w1 w2) : Box4 w w2 := ⟨h.bel.trans (hb.mono h.bel.size), h.blk.later hb⟩
set_option maxHeartbeats 4000000 in
set_option maxRecDepth 100000 in
theorem item_any (l : List UInt8) (w : World) (hl : l.length ≤ 1073741824) : Calls Tryz.prog 151 #[.string (bs l)] w (Ans w (itemR l)) := by
  have hsz : (bs l).size ≤ 4294967296 := by rw [bs_size]; omega
  cases hc : cutAt 45 l with
  | none =>
    have hp : (cutAt 45 l).getD (l, l) = (l, l) := by rw [hc]; rfl
    have HC : Hid (cutAt 45 (bs l).data.toList = none) := hc
    clear hc
    go_enter Tryz.func151, Tryz.ntmps151
    go_wp2_with fail
    refine (cut_miss _ _ _ HC.out).mono ?_; rintro e w2 ⟨rfl, hb2⟩
    have HX0 := Lib.hid ((Box4.new w).later hb2)
    clear hb2
    rcases item_cases l l l hp with ⟨h1, h2⟩ | ⟨x, h1, h2, h3⟩ | ⟨x, y, h1, h2, h3, h4⟩ | ⟨x, y, h1, h2, h3, h4⟩
    · have HX := Lib.hid (hexR_none h1)
      obtain ⟨v, hv⟩ : ∃ v, hexV l = v := ⟨_, rfl⟩
      clear h1
      go_wp2_with fail
      refine (hex_any l _).mono ?_; rintro e w' ⟨rfl, rfl⟩; rw [HX.out]
      have HR := Lib.hid h2
      clear h2 hp
      cases v with
      | none =>
        have HY := Lib.hid (hexR_none hv)
        clear hv
        go_wp2_with fail
        refine (hex_any l _).mono ?_; rintro e w' ⟨rfl, rfl⟩; rw [HY.out]
        have hk := HX0.out.blk
        obtain ⟨e0, e1, e2, e3⟩ := z_cells hk
        have ef := hk.frozen
        obtain ⟨s0, s1, s2, s3⟩ := four hk
        clear hk
        go_wp2
        exact bodyPost_ret (v := .tuple #[.agg #[.int .u64 0, .int .u64 0, .int .u64 0, .int .u64 0], .bool false]) (by simp [results, Tryz.results151, go_sem, s0, s1, s2, s3]) rfl ⟨by rw [HR.out, cls_zero], by have h := HX0.out.bel; exact (((h.setCell (p := ⟨w.heap.size, 0, none⟩) (Nat.le_refl _) _).setCell (p := ⟨w.heap.size, 1, none⟩) (Nat.le_refl _) _).setCell (p := ⟨w.heap.size, 2, none⟩) (Nat.le_refl _) _).setCell (p := ⟨w.heap.size, 3, none⟩) (Nat.le_refl _) _⟩
      | some y =>
        have HY := Lib.hid (hexR_some hv)
        clear hv
        go_wp2_with fail
        refine (hex_any l _).mono ?_; rintro e w' ⟨rfl, rfl⟩; rw [HY.out]
        have hk := HX0.out.blk
        obtain ⟨e0, e1, e2, e3⟩ := z_cells hk
        have ef := hk.frozen
        obtain ⟨s0, s1, s2, s3⟩ := four hk
        clear hk
        go_wp2
        exact bodyPost_ret (v := .tuple #[.agg #[.int .u64 0, .int .u64 0, .int .u64 0, .int .u64 0], .bool false]) (by simp [results, Tryz.results151, go_sem, s0, s1, s2, s3]) rfl ⟨by rw [HR.out, cls_zero], by have h := HX0.out.bel; exact (((h.setCell (p := ⟨w.heap.size, 0, none⟩) (Nat.le_refl _) _).setCell (p := ⟨w.heap.size, 1, none⟩) (Nat.le_refl _) _).setCell (p := ⟨w.heap.size, 2, none⟩) (Nat.le_refl _) _).setCell (p := ⟨w.heap.size, 3, none⟩) (Nat.le_refl _) _⟩
    · have HX := Lib.hid (hexR_some h1)
      have HY := Lib.hid (hexR_none h2)
      have HR := Lib.hid h3
      clear h1 h2 h3 hp
      go_wp2_with fail
      refine (hex_any l _).mono ?_; rintro e w' ⟨rfl, rfl⟩; rw [HX.out]
      go_wp2_with fail
      refine (hex_any l _).mono ?_; rintro e w' ⟨rfl, rfl⟩; rw [HY.out]
      have hk := HX0.out.blk
      obtain ⟨e0, e1, e2, e3⟩ := z_cells hk
      have ef := hk.frozen
      obtain ⟨s0, s1, s2, s3⟩ := four hk
      clear hk
      go_wp2
      exact bodyPost_ret (v := .tuple #[.agg #[.int .u64 0, .int .u64 0, .int .u64 0, .int .u64 0], .bool false]) (by simp [results, Tryz.results151, go_sem, s0, s1, s2, s3]) rfl ⟨by rw [HR.out, cls_zero], by have h := HX0.out.bel; exact (((h.setCell (p := ⟨w.heap.size, 0, none⟩) (Nat.le_refl _) _).setCell (p := ⟨w.heap.size, 1, none⟩) (Nat.le_refl _) _).setCell (p := ⟨w.heap.size, 2, none⟩) (Nat.le_refl _) _).setCell (p := ⟨w.heap.size, 3, none⟩) (Nat.le_refl _) _⟩
    · have HX := Lib.hid (hexR_some h1)
      have HY := Lib.hid (hexR_some h2)
      have HR := Lib.hid h4
      have hxy : ((y : Int) < (x : Int)) := by omega
      clear h1 h2 h4 hp h3
      go_wp2_with fail
      refine (hex_any l _).mono ?_; rintro e w' ⟨rfl, rfl⟩; rw [HX.out]
      go_wp2_with fail
      refine (hex_any l _).mono ?_; rintro e w' ⟨rfl, rfl⟩; rw [HY.out]
      have hk := HX0.out.blk
      obtain ⟨e0, e1, e2, e3⟩ := z_cells hk
      have ef := hk.frozen
      obtain ⟨s0, s1, s2, s3⟩ := four hk
      clear hk
      go_wp2
      exact bodyPost_ret (v := .tuple #[.agg #[.int .u64 0, .int .u64 0, .int .u64 0, .int .u64 0], .bool false]) (by simp [results, Tryz.results151, go_sem, s0, s1, s2, s3]) rfl ⟨by rw [HR.out, cls_zero], by have h := HX0.out.bel; exact (((h.setCell (p := ⟨w.heap.size, 0, none⟩) (Nat.le_refl _) _).setCell (p := ⟨w.heap.size, 1, none⟩) (Nat.le_refl _) _).setCell (p := ⟨w.heap.size, 2, none⟩) (Nat.le_refl _) _).setCell (p := ⟨w.heap.size, 3, none⟩) (Nat.le_refl _) _⟩
    · have HR := Lib.hid h4
      have HX := Lib.hid (hexR_some h1)
      have HY := Lib.hid (hexR_some h2)
      have lx := hexV_lt h1
      have ly := hexV_lt h2
      clear h1 h2 h4 hp
      go_wp2_with fail
      refine (hex_any l _).mono ?_; rintro e w' ⟨rfl, rfl⟩; rw [HX.out]
      go_wp2_with fail
      refine (hex_any l _).mono ?_; rintro e w' ⟨rfl, rfl⟩; rw [HY.out]
      have hxy : ¬ ((y : Int) < (x : Int)) := by omega
      go_wp2_with fail
      refine (of_any x y lx ly _).mono ?_; rintro e w3 ⟨rfl, hb3⟩
      have HX1 := Lib.hid (HX0.out.later hb3)
      have hk := HX1.out.blk
      obtain ⟨e0, e1, e2, e3⟩ := z_cells hk
      have ef := hk.frozen
      obtain ⟨s0, s1, s2, s3⟩ := four hk
      clear hk hb3
      unfold cls at HR ⊢
      generalize rowB x y = R at *
      go_wp2
      exact bodyPost_ret (v := .tuple #[.agg #[.int .u64 (wd R 0), .int .u64 (wd R 1), .int .u64 (wd R 2), .int .u64 (wd R 3)], .bool true]) (by simp [results, Tryz.results151, go_sem, s0, s1, s2, s3]) rfl ⟨by rw [HR.out], by have h := HX1.out.bel; exact (((h.setCell (p := ⟨w.heap.size, 0, none⟩) (Nat.le_refl _) _).setCell (p := ⟨w.heap.size, 1, none⟩) (Nat.le_refl _) _).setCell (p := ⟨w.heap.size, 2, none⟩) (Nat.le_refl _) _).setCell (p := ⟨w.heap.size, 3, none⟩) (Nat.le_refl _) _⟩
  | some p =>
    obtain ⟨a, b⟩ := p
    have hp : (cutAt 45 l).getD (l, l) = (a, b) := by rw [hc]; rfl
    have HC : Hid (cutAt 45 (bs l).data.toList = some (a, b)) := hc
    clear hc
    go_enter Tryz.func151, Tryz.ntmps151
    go_wp2_with fail
    refine (cut_hit _ _ _ _ _ HC.out hsz).mono ?_; rintro e w2 ⟨rfl, hb2⟩
    have HX0 := Lib.hid ((Box4.new w).later hb2)
    clear hb2
    rcases item_cases l a b hp with ⟨h1, h2⟩ | ⟨x, h1, h2, h3⟩ | ⟨x, y, h1, h2, h3, h4⟩ | ⟨x, y, h1, h2, h3, h4⟩
    · have HX := Lib.hid (hexR_none h1)
      obtain ⟨v, hv⟩ : ∃ v, hexV b = v := ⟨_, rfl⟩
      clear h1
      go_wp2_with fail
      refine (hex_any a _).mono ?_; rintro e w' ⟨rfl, rfl⟩; rw [HX.out]
      have HR := Lib.hid h2
      clear h2 hp
      cases v with
      | none =>
        have HY := Lib.hid (hexR_none hv)
        clear hv
        go_wp2_with fail
        refine (hex_any b _).mono ?_; rintro e w' ⟨rfl, rfl⟩; rw [HY.out]
        have hk := HX0.out.blk
        obtain ⟨e0, e1, e2, e3⟩ := z_cells hk
        have ef := hk.frozen
        obtain ⟨s0, s1, s2, s3⟩ := four hk
        clear hk
        go_wp2
        exact bodyPost_ret (v := .tuple #[.agg #[.int .u64 0, .int .u64 0, .int .u64 0, .int .u64 0], .bool false]) (by simp [results, Tryz.results151, go_sem, s0, s1, s2, s3]) rfl ⟨by rw [HR.out, cls_zero], by have h := HX0.out.bel; exact (((h.setCell (p := ⟨w.heap.size, 0, none⟩) (Nat.le_refl _) _).setCell (p := ⟨w.heap.size, 1, none⟩) (Nat.le_refl _) _).setCell (p := ⟨w.heap.size, 2, none⟩) (Nat.le_refl _) _).setCell (p := ⟨w.heap.size, 3, none⟩) (Nat.le_refl _) _⟩
      | some y =>
        have HY := Lib.hid (hexR_some hv)
        clear hv
        go_wp2_with fail
        refine (hex_any b _).mono ?_; rintro e w' ⟨rfl, rfl⟩; rw [HY.out]
        have hk := HX0.out.blk
        obtain ⟨e0, e1, e2, e3⟩ := z_cells hk
        have ef := hk.frozen
        obtain ⟨s0, s1, s2, s3⟩ := four hk
        clear hk
        go_wp2
        exact bodyPost_ret (v := .tuple #[.agg #[.int .u64 0, .int .u64 0, .int .u64 0, .int .u64 0], .bool false]) (by simp [results, Tryz.results151, go_sem, s0, s1, s2, s3]) rfl ⟨by rw [HR.out, cls_zero], by have h := HX0.out.bel; exact (((h.setCell (p := ⟨w.heap.size, 0, none⟩) (Nat.le_refl _) _).setCell (p := ⟨w.heap.size, 1, none⟩) (Nat.le_refl _) _).setCell (p := ⟨w.heap.size, 2, none⟩) (Nat.le_refl _) _).setCell (p := ⟨w.heap.size, 3, none⟩) (Nat.le_refl _) _⟩
    · have HX := Lib.hid (hexR_some h1)
      have HY := Lib.hid (hexR_none h2)
      have HR := Lib.hid h3
      clear h1 h2 h3 hp
      go_wp2_with fail
      refine (hex_any a _).mono ?_; rintro e w' ⟨rfl, rfl⟩; rw [HX.out]
      go_wp2_with fail
      refine (hex_any b _).mono ?_; rintro e w' ⟨rfl, rfl⟩; rw [HY.out]
      have hk := HX0.out.blk
      obtain ⟨e0, e1, e2, e3⟩ := z_cells hk
      have ef := hk.frozen
      obtain ⟨s0, s1, s2, s3⟩ := four hk
      clear hk
      go_wp2
      exact bodyPost_ret (v := .tuple #[.agg #[.int .u64 0, .int .u64 0, .int .u64 0, .int .u64 0], .bool false]) (by simp [results, Tryz.results151, go_sem, s0, s1, s2, s3]) rfl ⟨by rw [HR.out, cls_zero], by have h := HX0.out.bel; exact (((h.setCell (p := ⟨w.heap.size, 0, none⟩) (Nat.le_refl _) _).setCell (p := ⟨w.heap.size, 1, none⟩) (Nat.le_refl _) _).setCell (p := ⟨w.heap.size, 2, none⟩) (Nat.le_refl _) _).setCell (p := ⟨w.heap.size, 3, none⟩) (Nat.le_refl _) _⟩
    · have HX := Lib.hid (hexR_some h1)
      have HY := Lib.hid (hexR_some h2)
      have HR := Lib.hid h4
      have hxy : ((y : Int) < (x : Int)) := by omega
      clear h1 h2 h4 hp h3
      go_wp2_with fail
      refine (hex_any a _).mono ?_; rintro e w' ⟨rfl, rfl⟩; rw [HX.out]
      go_wp2_with fail
      refine (hex_any b _).mono ?_; rintro e w' ⟨rfl, rfl⟩; rw [HY.out]
      have hk := HX0.out.blk
      obtain ⟨e0, e1, e2, e3⟩ := z_cells hk
      have ef := hk.frozen
      obtain ⟨s0, s1, s2, s3⟩ := four hk
      clear hk
      go_wp2
      exact bodyPost_ret (v := .tuple #[.agg #[.int .u64 0, .int .u64 0, .int .u64 0, .int .u64 0], .bool false]) (by simp [results, Tryz.results151, go_sem, s0, s1, s2, s3]) rfl ⟨by rw [HR.out, cls_zero], by have h := HX0.out.bel; exact (((h.setCell (p := ⟨w.heap.size, 0, none⟩) (Nat.le_refl _) _).setCell (p := ⟨w.heap.size, 1, none⟩) (Nat.le_refl _) _).setCell (p := ⟨w.heap.size, 2, none⟩) (Nat.le_refl _) _).setCell (p := ⟨w.heap.size, 3, none⟩) (Nat.le_refl _) _⟩
    · have HR := Lib.hid h4
      have HX := Lib.hid (hexR_some h1)
      have HY := Lib.hid (hexR_some h2)
      have lx := hexV_lt h1
      have ly := hexV_lt h2
      clear h1 h2 h4 hp
      go_wp2_with fail
      refine (hex_any a _).mono ?_; rintro e w' ⟨rfl, rfl⟩; rw [HX.out]
      go_wp2_with fail
      refine (hex_any b _).mono ?_; rintro e w' ⟨rfl, rfl⟩; rw [HY.out]
      have hxy : ¬ ((y : Int) < (x : Int)) := by omega
      go_wp2_with fail
      refine (of_any x y lx ly _).mono ?_; rintro e w3 ⟨rfl, hb3⟩
      have HX1 := Lib.hid (HX0.out.later hb3)
      have hk := HX1.out.blk
      obtain ⟨e0, e1, e2, e3⟩ := z_cells hk
      have ef := hk.frozen
      obtain ⟨s0, s1, s2, s3⟩ := four hk
      clear hk hb3
      unfold cls at HR ⊢
      generalize rowB x y = R at *
      go_wp2
      exact bodyPost_ret (v := .tuple #[.agg #[.int .u64 (wd R 0), .int .u64 (wd R 1), .int .u64 (wd R 2), .int .u64 (wd R 3)], .bool true]) (by simp [results, Tryz.results151, go_sem, s0, s1, s2, s3]) rfl ⟨by rw [HR.out], by have h := HX1.out.bel; exact (((h.setCell (p := ⟨w.heap.size, 0, none⟩) (Nat.le_refl _) _).setCell (p := ⟨w.heap.size, 1, none⟩) (Nat.le_refl _) _).setCell (p := ⟨w.heap.size, 2, none⟩) (Nat.le_refl _) _).setCell (p := ⟨w.heap.size, 3, none⟩) (Nat.le_refl _) _⟩
/-! ### all items -/
theorem pieces_len (c : UInt8) : ∀ (l p : List UInt8), p ∈ pieces c l → p.length ≤ l.length := by
  intro l
  suffices h : (piecesA c l).1.length ≤ l.length ∧ ∀ p ∈ (piecesA c l).2, p.length ≤ l.length by
    intro p hp
    unfold pieces at hp
    rcases List.mem_cons.1 hp with rfl | hp
    · exact h.1
    · exact h.2 p hp
  induction l with
  | nil => simp [piecesA]
  | cons x l ih =>
    obtain ⟨i1, i2⟩ := ih
    unfold piecesA
    by_cases e : x = c
    · simp only [if_pos e]
      refine ⟨by simp, fun p hp => ?_⟩
      rcases List.mem_cons.1 hp with rfl | hp
      · simp; omega
      · have := i2 p hp; simp; omega
    · simp only [if_neg e]
      refine ⟨by simpa using i1, fun p hp => ?_⟩
      have := i2 p hp; simp; omega
def optR (o : Option (BitVec 256)) : Value := match o with
  | some s => .tuple #[cls s, .bool true]
  | none => .tuple #[cls 0#256, .bool false]
set_option maxHeartbeats 4000000 in
set_option maxRecDepth 100000 in
theorem items_empty (w : World) : Calls Tryz.prog 133 #[.string ⟨#[]⟩] w (Ans w (optR (some 0#256))) := by
  have HR : Hid (optR (some 0#256) = .tuple #[cls 0#256, .bool true]) := rfl
  go_enter Tryz.func133, Tryz.ntmps133
  go_wp2
  exact bodyPost_ret (v := .tuple #[.agg #[.int .u64 0, .int .u64 0, .int .u64 0, .int .u64 0], .bool true]) (by simp [results, Tryz.results133, go_sem]) rfl ⟨by rw [HR.out, cls_zero], by go_grown⟩
structure ItmS (w : World) (B : Nat) (ps : List (List UInt8)) (k : Nat) (S : BitVec 256) (wr : World) : Prop where
  bel : Below w.heap.size w wr
  res : Blk wr w.heap.size z4 42
  acc : Blk wr (w.heap.size + 1) (cells4 S) 42
  row : Blk wr B ((ps.map fun p => Value.string (bs p)).toArray) 9
  sum : itemsV 0#256 ps = itemsV S (ps.drop k)
theorem ItmS.later {w : World} {B : Nat} {ps : List (List UInt8)} {k : Nat} {S : BitVec 256} {w1 w2 : World} (h : ItmS w B ps k S w1) (hb : Below w1.heap.size w1 w2) : ItmS w B ps k S w2 :=
  ⟨h.bel.trans (hb.mono h.bel.size), h.res.later hb, h.acc.later hb, h.row.later hb, h.sum⟩
def ItmR (w : World) (B : Nat) (ps : List (List UInt8)) (i : Value) (wr : World) : Prop := ∃ (k : Nat) (S : BitVec 256), k ≤ ps.length ∧ i = .int .i64 (k : Int) ∧ ItmS w B ps k S wr
theorem four' {w : World} {b : Nat} {S : BitVec 256} {t : TypeId} (h : Blk w b (cells4 S) t) :
    (∀ v, (w.setCell ⟨b, 0, none⟩ v).cell? ⟨b, 0, none⟩ = some v) ∧ (∀ u v, ((w.setCell ⟨b, 0, none⟩ u).setCell ⟨b, 1, none⟩ v).cell? ⟨b, 1, none⟩ = some v) ∧
    (∀ x u v, (((w.setCell ⟨b, 0, none⟩ x).setCell ⟨b, 1, none⟩ u).setCell ⟨b, 2, none⟩ v).cell? ⟨b, 2, none⟩ = some v) ∧
    (∀ y x u v, ((((w.setCell ⟨b, 0, none⟩ y).setCell ⟨b, 1, none⟩ x).setCell ⟨b, 2, none⟩ u).setCell ⟨b, 3, none⟩ v).cell? ⟨b, 3, none⟩ = some v) :=
  ⟨fun v => (h.setCell 0 v).cell 0, fun u v => ((h.setCell 0 u).setCell 1 v).cell 1, fun x u v => (((h.setCell 0 x).setCell 1 u).setCell 2 v).cell 2, fun y x u v => ((((h.setCell 0 y).setCell 1 x).setCell 2 u).setCell 3 v).cell 3⟩
set_option maxHeartbeats 4000000 in
set_option maxRecDepth 100000 in
theorem items_some (l : List UInt8) (w : World) (hl : l.length ≤ 1073741824) (hne : (bs l).toList.isEmpty = false) :
    Calls Tryz.prog 133 #[.string (bs l)] w (Ans w (optR (itemsV 0#256 (pieces 44 l)))) := by
  have hpl := pieces_count 44 l
  have hcl := count_le 44 l
  have hpc : ∀ p ∈ pieces 44 l, p.length ≤ 1073741824 := fun p hp => by have := pieces_len 44 l p hp; omega
  have HPC := Lib.hid hpc
  have hn : (pieces 44 l).length ≤ 1073741825 := by omega
  clear hpl hcl hpc
  go_enter Tryz.func133, Tryz.ntmps133
  go_wp2_with fail
  refine (split_any l 44 _ hl).mono ?_; rintro e w2 ⟨rfl, hbk, hb2⟩
  have HS : Hid (ItmS w (w.heap.size + 1 + 1) (pieces 44 l) 0 0#256 w2) := by
    have h1 : Below w.heap.size w ((w.alloc (.cells #[.int .u64 0, .int .u64 0, .int .u64 0, .int .u64 0] 42)).alloc (.cells #[.int .u64 0, .int .u64 0, .int .u64 0, .int .u64 0] 42)) := by go_grown
    refine ⟨h1.trans (hb2.mono h1.size), ((Blk.new _ _ _).alloc _).later hb2, ?_, by simpa using hbk, rfl⟩
    have := (Blk.new' (by simp) z4 42 : Blk ((w.alloc (.cells #[.int .u64 0, .int .u64 0, .int .u64 0, .int .u64 0] 42)).alloc (.cells z4 42)) (w.heap.size + 1) z4 _)
    rw [z4_eq] at this
    exact (show Blk _ _ _ _ from (by rw [← z4_eq] at this ⊢; exact this)).later hb2
  clear hbk hb2
  generalize pieces 44 l = ps at *
  go_wp2
  go_loopw [15] (ItmR w (w.heap.size + 1 + 1) ps) (fun i _ => ps.length - (intOf i).toNat)
  case atStart => exact ⟨0, 0#256, Nat.zero_le _, rfl, HS.out⟩
  case round =>
    obtain ⟨k, S, hk, rfl, hs⟩ := hrel
    have HI := Lib.hid hs
    by_cases hlt : k < ps.length
    · have hltz : (k : Int) < (ps.length : Int) := by omega
      have hcell : wr.cell? ⟨w.heap.size + 1 + 1, k, none⟩ = some (.string (bs (ps.getD k []))) := by rw [hs.row.cell k]; simp [hlt]
      have hdr : ps.drop k = ps.getD k [] :: ps.drop (k + 1) := by rw [List.drop_eq_getElem_cons hlt]; simp [hlt]
      have hm : ps.getD k [] ∈ ps := by simp [hlt]
      have hpk := HPC.out _ hm
      have HD := Lib.hid hdr
      clear hs hdr hm
      generalize ps.getD k [] = p at *
      cases hv : itemV p with
      | none =>
        have HV := Lib.hid hv
        have HIR : Hid (itemR p = .tuple #[cls 0#256, .bool false]) := by unfold Hid itemR; rw [hv]
        have HR : Hid (optR (itemsV 0#256 ps) = .tuple #[cls 0#256, .bool false]) := by unfold Hid; rw [HI.out.sum, HD.out, itemsV, hv]; rfl
        clear hv
        go_wp2_with fail
        refine (item_any p _ hpk).mono ?_; rintro e w3 ⟨rfl, hb3⟩
        rw [HIR.out, cls_zero]
        have HI3 := Lib.hid ((HI.out.later hb3).later ((Below.refl _ _).alloc (Nat.le_refl _) (.cells #[.int .u64 0, .int .u64 0, .int .u64 0, .int .u64 0] 42)))
        have hz3 := (HI.out.later hb3).res.lt
        clear hb3 hcell
        have hk3 := HI3.out.res
        obtain ⟨e0, e1, e2, e3⟩ := z_cells hk3
        have ef := hk3.frozen
        obtain ⟨s0, s1, s2, s3⟩ := four hk3
        clear hk3
        go_upto_region 8 with (fail)
        generalize w3.alloc (.cells #[.int .u64 0, .int .u64 0, .int .u64 0, .int .u64 0] 42) = w4 at *
        go_wp2
        exact bodyPost_ret (v := .tuple #[.agg #[.int .u64 0, .int .u64 0, .int .u64 0, .int .u64 0], .bool false]) (by simp [results, Tryz.results133, go_sem, s0, s1, s2, s3]) rfl ⟨by rw [HR.out, cls_zero], by have h := HI3.out.bel; exact (((h.setCell (p := ⟨w.heap.size, 0, none⟩) (Nat.le_refl _) _).setCell (p := ⟨w.heap.size, 1, none⟩) (Nat.le_refl _) _).setCell (p := ⟨w.heap.size, 2, none⟩) (Nat.le_refl _) _).setCell (p := ⟨w.heap.size, 3, none⟩) (Nat.le_refl _) _⟩
      | some t =>
        have HIR : Hid (itemR p = .tuple #[cls t, .bool true]) := by unfold Hid itemR; rw [hv]
        have HSM : Hid (itemsV 0#256 ps = itemsV (S ||| t) (ps.drop (k + 1))) := by unfold Hid; rw [HI.out.sum, HD.out, itemsV, hv]
        clear hv
        go_wp2_with fail
        refine (item_any p _ hpk).mono ?_; rintro e w3 ⟨rfl, hb3⟩
        rw [HIR.out]
        unfold cls
        have HI3 := Lib.hid ((HI.out.later hb3).later ((Below.refl _ _).alloc (Nat.le_refl _) (.cells (cells4 t) 42)))
        have HBT := Lib.hid (Blk.new w3 (cells4 t) 42)
        clear hb3 hcell
        go_upto_region 8 with (fail)
        unfold cells4 at HI3 HBT
        generalize w3.alloc (.cells #[.int .u64 (wd t 0), .int .u64 (wd t 1), .int .u64 (wd t 2), .int .u64 (wd t 3)] 42) = w4 at *
        generalize w3.heap.size = bt at *
        have ht := HBT.out.cells
        have ha := HI3.out.acc.cells
        go_wp2_with fail
        refine (join_any S t _).mono ?_; rintro e w5 ⟨rfl, hb5⟩
        have HI5 := Lib.hid (HI3.out.later hb5)
        clear ht ha hb5
        have hk5 := HI5.out.acc
        have ef := hk5.frozen
        have ea := hk5.cells
        obtain ⟨s0, s1, s2, s3⟩ := four' hk5
        clear hk5
        unfold cls
        go_wp2
        go_roundw
        case rel =>
          have h5 := HI5.out
          refine ⟨k + 1, S ||| t, by omega, by go_num, ?_, ?_, h5.acc.set4 (S ||| t), ?_, HSM.out⟩
          · have h := h5.bel
            exact (((h.setCell (p := ⟨w.heap.size + 1, 0, none⟩) (Nat.le_succ _) _).setCell (p := ⟨w.heap.size + 1, 1, none⟩) (Nat.le_succ _) _).setCell (p := ⟨w.heap.size + 1, 2, none⟩) (Nat.le_succ _) _).setCell (p := ⟨w.heap.size + 1, 3, none⟩) (Nat.le_succ _) _
          · have hne : ∀ o, (⟨w.heap.size + 1, o, none⟩ : Addr).block ≠ w.heap.size := fun o => by simp
            exact (((h5.res.setCell_ne (hne 0) _).setCell_ne (hne 1) _).setCell_ne (hne 2) _).setCell_ne (hne 3) _
          · have hne : ∀ o, (⟨w.heap.size + 1, o, none⟩ : Addr).block ≠ w.heap.size + 1 + 1 := fun o => by simp
            exact (((h5.row.setCell_ne (hne 0) _).setCell_ne (hne 1) _).setCell_ne (hne 2) _).setCell_ne (hne 3) _
        case measure => simp [intOf]; omega
    · obtain rfl : k = ps.length := by omega
      have HR : Hid (optR (itemsV 0#256 ps) = .tuple #[cls S, .bool true]) := by unfold Hid; rw [hs.sum, List.drop_length, itemsV]; rfl
      have ha := hs.acc.cells
      have hk0 := hs.res
      have ef := hk0.frozen
      obtain ⟨s0, s1, s2, s3⟩ := four hk0
      obtain ⟨e0, e1, e2, e3⟩ := z_cells hk0
      clear hk0 hs
      go_wp2
      exact bodyPost_ret (v := .tuple #[.agg #[.int .u64 (wd S 0), .int .u64 (wd S 1), .int .u64 (wd S 2), .int .u64 (wd S 3)], .bool true]) (by simp [results, Tryz.results133, go_sem, s0, s1, s2, s3]) rfl ⟨by rw [HR.out, cls], by have h := HI.out.bel; exact (((h.setCell (p := ⟨w.heap.size, 0, none⟩) (Nat.le_refl _) _).setCell (p := ⟨w.heap.size, 1, none⟩) (Nat.le_refl _) _).setCell (p := ⟨w.heap.size, 2, none⟩) (Nat.le_refl _) _).setCell (p := ⟨w.heap.size, 3, none⟩) (Nat.le_refl _) _⟩
theorem items_any (l : List UInt8) (w : World) (hl : l.length ≤ 1073741824) : Calls Tryz.prog 133 #[.string (bs l)] w (Ans w (optR (listV l))) := by
  match l with
  | [] => exact items_empty w
  | a :: l => exact items_some (a :: l) w hl (by rw [Lib.toList_data, bs_data]; rfl)
end Go.Proofs.YtcgjmnhmhiddkaaGreatDoor
/- Numbers: walked. -/
namespace Go.Proofs.YtcgjmnhmhiddkaaGreatDoor
open Go Go.RowKit
set_option linter.unusedVariables false

def numR (o : Option Nat) : Value := match o with
  | some n => .tuple #[.int .i64 (n : Int), .bool true]
  | none => .tuple #[.int .i64 0, .bool false]
structure NumS (w : World) (l : List UInt8) (pos n : Nat) (wr : World) : Prop where
  it : wr.heap[w.heap.size]? = some (.stringIter (bs l) pos)
  bel : Below w.heap.size w wr
  num : numF 0 l = numF n (l.drop pos)
def NumRel (w : World) (l : List UInt8) (v : Value) (wr : World) : Prop := ∃ pos n : Nat, n ≤ 256 ∧ pos ≤ l.length ∧ v = .int .i64 (n : Int) ∧ NumS w l pos n wr
theorem drop_at {l : List UInt8} {p : Nat} (h : p < l.length) : l.drop p = l.getD p 0 :: l.drop (p + 1) := by rw [List.drop_eq_getElem_cons h]; simp [h]
/-- A rune that is no digit: its byte is none. -/
theorem nodigit {l : List UInt8} {p : Nat} (h : p < l.length) (hr : ¬ (48 ≤ (Utf8.decode (bs l) p).1 ∧ (Utf8.decode (bs l) p).1 ≤ 57)) (n : Nat) : numF n (l.drop p) = none := by
  rw [drop_at h, numF]
  rcases Nat.lt_or_ge (l.getD p 0).toNat 128 with hb | hb
  · rw [dec_small l p hb] at hr; rw [if_neg hr]
  · rw [if_neg (by omega)]
theorem digit {l : List UInt8} {p : Nat} (h : p < l.length) (hr : 48 ≤ (Utf8.decode (bs l) p).1 ∧ (Utf8.decode (bs l) p).1 ≤ 57) : Utf8.decode (bs l) p = ((l.getD p 0).toNat, 1) := by
  rcases Nat.lt_or_ge (l.getD p 0).toNat 128 with hb | hb
  · exact dec_small l p hb
  · have := (dec_big l p h hb).1; omega

set_option maxHeartbeats 4000000 in
set_option maxRecDepth 100000 in
theorem num_short (l : List UInt8) (w : World) (hne : (bs l).toList.isEmpty = false) (h1 : ¬ (1 : Int) < ((bs l).size : Int)) :
    Calls Tryz.prog 136 #[.string (bs l)] w (Ans w (numR (numF 0 l))) := by
  obtain ⟨v0, hv0⟩ : ∃ v0, numR (numF 0 l) = v0 := ⟨_, rfl⟩
  have HV := Lib.hid hv0
  rw [hv0]
  clear hv0
  have h1' : ¬ ((bs l).size : Int) > 1 := h1
  go_enter Tryz.func136, Tryz.ntmps136
  go_wp2
  go_loopw [4] (NumRel w l) (fun v wr => l.length - wr.iterPos w.heap.size)
  case atStart => exact ⟨0, 0, by omega, Nat.zero_le _, rfl, (by have := World.iter_heap w (bs l) 0; simpa using this), (Below.refl _ _).alloc (Nat.le_refl _) _, rfl⟩
  case round =>
    obtain ⟨pos, n, hn, hpos, rfl, hs⟩ := hrel
    have HS := Lib.hid hs
    have hit := hs.it
    have HT := Lib.hid hit
    have hlt := (Array.getElem?_eq_some_iff.1 hit).1
    by_cases hp : pos < l.length
    · have hnx : ∀ ty, (Instr.next (.pointer (some ⟨w.heap.size, 0, none⟩)) true ty).run Tryz.prog wr = _ := fun ty => Lib.run_next_any_at wr w.heap.size (bs l) pos ty hit (by rw [bs_size]; exact hp)
      by_cases hr : 48 ≤ (Utf8.decode (bs l) pos).1 ∧ (Utf8.decode (bs l) pos).1 ≤ 57
      · have hdg := digit hp hr
        have HN : Hid (numF 0 l = numF (min (10 * n + ((Utf8.decode (bs l) pos).1 - 48)) 256) (l.drop (pos + 1))) := by
          unfold Hid; rw [hs.num, drop_at hp, numF]
          rw [hdg] at hr ⊢
          rw [if_pos hr]
        have hwd : (Utf8.decode (bs l) pos).2 = 1 := by rw [hdg]
        have HB := Lib.hid (Lib.below_iterAt hs.bel (k := w.heap.size) (Nat.le_refl _) (bs l) (pos + 1))
        have HI := Lib.hid (Lib.iterAt_heap wr w.heap.size (bs l) pos (pos + 1) hit)
        obtain ⟨r, hrr⟩ : ∃ r, (Utf8.decode (bs l) pos).1 = r := ⟨_, rfl⟩
        rw [hrr] at hr HN
        rw [hrr, hwd] at hnx
        clear hdg hwd hrr hs hit HS
        obtain ⟨r1, r2⟩ := hr
        have r3 : ¬ ((r : Int) < 48) := by omega
        have r4 : ¬ ((r : Int) > 57) := by omega
        have r5 : (0 : Int) ≤ (r : Int) - 48 := by omega
        have r6 : (r : Int) - 48 ≤ 9 := by omega
        have r7 : (0 : Int) ≤ 10 * (n : Int) := by omega
        have r8 : 10 * (n : Int) ≤ 2560 := by omega
        go_wp2
        go_roundw
        case rel => exact ⟨pos + 1, min (10 * n + (r - 48)) 256, by omega, by omega, by congr 1; omega, HI.out, HB.out, HN.out⟩
        case measure => simp only [World.iterPos, HI.out, HT.out]; omega
      · have HN := Lib.hid (nodigit hp hr n)
        have HNN : Hid (numF 0 l = none) := by unfold Hid; rw [hs.num, HN.out]
        have HR : Hid (v0 = .tuple #[.int .i64 0, .bool false]) := by unfold Hid; rw [← HV.out, HNN.out]; rfl
        have HB := Lib.hid (Lib.below_iterAt hs.bel (k := w.heap.size) (Nat.le_refl _) (bs l) (pos + (Utf8.decode (bs l) pos).2))
        have hbig : (Utf8.decode (bs l) pos).1 < 2147483648 := by
          rcases Nat.lt_or_ge (l.getD pos 0).toNat 128 with hb | hb
          · rw [dec_small l pos hb]; show (l.getD pos 0).toNat < _; omega
          · exact (dec_big l pos hp hb).2.1
        generalize pos + (Utf8.decode (bs l) pos).2 = q at *
        generalize (Utf8.decode (bs l) pos).1 = r at *
        clear hs hit HS HN HNN
        by_cases h48 : r < 48
        · have r3 : ((r : Int) < 48) := by omega
          go_wp2
          go_ret2
          exact ⟨by rw [HR.out]; rfl, HB.out⟩
        · have r3 : ¬ ((r : Int) < 48) := by omega
          have r4 : ((r : Int) > 57) := by omega
          have r4' : ((57 : Int) < (r : Int)) := by omega
          go_wp2
          go_ret2
          exact ⟨by rw [HR.out]; rfl, HB.out⟩
    · have hnx : ∀ ty, (Instr.next (.pointer (some ⟨w.heap.size, 0, none⟩)) true ty).run Tryz.prog wr = _ := fun ty => Lib.run_next_end_at wr w.heap.size (bs l) pos ty hit (by rw [bs_size]; exact hp)
      have HN : Hid (v0 = .tuple #[.int .i64 (n : Int), .bool true]) := by unfold Hid; rw [← HV.out, hs.num, List.drop_of_length_le (by omega), numF]; rfl
      clear hs hit
      go_wp2
      go_ret2
      exact ⟨by rw [HN.out]; rfl, HS.out.bel⟩
set_option maxHeartbeats 4000000 in
set_option maxRecDepth 100000 in
theorem num_long (l : List UInt8) (w : World) (hne : (bs l).toList.isEmpty = false) (h1 : (1 : Int) < ((bs l).size : Int)) (h0 : 0 < (bs l).size) (h48 : ((((bs l)[0]'h0).toNat : Int) == 48) = false) :
    Calls Tryz.prog 136 #[.string (bs l)] w (Ans w (numR (numF 0 l))) := by
  obtain ⟨v0, hv0⟩ : ∃ v0, numR (numF 0 l) = v0 := ⟨_, rfl⟩
  have HV := Lib.hid hv0
  rw [hv0]
  clear hv0
  have h1' : ((bs l).size : Int) > 1 := h1
  go_enter Tryz.func136, Tryz.ntmps136
  go_wp2
  go_loopw [4] (NumRel w l) (fun v wr => l.length - wr.iterPos w.heap.size)
  case atStart => exact ⟨0, 0, by omega, Nat.zero_le _, rfl, (by have := World.iter_heap w (bs l) 0; simpa using this), (Below.refl _ _).alloc (Nat.le_refl _) _, rfl⟩
  case round =>
    obtain ⟨pos, n, hn, hpos, rfl, hs⟩ := hrel
    have HS := Lib.hid hs
    have hit := hs.it
    have HT := Lib.hid hit
    have hlt := (Array.getElem?_eq_some_iff.1 hit).1
    by_cases hp : pos < l.length
    · have hnx : ∀ ty, (Instr.next (.pointer (some ⟨w.heap.size, 0, none⟩)) true ty).run Tryz.prog wr = _ := fun ty => Lib.run_next_any_at wr w.heap.size (bs l) pos ty hit (by rw [bs_size]; exact hp)
      by_cases hr : 48 ≤ (Utf8.decode (bs l) pos).1 ∧ (Utf8.decode (bs l) pos).1 ≤ 57
      · have hdg := digit hp hr
        have HN : Hid (numF 0 l = numF (min (10 * n + ((Utf8.decode (bs l) pos).1 - 48)) 256) (l.drop (pos + 1))) := by
          unfold Hid; rw [hs.num, drop_at hp, numF]
          rw [hdg] at hr ⊢
          rw [if_pos hr]
        have hwd : (Utf8.decode (bs l) pos).2 = 1 := by rw [hdg]
        have HB := Lib.hid (Lib.below_iterAt hs.bel (k := w.heap.size) (Nat.le_refl _) (bs l) (pos + 1))
        have HI := Lib.hid (Lib.iterAt_heap wr w.heap.size (bs l) pos (pos + 1) hit)
        obtain ⟨r, hrr⟩ : ∃ r, (Utf8.decode (bs l) pos).1 = r := ⟨_, rfl⟩
        rw [hrr] at hr HN
        rw [hrr, hwd] at hnx
        clear hdg hwd hrr hs hit HS
        obtain ⟨r1, r2⟩ := hr
        have r3 : ¬ ((r : Int) < 48) := by omega
        have r4 : ¬ ((r : Int) > 57) := by omega
        have r5 : (0 : Int) ≤ (r : Int) - 48 := by omega
        have r6 : (r : Int) - 48 ≤ 9 := by omega
        have r7 : (0 : Int) ≤ 10 * (n : Int) := by omega
        have r8 : 10 * (n : Int) ≤ 2560 := by omega
        go_wp2
        go_roundw
        case rel => exact ⟨pos + 1, min (10 * n + (r - 48)) 256, by omega, by omega, by congr 1; omega, HI.out, HB.out, HN.out⟩
        case measure => simp only [World.iterPos, HI.out, HT.out]; omega
      · have HN := Lib.hid (nodigit hp hr n)
        have HNN : Hid (numF 0 l = none) := by unfold Hid; rw [hs.num, HN.out]
        have HR : Hid (v0 = .tuple #[.int .i64 0, .bool false]) := by unfold Hid; rw [← HV.out, HNN.out]; rfl
        have HB := Lib.hid (Lib.below_iterAt hs.bel (k := w.heap.size) (Nat.le_refl _) (bs l) (pos + (Utf8.decode (bs l) pos).2))
        have hbig : (Utf8.decode (bs l) pos).1 < 2147483648 := by
          rcases Nat.lt_or_ge (l.getD pos 0).toNat 128 with hb | hb
          · rw [dec_small l pos hb]; show (l.getD pos 0).toNat < _; omega
          · exact (dec_big l pos hp hb).2.1
        generalize pos + (Utf8.decode (bs l) pos).2 = q at *
        generalize (Utf8.decode (bs l) pos).1 = r at *
        clear hs hit HS HN HNN
        by_cases h48 : r < 48
        · have r3 : ((r : Int) < 48) := by omega
          go_wp2
          go_ret2
          exact ⟨by rw [HR.out]; rfl, HB.out⟩
        · have r3 : ¬ ((r : Int) < 48) := by omega
          have r4 : ((r : Int) > 57) := by omega
          have r4' : ((57 : Int) < (r : Int)) := by omega
          go_wp2
          go_ret2
          exact ⟨by rw [HR.out]; rfl, HB.out⟩
    · have hnx : ∀ ty, (Instr.next (.pointer (some ⟨w.heap.size, 0, none⟩)) true ty).run Tryz.prog wr = _ := fun ty => Lib.run_next_end_at wr w.heap.size (bs l) pos ty hit (by rw [bs_size]; exact hp)
      have HN : Hid (v0 = .tuple #[.int .i64 (n : Int), .bool true]) := by unfold Hid; rw [← HV.out, hs.num, List.drop_of_length_le (by omega), numF]; rfl
      clear hs hit
      go_wp2
      go_ret2
      exact ⟨by rw [HN.out]; rfl, HS.out.bel⟩
set_option maxHeartbeats 4000000 in
set_option maxRecDepth 100000 in
theorem num_zero (s : ByteArray) (w : World) (hne : s.toList.isEmpty = false) (h1 : (1 : Int) < (s.size : Int)) (h0 : 0 < s.size) (h48 : (((s[0]'h0).toNat : Int) == 48) = true) :
    Calls Tryz.prog 136 #[.string s] w (Ans w (.tuple #[.int .i64 0, .bool false])) := by
  go_enter Tryz.func136, Tryz.ntmps136
  go_wp2
  go_ret2
  exact ⟨rfl, Below.refl _ _⟩
theorem num_empty (w : World) : Calls Tryz.prog 136 #[.string ⟨#[]⟩] w (Ans w (.tuple #[.int .i64 0, .bool false])) := by
  go_enter Tryz.func136, Tryz.ntmps136
  go_wp2
  go_ret2
  exact ⟨rfl, Below.refl _ _⟩
theorem num_any (l : List UInt8) (w : World) : Calls Tryz.prog 136 #[.string (bs l)] w (Ans w (numR (numV l))) := by
  match l with
  | [] => exact num_empty w
  | [a] =>
    have e : numV [a] = numF 0 [a] := by unfold numV; rw [if_neg (by simp)]
    rw [e]
    exact num_short [a] w (by rw [Lib.toList_data, bs_data]; rfl) (by rw [bs_size]; simp)
  | a :: b :: l =>
    have hs : (bs (a :: b :: l)).size = l.length + 2 := by rw [bs_size]; simp
    by_cases h : a = 48
    · have e : numV (a :: b :: l) = none := by unfold numV; rw [if_pos (by simp [h])]
      rw [e]
      exact num_zero _ w (by rw [Lib.toList_data, bs_data]; rfl) (by rw [hs]; omega) (by rw [hs]; omega) (by rw [bs_get]; simp [h])
    · have e : numV (a :: b :: l) = numF 0 (a :: b :: l) := by unfold numV; rw [if_neg (by simp [h])]
      rw [e]
      exact num_long _ w (by rw [Lib.toList_data, bs_data]; rfl) (by rw [hs]; omega) (by rw [hs]; omega) (by
        rw [bs_get, beq_eq_false_iff_ne]
        intro e2
        apply h
        simp at e2
        apply UInt8.toNat_inj.1
        show a.toNat = 48
        omega)
end Go.Proofs.YtcgjmnhmhiddkaaGreatDoor
