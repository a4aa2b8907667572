/- The document's classes of a text: walked. -/
import Derived.Test.YtcgjmnhmhiddkaaGreatDoorM29
import Derived.Test.YtcgjmnhmhiddkaaGreatDoorM30
import Derived.Test.YtcgjmnhmhiddkaaGreatDoorM28
import Derived.Test.YtcgjmnhmhiddkaaGreatDoorM09
import Derived.Test.YtcgjmnhmhiddkaaGreatDoorM06
namespace Go.Proofs.YtcgjmnhmhiddkaaGreatDoor
open Go Go.RowKit
theorem rbytes_any (l : List UInt8) (hl : l.length ≤ 1073741800) (w : World) : Calls Tryz.prog 57 #[.string (bs l)] w (BtP w (classV l)) := by
  by_cases h : l.head? = some 94
  · exact rbytes_not l hl h w
  · exact rbytes_plain l hl h w
set_option linter.unusedVariables false
set_option linter.unusedSimpArgs false
def endI (l : List UInt8) (i : Nat) (c : UInt8) : Int := match cutAt c (l.drop (i + 1)) with
  | some (a, _) => ((i + 1 + a.length : Nat) : Int)
  | none => -1
def EndG (w0 : World) (l : List UInt8) (i : Nat) (c : UInt8) (kv : Value) (w : World) : Prop :=
  ∃ m : Nat, i + 1 ≤ m ∧ m ≤ max (i + 1) l.length ∧ kv = .int .i64 (m : Int) ∧ (∀ q, i + 1 ≤ q → q < m → ∀ h : q < l.length, l[q]'h ≠ c) ∧ w0 = w
theorem end_hit {l : List UInt8} {i m : Nat} {c : UInt8} (h : m < l.length) (him : i + 1 ≤ m) (hc : l[m]'h = c) (hn : ∀ q, i + 1 ≤ q → q < m → ∀ h : q < l.length, l[q]'h ≠ c) : endI l i c = (m : Int) := by
  have e : l.drop (i + 1) = (l.drop (i + 1)).take (m - (i + 1)) ++ c :: l.drop (m + 1) := by
    conv => lhs; rw [← List.take_append_drop (m - (i + 1)) (l.drop (i + 1))]
    rw [List.drop_drop, show i + 1 + (m - (i + 1)) = m by omega, List.drop_eq_getElem_cons h, hc]
  have hnot : c ∉ (l.drop (i + 1)).take (m - (i + 1)) := by
    intro hm
    obtain ⟨j, hj, e2⟩ := List.getElem_of_mem hm
    rw [List.length_take, List.length_drop] at hj
    rw [List.getElem_take, List.getElem_drop] at e2
    exact hn (i + 1 + j) (by omega) (by omega) (by omega) e2
  unfold endI
  rw [e, cutAt_app hnot]
  simp only [List.length_take, List.length_drop]; omega
theorem end_miss {l : List UInt8} {i : Nat} {c : UInt8} (hn : ∀ q, i + 1 ≤ q → ∀ h : q < l.length, l[q]'h ≠ c) : endI l i c = -1 := by
  have hnot : c ∉ l.drop (i + 1) := by
    intro hm
    obtain ⟨j, hj, e2⟩ := List.getElem_of_mem hm
    rw [List.length_drop] at hj
    rw [List.getElem_drop] at e2
    exact hn (i + 1 + j) (by omega) (by omega) e2
  unfold endI
  rw [cutAt_none.2 hnot]
set_option maxHeartbeats 8000000 in
set_option maxRecDepth 100000 in
theorem rend_any (l : List UInt8) (i : Nat) (c : UInt8) (hl : l.length ≤ 1073741824) (hi : i ≤ l.length) (w : World) : Calls Tryz.prog 56 #[.string (bs l), .int .i64 (i : Int), .int .u8 (c.toNat : Int)] w (Pure w (.int .i64 (endI l i c))) := by
  obtain ⟨v, hv⟩ : ∃ v, endI l i c = v := ⟨_, rfl⟩
  rw [hv]
  have HV := Lib.hid hv
  clear hv
  go_enter Tryz.func56, Tryz.ntmps56
  go_wp2
  go_loopw [7] (EndG w l i c) (fun kv _ => max (i + 1) l.length - (intOf kv).toNat)
  case atStart => exact ⟨i + 1, Nat.le_refl _, by omega, by go_num, fun q h1 h2 => by omega, rfl⟩
  case round =>
    obtain ⟨m, hm1, hm2, rfl, hne, rfl⟩ := hrel
    have HNE := Lib.hid hne
    clear hne
    by_cases hlt : m < l.length
    · have hq : m < (bs l).size := by rw [bs_size]; exact hlt
      have hqz : (m : Int) < ((bs l).size : Int) := by omega
      have hget : (bs l)[m]'hq = l[m]'hlt := bs_get _ _ _
      by_cases hc : l[m]'hlt = c
      · have HR : Hid (v = (m : Int)) := by unfold Hid; rw [← HV.out]; exact end_hit hlt hm1 hc HNE.out
        have heq : (((l[m]'hlt).toNat : Int) == (c.toNat : Int)) = true := by rw [hc]; simp
        generalize l[m]'hlt = x at *
        go_wp2
        go_ret
        exact ⟨by rw [HR.out] <;> rfl, rfl⟩
      · have heq : (((l[m]'hlt).toNat : Int) == (c.toNat : Int)) = false := by
          rw [beq_eq_false_iff_ne]; intro e; exact hc (UInt8.toNat_inj.1 (by omega))
        have HN2 : Hid (∀ q, i + 1 ≤ q → q < m + 1 → ∀ h : q < l.length, l[q]'h ≠ c) := fun q h1 h2 h => by
          by_cases e : q = m
          · subst e; exact hc
          · exact HNE.out q h1 (by omega) h
        generalize l[m]'hlt = x at *
        have hml : (m : Int) ≤ 1073741824 := by omega
        go_wp2
        go_roundw
        case rel => exact ⟨m + 1, by omega, by omega, by go_num, HN2.out, rfl⟩
        case measure => simp [intOf]; omega
    · have hqz : ¬ (m : Int) < ((bs l).size : Int) := by rw [bs_size]; omega
      have HR : Hid (v = -1) := by unfold Hid; rw [← HV.out]; exact end_miss fun q h1 h => HNE.out q h1 (by omega) h
      go_wp2
      go_ret
      exact ⟨by rw [HR.out] <;> rfl, rfl⟩
def shortI (c : UInt8) : Nat := if c = 40 then 3 else if c = 41 then 4 else if c = 124 then 5 else if c = 42 then 6 else if c = 98 then 8 else if c = 119 then 9 else 0
def shl : List UInt8 := [40, 41, 124, 42, 98, 119]
def shk : List Nat := [3, 4, 5, 6, 8, 9]
theorem short_hit : ∀ j, (h : j < 6) → shortI (shl[j]'h) = shk[j]'h := by decide
theorem short_miss {c : UInt8} (h : ∀ q, (hq : q < 6) → shl[q]'hq ≠ c) : shortI c = 0 := by
  have h0 : (40 : UInt8) ≠ c := h 0 (by omega)
  have h1 : (41 : UInt8) ≠ c := h 1 (by omega)
  have h2 : (124 : UInt8) ≠ c := h 2 (by omega)
  have h3 : (42 : UInt8) ≠ c := h 3 (by omega)
  have h4 : (98 : UInt8) ≠ c := h 4 (by omega)
  have h5 : (119 : UInt8) ≠ c := h 5 (by omega)
  unfold shortI
  rw [if_neg (Ne.symm h0), if_neg (Ne.symm h1), if_neg (Ne.symm h2), if_neg (Ne.symm h3), if_neg (Ne.symm h4), if_neg (Ne.symm h5)]
def ShG (w0 : World) (c : UInt8) (b : Nat) (iv : Value) (w : World) : Prop :=
  ∃ j : Nat, j ≤ 6 ∧ iv = .int .i64 (j : Int) ∧ (∀ q, (hq : q < 6) → q < j → shl[q]'hq ≠ c) ∧ Below w0.heap.size w0 w ∧ Blk w b #[.int .i64 3, .int .i64 4, .int .i64 5, .int .i64 6, .int .i64 8, .int .i64 9] 3
theorem shk_cell {w : World} {b : Nat} (h : Blk w b #[.int .i64 3, .int .i64 4, .int .i64 5, .int .i64 6, .int .i64 8, .int .i64 9] 3) (j : Nat) (hj : j < 6) : w.cell? ⟨b, j, none⟩ = some (.int .i64 ((shk[j]'hj : Nat) : Int)) := by
  rw [h.cell j]
  have : j = 0 ∨ j = 1 ∨ j = 2 ∨ j = 3 ∨ j = 4 ∨ j = 5 := by omega
  rcases this with rfl | rfl | rfl | rfl | rfl | rfl <;> rfl
set_option maxHeartbeats 8000000 in
set_option maxRecDepth 100000 in
theorem rshort_any (c : UInt8) (w : World) : Calls Tryz.prog 54 #[.int .u8 (c.toNat : Int)] w (Ans w (.int .i64 (shortI c : Int))) := by
  obtain ⟨v, hv⟩ : ∃ v, shortI c = v := ⟨_, rfl⟩
  rw [hv]
  have HV := Lib.hid hv
  clear hv
  have hb := (Below.refl w.heap.size w).alloc (Nat.le_refl _) (.cells #[.int .i64 3, .int .i64 4, .int .i64 5, .int .i64 6, .int .i64 8, .int .i64 9] 3)
  have HS : Hid (ShG w c w.heap.size (.int .i64 0) (w.alloc (.cells #[.int .i64 3, .int .i64 4, .int .i64 5, .int .i64 6, .int .i64 8, .int .i64 9] 3))) := ⟨0, by omega, rfl, fun q _ h => by omega, hb, Blk.new _ _ _⟩
  clear hb
  go_enter Tryz.func54, Tryz.ntmps54
  go_upto_region 3 with (fail)
  rw [show (⟨#[40, 41, 124, 42, 98, 119]⟩ : ByteArray) = bs shl from rfl]
  have hsz : (bs shl).size = 6 := rfl
  have HSZ := Lib.hid hsz
  generalize w.alloc (.cells #[.int .i64 3, .int .i64 4, .int .i64 5, .int .i64 6, .int .i64 8, .int .i64 9] 3) = w1 at *
  generalize hbb : w.heap.size = b at HS
  go_wp2
  go_loopw [5] (ShG w c b) (fun kv _ => 6 - (intOf kv).toNat)
  case atStart => exact HS.out
  case round =>
    obtain ⟨j, hj, rfl, hne, hbel, hblk⟩ := hrel
    have HNE := Lib.hid hne
    have HB := Lib.hid hbel
    have HK := Lib.hid hblk
    clear hne hbel hblk hsz
    by_cases hlt : j < 6
    · have hq : j < (bs shl).size := by rw [HSZ.out]; exact hlt
      have hqz : (j : Int) < ((bs shl).size : Int) := by omega
      have hget : (bs shl)[j]'hq = shl[j]'hlt := bs_get _ _ _
      have hcell := shk_cell HK.out j hlt
      have HHIT := Lib.hid (short_hit j hlt)
      generalize shk[j]'hlt = kk at *
      by_cases hc : shl[j]'hlt = c
      · have HR : Hid (v = kk) := by unfold Hid; rw [← HV.out, ← hc]; exact HHIT.out
        have heq : (((shl[j]'hlt).toNat : Int) == (c.toNat : Int)) = true := by rw [hc]; simp
        clear HHIT hc
        generalize shl[j]'hlt = x at *
        go_wp2
        go_ret
        exact ⟨by rw [HR.out] <;> rfl, HB.out⟩
      · have heq : (((shl[j]'hlt).toNat : Int) == (c.toNat : Int)) = false := by
          rw [beq_eq_false_iff_ne]; intro e; exact hc (UInt8.toNat_inj.1 (by omega))
        have HN2 : Hid (∀ q, (hq : q < 6) → q < j + 1 → shl[q]'hq ≠ c) := fun q h1 h2 => by
          by_cases e : q = j
          · subst e; exact hc
          · exact HNE.out q h1 (by omega)
        clear HHIT hc
        generalize shl[j]'hlt = x at *
        have hml : (j : Int) ≤ 6 := by omega
        go_wp2
        go_roundw
        case rel => exact ⟨j + 1, by omega, by go_num, HN2.out, HB.out, HK.out⟩
        case measure => simp [intOf]; omega
    · have hqz : ¬ (j : Int) < ((bs shl).size : Int) := by rw [HSZ.out]; omega
      have HR : Hid (v = 0) := by unfold Hid; rw [← HV.out]; exact short_miss fun q h1 => HNE.out q h1 (by omega)
      go_wp2
      go_ret
      exact ⟨by rw [HR.out] <;> rfl, HB.out⟩
def roneO (o : One) (i : Nat) : Value := match o with
  | .tok t n => .tuple #[.agg (tokC { t with at_ := i }), .int .i64 ((i + n + 1 : Nat) : Int), .int .i64 0]
  | .bad e => .tuple #[.agg #[.int .i64 0, .int .i64 (i : Int), .int .u64 0, .int .u64 0, .int .u64 0, .int .u64 0, .string ⟨#[]⟩, .int .i64 0, .int .i64 0], .int .i64 0, .int .i64 (e : Int)]
def roneV (l : List UInt8) (i : Nat) : Value := roneO (oneV (l.getD i 0) (l.drop (i + 1))) i
structure RoS (w0 : World) (us : Array Value) (w : World) : Prop where
  bel : Below w0.heap.size w0 w
  res : Blk w w0.heap.size #[.int .i64 0, .int .i64 0, .int .u64 0, .int .u64 0, .int .u64 0, .int .u64 0, .string ⟨#[]⟩, .int .i64 0, .int .i64 0] 76
  box : Blk w (w0.heap.size + 1) us 76
theorem RoS.later {w0 w w' : World} {us : Array Value} (h : RoS w0 us w) (hb : Below w.heap.size w w') : RoS w0 us w' := ⟨h.bel.trans (hb.mono h.bel.size), h.res.later hb, h.box.later hb⟩
theorem RoS.set {w0 w : World} {us : Array Value} (h : RoS w0 us w) (o : Nat) (v : Value) : RoS w0 (us.setIfInBounds o v) (w.setCell ⟨w0.heap.size + 1, o, none⟩ v) :=
  ⟨h.bel.setCell (p := ⟨w0.heap.size + 1, o, none⟩) (Nat.le_succ _) v, h.res.setCell_ne (a := ⟨w0.heap.size + 1, o, none⟩) (Nat.succ_ne_self _) v, h.box.setCell o v⟩
theorem RoS.new (w : World) (us : Array Value) : RoS w us ((w.alloc (.cells #[.int .i64 0, .int .i64 0, .int .u64 0, .int .u64 0, .int .u64 0, .int .u64 0, .string ⟨#[]⟩, .int .i64 0, .int .i64 0] 76)).alloc (.cells us 76)) :=
  ⟨((Below.refl _ w).alloc (Nat.le_refl _) _).alloc (by simp) _, (Blk.new w _ _).alloc _, Blk.new' (by simp) _ _⟩
theorem one_short {c : UInt8} (h : 0 < shortI c) (rest : List UInt8) : oneV c rest = .tok { kind := shortI c, at_ := 0 } 0 ∧ c ≠ 46 := by
  unfold shortI at h ⊢
  unfold oneV
  by_cases h0 : c = 40
  · subst h0; exact ⟨rfl, by decide⟩
  by_cases h1 : c = 41
  · subst h1; exact ⟨rfl, by decide⟩
  by_cases h2 : c = 124
  · subst h2; exact ⟨rfl, by decide⟩
  by_cases h3 : c = 42
  · subst h3; exact ⟨rfl, by decide⟩
  by_cases h4 : c = 98
  · subst h4; exact ⟨rfl, by decide⟩
  by_cases h5 : c = 119
  · subst h5; exact ⟨rfl, by decide⟩
  simp [h0, h1, h2, h3, h4, h5] at h
theorem one_not {c : UInt8} (h : shortI c = 0) : c ≠ 40 ∧ c ≠ 41 ∧ c ≠ 124 ∧ c ≠ 42 ∧ c ≠ 98 ∧ c ≠ 119 := by
  refine ⟨?_, ?_, ?_, ?_, ?_, ?_⟩ <;> (rintro rfl; revert h; decide)
theorem tokC_lit (k i lo hi : Nat) (S : BitVec 256) (x : List UInt8) : tokC { kind := k, at_ := i, lo := lo, hi := hi, cls := S, text := x } = #[.int .i64 (k : Int), .int .i64 (i : Int), .int .u64 (wd S 0), .int .u64 (wd S 1), .int .u64 (wd S 2), .int .u64 (wd S 3), .string (bs x), .int .i64 (lo : Int), .int .i64 (hi : Int)] := rfl
theorem wd_zeros : wd 0#256 0 = 0 ∧ wd 0#256 1 = 0 ∧ wd 0#256 2 = 0 ∧ wd 0#256 3 = 0 := by decide
theorem tokC_plain (k i lo hi : Nat) : tokC { kind := k, at_ := i, lo := lo, hi := hi } = #[.int .i64 (k : Int), .int .i64 (i : Int), .int .u64 0, .int .u64 0, .int .u64 0, .int .u64 0, .string ⟨#[]⟩, .int .i64 (lo : Int), .int .i64 (hi : Int)] := by
  unfold tokC
  simp only [wd_zeros.1, wd_zeros.2.1, wd_zeros.2.2.1, wd_zeros.2.2.2]; rfl
theorem end_some {l : List UInt8} {i : Nat} {c : UInt8} {a b : List UInt8} (h : cutAt c (l.drop (i + 1)) = some (a, b)) : endI l i c = ((i + 1 + a.length : Nat) : Int) ∧ i + 1 + a.length < l.length ∧ (l.drop (i + 1)).take a.length = a ∧ (l.take (i + 1 + a.length)).drop (i + 1) = a := by
  have e := (cutAt_some h).1
  have hl := congrArg List.length e
  rw [List.length_drop, List.length_append, List.length_cons] at hl
  have h3 : (l.drop (i + 1)).take a.length = a := by rw [e, List.take_append_of_le_length (Nat.le_refl _), List.take_length]
  refine ⟨by unfold endI; rw [h], by omega, h3, ?_⟩
  rw [List.drop_take, show i + 1 + a.length - (i + 1) = a.length by omega]; exact h3
theorem end_none {l : List UInt8} {i : Nat} {c : UInt8} (h : cutAt c (l.drop (i + 1)) = none) : endI l i c = -1 := by unfold endI; rw [h]
def badO (i e : Nat) : Value := .tuple #[.agg #[.int .i64 0, .int .i64 (i : Int), .int .u64 0, .int .u64 0, .int .u64 0, .int .u64 0, .string ⟨#[]⟩, .int .i64 0, .int .i64 0], .int .i64 0, .int .i64 (e : Int)]
theorem one60 {c : UInt8} (h : c = 60) (rest : List UInt8) : oneV c rest = closed 62 2 rest fun a => match classV a with
    | none => .bad 2
    | some s => .tok { kind := 1, at_ := 0, cls := s } (a.length + 1) := by subst h; rfl
theorem one34 {c : UInt8} (h : c = 34) (rest : List UInt8) : oneV c rest = closed 34 3 rest fun a => match textV a with
    | none => .bad 3
    | some t => .tok { kind := 2, at_ := 0, text := t } (a.length + 1) := by subst h; rfl
theorem one123 {c : UInt8} (h : c = 123) (rest : List UInt8) : oneV c rest = closed 125 4 rest fun a => match repV a with
    | none => .bad 4
    | some (x, y) => if 255 < y ∨ y < x then .bad 5 else .tok { kind := 7, at_ := 0, lo := x, hi := y } (a.length + 1) := by subst h; rfl
theorem one46 {c : UInt8} (h : c = 46) (rest : List UInt8) : oneV c rest = .tok { kind := 1, at_ := 0, cls := rowB 0 255 } 0 := by subst h; rfl
theorem one_else {c : UInt8} (h : shortI c = 0) (h1 : c ≠ 46) (h2 : c ≠ 60) (h3 : c ≠ 34) (h4 : c ≠ 123) (rest : List UInt8) : oneV c rest = .bad 1 := by
  obtain ⟨n1, n2, n3, n4, n5, n6⟩ := one_not h
  unfold oneV
  simp [h1, h2, h3, h4, n1, n2, n3, n4, n5, n6]
end Go.Proofs.YtcgjmnhmhiddkaaGreatDoor
