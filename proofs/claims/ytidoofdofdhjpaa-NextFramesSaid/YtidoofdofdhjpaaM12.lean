/- Lowered: walked. -/
import Derived.Test.YtidoofdofdhjpaaM11
import Derived.Test.YtidoofdofdhjpaaM10
import Derived.Test.YtidoofdofdhjpaaM05
import Derived.Lib.Zigzag
import Derived.Laws.BytesArg
import Derived.Lib.BufferRead
import Derived.Lib.SlBytesRow
namespace Go.Proofs.Ytidoofdofdhjpaa
open Go Go.RowKit
set_option linter.unusedVariables false
set_option linter.unusedSimpArgs false
set_option maxRecDepth 100000
set_option maxHeartbeats 16000000
theorem ItRow.below {w w' : World} {B : Nat} {A : Option Addr} {l : List Itm} (h : ItRow w A l) (hlt : ∀ b o, A = some ⟨b, o, none⟩ -> b < B) (hb : Below B w w') : ItRow w' A l := fun i hi => by
 obtain ⟨b, off, ha, h2, hc⟩ := h i hi
 exact ⟨b, off, ha, Nat.lt_of_lt_of_le h2 hb.size, fun j hj => (hb.cell (p := ⟨b, off + i * 4 + j, none⟩) (hlt b off ha)).trans (hc j hj)⟩
def ItOk (l : List Itm) : Prop := ∀ x ∈ l, (-9223372036854775808 <= x.kind /\ x.kind <= 9223372036854775807) /\ (-9223372036854775808 <= x.node /\ x.node <= 9223372036854775807) /\ (-9223372036854775808 <= x.lo /\ x.lo <= 9223372036854775807) /\ (-9223372036854775808 <= x.hi /\ x.hi <= 9223372036854775807)
theorem ItOk.at_ {l : List Itm} (h : ItOk l) {k : Nat} (hk : k < l.length) : (-9223372036854775808 <= (l.getD k it0).kind /\ (l.getD k it0).kind <= 9223372036854775807) /\ (-9223372036854775808 <= (l.getD k it0).node /\ (l.getD k it0).node <= 9223372036854775807) /\ (-9223372036854775808 <= (l.getD k it0).lo /\ (l.getD k it0).lo <= 9223372036854775807) /\ (-9223372036854775808 <= (l.getD k it0).hi /\ (l.getD k it0).hi <= 9223372036854775807) := h _ (by
 rw [List.getD_eq_getElem?_getD, List.getElem?_eq_getElem hk]; exact List.getElem_mem hk)
def LowP (w0 : World) (l : List Itm) (e : Ending) (w : World) : Prop := Below w0.heap.size w0 w /\ ((lowS l = none /\ e = .returned (.tuple #[.slice none 0 0, .bool false])) \/ ∃ v m, lowS l = some m /\ e = .returned (.tuple #[v, .bool true]) /\ OwnIt w w0.heap.size v m)
structure LoS (w0 : World) (A : Option Addr) (l : List Itm) (k : Nat) (v : Value) (w : World) : Prop where
 bel : Below w0.heap.size w0 w
 row : ItRow w A l
 own : OwnIt w w0.heap.size v ((l.take k).map lowI)
theorem LoS.later {w0 w w' : World} {A : Option Addr} {l : List Itm} {k : Nat} {v : Value} (h : LoS w0 A l k v w) (hb : Below w.heap.size w w') : LoS w0 A l k v w' := ⟨h.bel.trans (hb.mono h.bel.size), h.row.later hb, h.own.later hb⟩
def LoL (w0 : World) (A : Option Addr) (l : List Itm) (v i : Value) (w : World) : Prop := ∃ k : Nat, k <= l.length /\ i = .int .i64 (k : Int) /\ (∀ x ∈ l.take k, maylow x = true) /\ LoS w0 A l k v w
theorem take_it {l : List Itm} {k : Nat} (hk : k < l.length) : l.take (k + 1) = l.take k ++ [l.getD k it0] := by
 rw [List.take_succ_eq_append_getElem hk, List.getD_eq_getElem?_getD, List.getElem?_eq_getElem hk]; rfl
theorem lowS_none {l : List Itm} {k : Nat} (hk : k < l.length) (h : maylow (l.getD k it0) = false) : lowS l = none := by
 unfold lowS
 rw [if_neg]
 rw [List.all_eq_true]
 intro hh
 have := hh (l.getD k it0) (by rw [List.getD_eq_getElem?_getD, List.getElem?_eq_getElem hk]; exact List.getElem_mem hk)
 rw [h] at this; cases this
theorem ilower_any (l : List Itm) (A : Option Addr) (c : Nat) (hl : l.length <= 1073740000) (hI : ItOk l) (w : World) (hrow : ItRow w A l) :
 Calls Try.prog 54 #[.slice A l.length c] w (LowP w l) := by
 have HI := Lib.hid hI
 have HRW := Lib.hid hrow
 have HA : Hid (∀ b o, A = some ⟨b, o, none⟩ -> l ≠ [] -> b < w.heap.size) := fun b o e hne => by
  obtain ⟨b', o', e', h, -⟩ := hrow 0 (List.length_pos_iff.2 hne)
  rw [e] at e'; cases e'; exact h
 clear hI hrow
 go_enter Try.func54, Try.ntmps54
 go_upto_region 1 with (fail)
 go_upto_region 2 with (refine wpList_make_it rfl _ _ rfl _ l.length rfl rfl (by omega) (by omega) ?_; intro w1 ho1 hb1; have HO1 := Lib.hid ho1; have HB1 := Lib.hid hb1; clear ho1 hb1)
 have HS0 : Hid (LoS w A l 0 (.slice (some ⟨w.heap.size, 0, none⟩) 0 l.length) w1) := ⟨HB1.out, HRW.out.later HB1.out, HO1.out⟩
 clear HO1 HB1 HRW
 go_wp2
 go_loopw [4, 12] (LoL w A l) (fun _ i _ => l.length - (intOf i).toNat)
 case atStart => exact ⟨0, Nat.zero_le _, rfl, by simp, HS0.out⟩
 case round =>
  obtain ⟨k, hk, rfl, hm, hs⟩ := hrel
  have HM := Lib.hid hm
  have HS := Lib.hid hs
  obtain ⟨av, cv, hvv, -, -⟩ := hs.own.row
  have hlen0 : ((l.take k).map lowI).length = k := by rw [List.length_map, List.length_take]; omega
  rw [hlen0] at hvv
  clear hlen0
  subst hvv
  by_cases hlt : k < l.length
  ·have hltz : (k : Int) < (l.length : Int) := by omega
   obtain ⟨ba, oa, rfl, hba, xa⟩ := hs.row.four hlt
   have HOK := Lib.hid (HI.out.at_ hlt)
   have HNO := Lib.hid (fun h => lowS_none hlt h)
   have HTK := Lib.hid (take_it hlt)
   clear hs hm
   generalize l.getD k it0 = x at *
   obtain ⟨kk, nn, lo, hi⟩ := x
   unfold At4 at xa
   obtain ⟨x0, x1, x2, x3⟩ := xa
   simp only at x0 x1 x2 x3 HOK
   go_upto_region 5 with (fail)
   have hb1 := (Below.refl wr.heap.size wr).alloc (Nat.le_refl _) (.cells #[.int .i64 kk, .int .i64 nn, .int .i64 lo, .int .i64 hi] 44)
   have HS1 := Lib.hid (HS.out.later hb1)
   have HB1 := Lib.hid hb1
   have HX1 := Lib.hid (Blk.new wr #[.int .i64 kk, .int .i64 nn, .int .i64 lo, .int .i64 hi] 44)
   have HZ1 : Hid (w.heap.size <= wr.heap.size) := HS.out.bel.size
   clear hb1 x0 x1 x2 x3
   generalize wr.alloc (.cells #[.int .i64 kk, .int .i64 nn, .int .i64 lo, .int .i64 hi] 44) = w1 at HS1 HX1 HB1 ⊢
   have x0 := HX1.out.cell 0
   have x1 := HX1.out.cell 1
   have x2 := HX1.out.cell 2
   have x3 := HX1.out.cell 3
   have f2 := HX1.out.frozen 2
   simp at x0 x1 x2 x3
   have HLT := Lib.hid hlt
   by_cases h5 : kk = 5
   ·subst h5
    by_cases h0 : lo <= 0
    ·have HR := Lib.hid (HNO.out (by unfold maylow; simp [h0]))
     clear hlt
     go_wp2
     go_ret2
     exact ⟨HS1.out.bel, .inl ⟨HR.out, rfl⟩⟩
    ·have HOKL : lo <= 9223372036854775807 := HOK.out.2.2.1.2
     have hx2 := HX1.out.setCell 2 (.int .i64 (lo - 1))
     have HX2 : Blk (w1.setCell ⟨wr.heap.size, 2, none⟩ (.int .i64 (lo - 1))) wr.heap.size #[.int .i64 5, .int .i64 nn, .int .i64 (lo - 1), .int .i64 hi] 44 := by simpa using hx2
     have HX2 := Lib.hid HX2
     have HS2 := Lib.hid (HS.out.later (HB1.out.setCell (p := ⟨wr.heap.size, 2, none⟩) (Nat.le_refl _) (.int .i64 (lo - 1))))
     have HN2 : Hid ((l.take (k + 1)).map lowI = (l.take k).map lowI ++ [⟨5, nn, lo - 1, hi⟩]) := by unfold Hid; rw [HTK.out, List.map_append]; rfl
     have HM2 : Hid (∀ x ∈ l.take (k + 1), maylow x = true) := fun x hx => by
      rw [HTK.out] at hx
      rcases List.mem_append.1 hx with h | h
      ·exact HM.out x h
      ·rw [List.mem_singleton.1 h]; unfold maylow; simp; omega
     clear hx2 hlt
     go_upto_region 9 with (fail)
     clear x0 x1 x2 x3 f2 HS1 HX1 HB1 HS
     generalize w1.setCell ⟨wr.heap.size, 2, none⟩ (.int .i64 (lo - 1)) = w2 at HS2 HX2 ⊢
     obtain ⟨kk, hkk⟩ : ∃ kk : Int, kk = 5 := ⟨5, rfl⟩
     rw [<- hkk] at HX2 HN2
     clear hkk HNO HTK HOK
     have x0 := HX2.out.cell 0
     have x1 := HX2.out.cell 1
     have x2 := HX2.out.cell 2
     have x3 := HX2.out.cell 3
     simp at x0 x1 x2 x3
     have HZ2 : Hid (w.heap.size <= w2.heap.size) := HS2.out.bel.size
     have HS3 := Lib.hid (HS2.out.later ((Below.refl _ _).alloc (Nat.le_refl _) (.cells #[.int .i64 kk, .int .i64 nn, .int .i64 (lo - 1), .int .i64 hi] 44)))
     have HX3 : Hid (Blk (w2.alloc (.cells #[.int .i64 kk, .int .i64 nn, .int .i64 (lo - 1), .int .i64 hi] 44)) w2.heap.size (itV ⟨kk, nn, (lo - 1), hi⟩) 44) := Blk.new w2 _ _
     have hl3 : ((l.take k).map lowI).length < 1073741000 := by rw [List.length_map, List.length_take]; omega
     have hb3 : w.heap.size <= (w2.alloc (.cells #[.int .i64 kk, .int .i64 nn, .int .i64 (lo - 1), .int .i64 hi] 44)).heap.size := HS3.out.bel.size
     have HL3 := Lib.hid hl3
     have HB3 := Lib.hid hb3
     clear hl3 hb3
     go_wp2_with (at_builtin; refine wpList_append_it rfl _ _ rfl w.heap.size _ ((l.take k).map lowI) rfl HS3.out.own w2.heap.size ⟨kk, nn, (lo - 1), hi⟩ rfl HX3.out HL3.out HB3.out ?_; intro v' w6 h1 h2; have HO6 := Lib.hid h1; have HB6 := Lib.hid ((Below.refl w.heap.size _).grown h2 HB3.out (fun k hk => (World.ownsRow.lt HS3.out.own k hk).1)); clear h1 h2)
     have HS6 : Hid (LoS w (some ⟨ba, oa, none⟩) l (k + 1) v' w6) := ⟨HS3.out.bel.trans HB6.out, HS3.out.row.below (fun b o e => HA.out b o e (fun h => by have := HLT.out; rw [h] at this; simp at this)) HB6.out, by have := HO6.out; rwa [<- HN2.out] at this⟩
     go_roundw
     case rel => exact ⟨k + 1, HLT.out, by go_num, HM2.out, HS6.out⟩
     case measure => have := HLT.out; simp [intOf] <;> omega
   ·have hne : (kk == 5) = false := by simpa using h5
    have hx5 : ¬ kk = 5 := h5
    have HN2 : Hid ((l.take (k + 1)).map lowI = (l.take k).map lowI ++ [⟨kk, nn, lo, hi⟩]) := by
     unfold Hid; rw [HTK.out, List.map_append]
     congr 1
     show [lowI ⟨kk, nn, lo, hi⟩] = _
     unfold lowI; rw [if_neg h5]
    have HM2 : Hid (∀ x ∈ l.take (k + 1), maylow x = true) := fun x hx => by
     rw [HTK.out] at hx
     rcases List.mem_append.1 hx with h | h
     ·exact HM.out x h
     ·rw [List.mem_singleton.1 h]; unfold maylow; simp [h5]
    have HS2 := HS1
    have HX2 := HX1
    clear hlt h5 hx5 f2
    go_upto_region 9 with (fail)
    clear x0 x1 x2 x3 HS1 HX1 HB1 HS HNO HTK HOK
    have x0 := HX2.out.cell 0
    have x1 := HX2.out.cell 1
    have x2 := HX2.out.cell 2
    have x3 := HX2.out.cell 3
    simp at x0 x1 x2 x3
    have HZ2 : Hid (w.heap.size <= w1.heap.size) := HS2.out.bel.size
    have HS3 := Lib.hid (HS2.out.later ((Below.refl _ _).alloc (Nat.le_refl _) (.cells #[.int .i64 kk, .int .i64 nn, .int .i64 lo, .int .i64 hi] 44)))
    have HX3 : Hid (Blk (w1.alloc (.cells #[.int .i64 kk, .int .i64 nn, .int .i64 lo, .int .i64 hi] 44)) w1.heap.size (itV ⟨kk, nn, lo, hi⟩) 44) := Blk.new w1 _ _
    have hl3 : ((l.take k).map lowI).length < 1073741000 := by rw [List.length_map, List.length_take]; omega
    have hb3 : w.heap.size <= (w1.alloc (.cells #[.int .i64 kk, .int .i64 nn, .int .i64 lo, .int .i64 hi] 44)).heap.size := HS3.out.bel.size
    have HL3 := Lib.hid hl3
    have HB3 := Lib.hid hb3
    clear hl3 hb3
    go_wp2_with (at_builtin; refine wpList_append_it rfl _ _ rfl w.heap.size _ ((l.take k).map lowI) rfl HS3.out.own w1.heap.size ⟨kk, nn, lo, hi⟩ rfl HX3.out HL3.out HB3.out ?_; intro v' w6 h1 h2; have HO6 := Lib.hid h1; have HB6 := Lib.hid ((Below.refl w.heap.size _).grown h2 HB3.out (fun k hk => (World.ownsRow.lt HS3.out.own k hk).1)); clear h1 h2)
    have HS6 : Hid (LoS w (some ⟨ba, oa, none⟩) l (k + 1) v' w6) := ⟨HS3.out.bel.trans HB6.out, HS3.out.row.below (fun b o e => HA.out b o e (fun h => by have := HLT.out; rw [h] at this; simp at this)) HB6.out, by have := HO6.out; rwa [<- HN2.out] at this⟩
    go_roundw
    case rel => exact ⟨k + 1, HLT.out, by go_num, HM2.out, HS6.out⟩
    case measure => have := HLT.out; simp [intOf] <;> omega
  ·obtain rfl : k = l.length := by omega
   have hltz : ¬ ((l.length : Nat) : Int) < (l.length : Int) := by omega
   have HR : Hid (lowS l = some (l.map lowI)) := by
    unfold Hid lowS
    rw [if_pos]
    rw [List.all_eq_true]
    have := hm
    rwa [List.take_length] at this
   have HO : Hid (OwnIt wr w.heap.size (.slice av l.length cv) (l.map lowI)) := by have := hs.own; rwa [List.take_length] at this
   clear hs hm
   go_wp2
   go_ret2
   exact ⟨HS.out.bel, .inr ⟨_, _, HR.out, rfl, HO.out⟩⟩
end Go.Proofs.Ytidoofdofdhjpaa
namespace Go.Proofs.Ytidoofdofdhjpaa
open Go
theorem zig_bits {n : Int} (h1 : -9223372036854775808 <= n) (h2 : n <= 9223372036854775807) :
 bits .xor .u64 (IntKind.u64.wrap (IntKind.u64.wrap n * 2)) (IntKind.u64.wrap (n / 9223372036854775808)) = ((zig n : Nat) : Int) := by
 by_cases h : 0 <= n
 ·have e1 : IntKind.u64.wrap (IntKind.u64.wrap n * 2) = (((2 * n).toNat : Nat) : Int) := by rw [IntKind.wrap_u64, IntKind.wrap_u64]; omega
  have e2 : IntKind.u64.wrap (n / 9223372036854775808) = ((0 : Nat) : Int) := by rw [IntKind.wrap_u64]; omega
  rw [e1, e2, bits_xor_u64_nat _ _ (by omega) (by decide), Nat.xor_zero]
  unfold zig; rw [if_pos h]
 ·have e1 : IntKind.u64.wrap (IntKind.u64.wrap n * 2) = (((2 * n + 18446744073709551616).toNat : Nat) : Int) := by rw [IntKind.wrap_u64, IntKind.wrap_u64]; omega
  have e2 : IntKind.u64.wrap (n / 9223372036854775808) = ((2 ^ 64 - 1 : Nat) : Int) := by rw [IntKind.wrap_u64]; omega
  rw [e1, e2, bits_xor_u64_nat _ _ (by omega) (by decide), Nat.xor_comm, Lib.xor_ones64 _ (by omega)]
  unfold zig; rw [if_neg h]; omega
theorem zig_lt {n : Int} (h1 : -9223372036854775808 <= n) (h2 : n <= 9223372036854775807) : zig n < 18446744073709551616 := by unfold zig; split <;> omega
theorem or_byte {r : Nat} (h : r < 64) : bits .or .u8 64 ((r : Nat) : Int) = ((64 + r : Nat) : Int) := by
 have := (by decide +kernel : ∀ x : Fin 64, bits .or .u8 64 ((x.val : Nat) : Int) = ((64 + x.val : Nat) : Int)) ⟨r, h⟩
 exact this
end Go.Proofs.Ytidoofdofdhjpaa
namespace Go.Proofs.Ytidoofdofdhjpaa
open Go Go.RowKit
set_option linter.unusedVariables false
set_option linter.unusedSimpArgs false
set_option maxRecDepth 100000
set_option maxHeartbeats 16000000
structure AnbS (w0 : World) (B : Nat) (W : List UInt8) (v : Value) (w : World) : Prop where
 bel : Below B w0 w
 low : B <= w.heap.size
 own : Own8 w B v (nats W)
def AnP (w0 : World) (B : Nat) (W : List UInt8) (e : Ending) (w : World) : Prop := ∃ v, e = .returned v /\ AnbS w0 B W v w
def AnL (w0 : World) (B : Nat) (R : List UInt8) (v r : Value) (w : World) : Prop := ∃ (V : List UInt8) (q : Nat), q < 18446744073709551616 /\ r = .int .u64 (q : Int) /\ V ++ bytN (numB q) = R /\ AnbS w0 B V v w
theorem anum_any (W : List UInt8) (v : Value) (B : Nat) (n : Int) (h1 : -9223372036854775808 <= n) (h2 : n <= 9223372036854775807) (hl : W.length <= 1073600000) (w : World) (ho : Own8 w B v (nats W)) (hB : B <= w.heap.size) :
 Calls Try.prog 89 #[v, .int .i64 n] w (AnP w B (W ++ bytN (numB (zig n)))) := by
 obtain ⟨av, cv, rfl, -⟩ := (own_isW ho (by omega)).len
 have HS0 : Hid (AnbS w B W (.slice av W.length cv) w) := ⟨Below.refl _ _, hB, ho⟩
 clear ho hB
 have HZG := Lib.hid (zig_bits h1 h2)
 have HZL := Lib.hid (zig_lt h1 h2)
 have HLN : Hid (∀ V q, V ++ bytN (numB q) = W ++ bytN (numB (zig n)) -> V.length <= 1073600011) := fun V q e => by
  have h := congrArg List.length e
  have h3 := numB_len (r := zig n) (by have := HZL.out; omega)
  rw [List.length_append, List.length_append] at h
  unfold bytN at h
  rw [List.length_map, List.length_map] at h
  omega
 obtain ⟨z, hz⟩ : ∃ z, zig n = z := ⟨_, rfl⟩
 rw [hz] at HZL HLN HZG ⊢
 clear hz h1 h2
 obtain ⟨R, hR⟩ : ∃ R, W ++ bytN (numB z) = R := ⟨_, rfl⟩
 rw [hR] at HLN ⊢
 have HRR := Lib.hid hR
 clear hR
 go_enter Try.func89, Try.ntmps89
 go_upto_region 2 with (fail)
 rw [HZG.out]
 clear HZG
 go_loopw [0, 5] (AnL w B R) (fun _ r _ => (intOf r).toNat)
 case atStart => exact ⟨W, z, HZL.out, rfl, HRR.out, HS0.out⟩
 case round =>
  obtain ⟨V, q, hq, rfl, he, hs⟩ := hrel
  have HV := Lib.hid (HLN.out V q he)
  obtain ⟨av, cv, hvv, -⟩ := (own_isW hs.own (by have := HV.out; omega)).len
  subst hvv
  have HE := Lib.hid he
  have HS := Lib.hid hs
  clear he hs
  by_cases h64 : q < 64
  ·have hge : ¬ (q : Int) >= 64 := by omega
   have hw8 : IntKind.u8.wrap (q : Int) = (q : Int) := by rw [IntKind.wrap_u8]; omega
   have HE2 : Hid (R = V ++ [UInt8.ofNat q]) := by unfold Hid; rw [<- HE.out, numB_short h64]; rfl
   have HQ := Lib.hid h64
   clear h64
   have HS3 := Lib.hid (HS.out.own.later ((Below.refl wr.heap.size wr).alloc (Nat.le_refl _) (.cells #[.int .u8 (q : Int)] 5)))
   have HX3 := Lib.hid (Blk.new wr #[.int .u8 (q : Int)] 5)
   have HB3 := Lib.hid (Nat.le_trans HS.out.low ((Below.refl wr.heap.size wr).alloc (Nat.le_refl _) (.cells #[.int .u8 (q : Int)] 5)).size)
   have HK3 := Lib.hid (HS.out.bel.trans (((Below.refl wr.heap.size wr).alloc (Nat.le_refl _) (.cells #[.int .u8 (q : Int)] 5)).mono HS.out.low))
   have HL3 : Hid ((nats V).length < 1073741824) := by unfold Hid; rw [nats_length]; have := HV.out; omega
   go_wp2_with (at_builtin; refine wpList_append_u8 rfl _ _ rfl B _ (nats V) rfl HS3.out wr.heap.size q rfl HX3.out HL3.out HB3.out ?_; intro v' w6 h1 h2; have HO6 := Lib.hid h1; have HB6 := Lib.hid (h2 B (Nat.le_refl _)); clear h1 h2)
   have HR6 : Hid (Own8 w6 B v' (nats R)) := by
    unfold Hid; rw [HE2.out, nats_append]
    have e : nats [UInt8.ofNat q] = [q] := by unfold nats; simp; have := HQ.out; omega
    rw [e]; exact HO6.out
   go_ret
   exact ⟨v', rfl, HK3.out.trans HB6.out, Nat.le_trans HB3.out HB6.out.size, HR6.out⟩
  ·have hge : (q : Int) >= 64 := by omega
   obtain ⟨r, hr⟩ : ∃ r, q % 64 = r := ⟨_, rfl⟩
   obtain ⟨p, hp⟩ : ∃ p, q / 64 = p := ⟨_, rfl⟩
   obtain ⟨s, hs⟩ : ∃ s, 64 + r = s := ⟨_, rfl⟩
   have hr64 : r < 64 := by omega
   have hrem : (q : Int) % 64 = (r : Int) := by omega
   have hdiv : (q : Int) / 64 = (p : Int) := by omega
   have hw8 : IntKind.u8.wrap (r : Int) = (r : Int) := by rw [IntKind.wrap_u8]; omega
   have hor : bits .or .u8 64 (r : Int) = (s : Int) := by rw [or_byte hr64, hs]
   have hs256 : s < 256 := by omega
   have HE2 : Hid ((V ++ [UInt8.ofNat s]) ++ bytN (numB p) = R) := by
    unfold Hid; rw [<- HE.out, numB_long h64, hr, hp, hs]; unfold bytN; simp
   have HPQ : Hid (p < q /\ p < 18446744073709551616) := by unfold Hid; omega
   clear hr hp hs hr64
   have HS256 := Lib.hid hs256
   clear hs256 h64
   have HS3 := Lib.hid (HS.out.own.later ((Below.refl wr.heap.size wr).alloc (Nat.le_refl _) (.cells #[.int .u8 (s : Int)] 5)))
   have HX3 := Lib.hid (Blk.new wr #[.int .u8 (s : Int)] 5)
   have HB3 := Lib.hid (Nat.le_trans HS.out.low ((Below.refl wr.heap.size wr).alloc (Nat.le_refl _) (.cells #[.int .u8 (s : Int)] 5)).size)
   have HK3 := Lib.hid (HS.out.bel.trans (((Below.refl wr.heap.size wr).alloc (Nat.le_refl _) (.cells #[.int .u8 (s : Int)] 5)).mono HS.out.low))
   have HL3 : Hid ((nats V).length < 1073741824) := by unfold Hid; rw [nats_length]; have := HV.out; omega
   go_wp2_with (at_builtin; refine wpList_append_u8 rfl _ _ rfl B _ (nats V) rfl HS3.out wr.heap.size s rfl HX3.out HL3.out HB3.out ?_; intro v' w6 h1 h2; have HO6 := Lib.hid h1; have HB6 := Lib.hid (h2 B (Nat.le_refl _)); clear h1 h2)
   have HR6 : Hid (Own8 w6 B v' (nats (V ++ [UInt8.ofNat s]))) := by
    unfold Hid; rw [nats_append]
    have e : nats [UInt8.ofNat s] = [s] := by unfold nats; simp; have := HS256.out; omega
    rw [e]; exact HO6.out
   go_roundw
   case rel => exact ⟨V ++ [UInt8.ofNat s], p, HPQ.out.2, rfl, HE2.out, HK3.out.trans HB6.out, Nat.le_trans HB3.out HB6.out.size, HR6.out⟩
   case measure => have := HPQ.out.1; simp [intOf] <;> omega
end Go.Proofs.Ytidoofdofdhjpaa
namespace Go.Proofs.Ytidoofdofdhjpaa
open Go Go.RowKit
set_option linter.unusedVariables false
set_option linter.unusedSimpArgs false
theorem conv_word {W : List UInt8} {v : Value} {w : World} (h : IsW W v w) : (convert 48 9 v).run Try.prog w = .ok (.string (bs W)) w := by
 rcases h with ⟨rfl, rfl⟩ | ⟨b, off, cap, rfl, h2, h5, h3, h4⟩
 ·exact Lib.run_convert_nil_bytes w 48 9 5 0 Try.underlying48 Try.underlying5 Try.underlying9
 ·refine Lib.run_convert_whole w 48 5 9 Try.underlying48 Try.underlying5 Try.underlying9 b off (bs W) (fun i hi => ?_) cap
  rw [bs_size] at hi
  rw [h4 i hi, bs_get]
  congr 3
  rw [List.getD_eq_getElem?_getD, List.getElem?_eq_getElem hi]; rfl
set_option maxRecDepth 100000
set_option maxHeartbeats 16000000
theorem wpList_make_u8 {w : World} {ops : Array Oper} {rest : List Oper} {o : Oper} {a : Act} {Q : Exit -> Act -> World -> Prop} (hgd : o.guard = none) (l c : Operand) (hop : o.op = Op.makeSlice 48 l c)
 (C : Int) (n : Nat) (hl : a.eval l = .int .i64 0) (hc : a.eval c = .int .i64 C) (hC : C = (n : Int)) (hn : n <= 1073741824)
 (hK : ∀ w', Own8 w' w.heap.size (.slice (some ⟨w.heap.size, 0, none⟩) 0 n) [] -> Below w.heap.size w w' -> wpList Try.prog ops Q rest (a.put o.dst (.slice (some ⟨w.heap.size, 0, none⟩) 0 n)) w') : wpList Try.prog ops Q (o :: rest) a w := by
 obtain ⟨ib, hib, hz0, hz1, hz2⟩ := info_parts infoU8
 exact wpList_make_own w hgd l c 48 hop w.heap.size 5 ib _ 1 Try.underlying48 hib hz0 hz1 .i64 .i64 C n hl hc hC (by rw [hz2]; omega) (by unfold maxLen; omega) (Nat.le_refl _)
  fun w' h1 h2 => hK w' h1 ⟨h2.os, h2.tape, h2.output, h2.size, fun k hk => h2.block k hk (by simp)⟩
theorem keyI_nil : keyI [] = [] := rfl
theorem keyI_len : ∀ (l : List Int), (∀ n ∈ l, -9223372036854775808 <= n /\ n <= 9223372036854775807) -> (keyI l).length <= l.length * 11
 | [], _ => Nat.le_refl _
 | n :: l, h => by
  have ih := keyI_len l fun m hm => h m (List.mem_cons_of_mem _ hm)
  have hn := h n List.mem_cons_self
  have h3 := numB_len (r := zig n) (by have := zig_lt hn.1 hn.2; omega)
  show (bytN (numB (zig n) ++ keyN l)).length <= _
  unfold bytN
  rw [List.length_map, List.length_append, List.length_cons]
  have : (keyI l).length = (keyN l).length := by unfold keyI bytN; rw [List.length_map]
  omega
theorem itsL_ok : ∀ {l : List Itm}, ItOk l -> ∀ n ∈ itsL l, -9223372036854775808 <= n /\ n <= 9223372036854775807
 | [], _, n, hn => by cases hn
 | x :: l, h, n, hn => by
  rcases List.mem_append.1 hn with hn | hn
  ·have := h x List.mem_cons_self
   simp only [itL, List.mem_cons, List.not_mem_nil, or_false] at hn
   rcases hn with rfl | rfl | rfl | rfl
   ·exact this.1
   ·exact this.2.1
   ·exact this.2.2.1
   ·exact this.2.2.2
  ·exact itsL_ok (fun y hy => h y (List.mem_cons_of_mem _ hy)) n hn
theorem ItOk.take {l : List Itm} (h : ItOk l) (k : Nat) : ItOk (l.take k) := fun x hx => h x (List.mem_of_mem_take hx)
structure KyS (w0 : World) (A : Option Addr) (l : List Itm) (V : List UInt8) (v : Value) (w : World) : Prop where
 s : AnbS w0 w0.heap.size V v w
 row : ItRow w A l
def KyL (w0 : World) (A : Option Addr) (l : List Itm) (v i : Value) (w : World) : Prop := ∃ k : Nat, k <= l.length /\ i = .int .i64 (k : Int) /\ KyS w0 A l (stK (l.take k)) v w
def KyJ (w0 : World) (A : Option Addr) (l : List Itm) (k : Nat) (x : Itm) (v j : Value) (w : World) : Prop := ∃ q : Nat, q <= 4 /\ j = .int .i64 (q : Int) /\ KyS w0 A l (stK (l.take k) ++ keyI ((itL x).take q)) v w
def KyP (w0 : World) (l : List Itm) (e : Ending) (w : World) : Prop := e = .returned (.string (bs (stK l))) /\ Below w0.heap.size w0 w
theorem AnbS.later {w0 w w' : World} {B : Nat} {W : List UInt8} {v : Value} (h : AnbS w0 B W v w) (hb : Below w.heap.size w w') : AnbS w0 B W v w' := ⟨h.bel.trans (hb.mono h.low), Nat.le_trans h.low hb.size, h.own.later hb⟩
theorem AnbS.go {w0 w w' : World} {B : Nat} {W V : List UInt8} {v u : Value} (h : AnbS w0 B W v w) (k : AnbS w B V u w') : AnbS w0 B V u w' := ⟨h.bel.trans k.bel, k.low, k.own⟩
theorem key_pre {l : List Itm} (hI : ItOk l) {k q : Nat} (hl : l.length <= 1000) (hk : k < l.length) : (stK (l.take k) ++ keyI ((itL (l.getD k it0)).take q)).length <= 1073600000 := by
 rw [List.length_append]
 have h1 := keyI_len (itsL (l.take k)) (itsL_ok (hI.take k))
 have h2 := keyI_len ((itL (l.getD k it0)).take q) fun n hn => by
  have := hI.at_ hk
  have hn := List.mem_of_mem_take hn
  simp only [itL, List.mem_cons, List.not_mem_nil, or_false] at hn
  rcases hn with rfl | rfl | rfl | rfl
  ·exact this.1
  ·exact this.2.1
  ·exact this.2.2.1
  ·exact this.2.2.2
 rw [itsL_length, List.length_take] at h1
 have h3 : ((itL (l.getD k it0)).take q).length <= 4 := by rw [List.length_take]; exact Nat.min_le_right _ _
 show (keyI (itsL (l.take k))).length + _ <= _
 omega
theorem key_next {l : List Itm} {k : Nat} (hk : k < l.length) : stK (l.take (k + 1)) = stK (l.take k) ++ keyI (itL (l.getD k it0)) := by
 rw [take_it hk]; unfold stK; rw [itsL_append, keyI_append]
 congr 2
theorem key_step {V : List UInt8} {L : List Int} {q : Nat} (hq : q < L.length) : V ++ keyI (L.take (q + 1)) = (V ++ keyI (L.take q)) ++ bytN (numB (zig (L.getD q 0))) := by
 rw [List.take_succ_eq_append_getElem hq, keyI_snoc, List.append_assoc, List.getD_eq_getElem?_getD, List.getElem?_eq_getElem hq]; rfl
theorem itL_ok {x : Itm} (h : (-9223372036854775808 <= x.kind /\ x.kind <= 9223372036854775807) /\ (-9223372036854775808 <= x.node /\ x.node <= 9223372036854775807) /\ (-9223372036854775808 <= x.lo /\ x.lo <= 9223372036854775807) /\ (-9223372036854775808 <= x.hi /\ x.hi <= 9223372036854775807)) {q : Nat} (hq : q < 4) : -9223372036854775808 <= (itL x).getD q 0 /\ (itL x).getD q 0 <= 9223372036854775807 := by
 have : q = 0 \/ q = 1 \/ q = 2 \/ q = 3 := by omega
 rcases this with rfl | rfl | rfl | rfl
 ·exact h.1
 ·exact h.2.1
 ·exact h.2.2.1
 ·exact h.2.2.2
theorem ikey_any (l : List Itm) (A : Option Addr) (c : Nat) (hl : l.length <= 1000) (hI : ItOk l) (w : World) (hrow : ItRow w A l) :
 Calls Try.prog 70 #[.slice A l.length c] w (KyP w l) := by
 have HI := Lib.hid hI
 have HRW := Lib.hid hrow
 have HA : Hid (∀ b o, A = some ⟨b, o, none⟩ -> l ≠ [] -> b < w.heap.size) := fun b o e hne => by
  obtain ⟨b', o', e', h, -⟩ := hrow 0 (List.length_pos_iff.2 hne)
  rw [e] at e'; cases e'; exact h
 have HKL : Hid ((stK l).length <= 11 * 4 * 1000) := by
  have h1 := keyI_len (itsL l) (itsL_ok hI)
  rw [itsL_length] at h1
  show (keyI (itsL l)).length <= _
  omega
 clear hI hrow
 go_enter Try.func70, Try.ntmps70
 go_upto_region 1 with (fail)
 go_upto_region 2 with (refine wpList_make_u8 rfl _ _ rfl _ (6 * l.length) rfl rfl (by omega) (by omega) ?_; intro w1 ho1 hb1; have HO1 := Lib.hid ho1; have HB1 := Lib.hid hb1; clear ho1 hb1)
 have HS0 : Hid (KyS w A l (stK (l.take 0)) (.slice (some ⟨w.heap.size, 0, none⟩) 0 (6 * l.length)) w1) := ⟨⟨HB1.out, HB1.out.size, HO1.out⟩, HRW.out.later HB1.out⟩
 clear HO1 HB1 HRW
 go_wp2
 go_loopw [3, 14] (KyL w A l) (fun _ i _ => l.length - (intOf i).toNat)
 case atStart => exact ⟨0, Nat.zero_le _, rfl, HS0.out⟩
 case round =>
  obtain ⟨k, hk, rfl, hs⟩ := hrel
  have HS := Lib.hid hs
  by_cases hlt : k < l.length
  ·have hltz : (k : Int) < (l.length : Int) := by omega
   obtain ⟨ba, oa, rfl, hba, xa⟩ := hs.row.four hlt
   have HOK := Lib.hid (HI.out.at_ hlt)
   have HPR := Lib.hid (fun q => key_pre (q := q) HI.out hl hlt)
   have HNX := Lib.hid (key_next hlt)
   clear hs
   generalize l.getD k it0 = x at *
   unfold At4 at xa
   obtain ⟨x0, x1, x2, x3⟩ := xa
   go_upto_region 5 with (fail)
   have hb1 := (Below.refl wr.heap.size wr).alloc (Nat.le_refl _) (.cells #[.int .i64 x.kind, .int .i64 x.node, .int .i64 x.lo, .int .i64 x.hi] 44)
   have HS1 := Lib.hid (show KyJ w (some ⟨ba, oa, none⟩) l k x _ (.int .i64 0) _ from ⟨0, by omega, rfl, by rw [show (itL x).take 0 = [] from rfl, keyI_nil, List.append_nil]; exact ⟨HS.out.s.later hb1, HS.out.row.later hb1⟩⟩)
   have HX1 := Lib.hid (Blk.new wr #[.int .i64 x.kind, .int .i64 x.node, .int .i64 x.lo, .int .i64 x.hi] 44)
   have HLT := Lib.hid hlt
   clear hb1 x0 x1 x2 x3 HS hlt
   generalize wr.alloc (.cells #[.int .i64 x.kind, .int .i64 x.node, .int .i64 x.lo, .int .i64 x.hi] 44) = w2 at HS1 HX1 ⊢
   have x0 := HX1.out.cell 0
   have x1 := HX1.out.cell 1
   have x2 := HX1.out.cell 2
   have x3 := HX1.out.cell 3
   simp at x0 x1 x2 x3
   go_wp2
   clear x0 x1 x2 x3 HX1
   go_loopw [3, 27] (KyJ w (some ⟨ba, oa, none⟩) l k x) (fun _ j _ => 4 - (intOf j).toNat)
   case atStart => exact HS1.out
   case round =>
    obtain ⟨q, hq, rfl, hs⟩ := hrel
    have HS := Lib.hid hs
    clear hs
    by_cases hq4 : q < 4
    ·have HC := Lib.hid (anum_any _ _ w.heap.size ((itL x).getD q 0) (itL_ok HOK.out hq4).1 (itL_ok HOK.out hq4).2 (HPR.out q) _ HS.out.s.own HS.out.s.low)
     have HN := Lib.hid (key_step (V := stK (l.take k)) (L := itL x) (q := q) hq4)
     have h4 : q = 0 \/ q = 1 \/ q = 2 \/ q = 3 := by omega
     rcases h4 with rfl | rfl | rfl | rfl
     ·
      have hix : ∀ w, (Instr.index 136 (.agg #[.int .i64 x.kind, .int .i64 x.node, .int .i64 x.lo, .int .i64 x.hi]) (.int .i64 0)).run Try.prog w = .ok (.int .i64 x.kind) w := fun w => by kernel_rfl
      have HC2 := Lib.hid (show Calls Try.prog 89 #[_, .int .i64 x.kind] _ _ from HC.out)
      clear HC
      go_wp2_with fail
      refine HC2.out.mono ?_; rintro e w3 ⟨v3, rfl, hs3⟩
      have HS3 : Hid (KyS w (some ⟨ba, oa, none⟩) l (stK (l.take k) ++ keyI ((itL x).take (0 + 1))) v3 w3) := by
       unfold Hid; rw [HN.out]
       exact ⟨HS.out.s.go hs3, HS.out.row.below (fun b o e => HA.out b o e (fun h => by have := HLT.out; rw [h] at this; simp at this)) hs3.bel⟩
      clear hs3
      go_wp2
      go_roundw
      case rel => exact ⟨0 + 1, by omega, by go_num, HS3.out⟩
      case measure => simp [intOf]
     ·
      have hix : ∀ w, (Instr.index 136 (.agg #[.int .i64 x.kind, .int .i64 x.node, .int .i64 x.lo, .int .i64 x.hi]) (.int .i64 1)).run Try.prog w = .ok (.int .i64 x.node) w := fun w => by kernel_rfl
      have HC2 := Lib.hid (show Calls Try.prog 89 #[_, .int .i64 x.node] _ _ from HC.out)
      clear HC
      go_wp2_with fail
      refine HC2.out.mono ?_; rintro e w3 ⟨v3, rfl, hs3⟩
      have HS3 : Hid (KyS w (some ⟨ba, oa, none⟩) l (stK (l.take k) ++ keyI ((itL x).take (1 + 1))) v3 w3) := by
       unfold Hid; rw [HN.out]
       exact ⟨HS.out.s.go hs3, HS.out.row.below (fun b o e => HA.out b o e (fun h => by have := HLT.out; rw [h] at this; simp at this)) hs3.bel⟩
      clear hs3
      go_wp2
      go_roundw
      case rel => exact ⟨1 + 1, by omega, by go_num, HS3.out⟩
      case measure => simp [intOf]
     ·
      have hix : ∀ w, (Instr.index 136 (.agg #[.int .i64 x.kind, .int .i64 x.node, .int .i64 x.lo, .int .i64 x.hi]) (.int .i64 2)).run Try.prog w = .ok (.int .i64 x.lo) w := fun w => by kernel_rfl
      have HC2 := Lib.hid (show Calls Try.prog 89 #[_, .int .i64 x.lo] _ _ from HC.out)
      clear HC
      go_wp2_with fail
      refine HC2.out.mono ?_; rintro e w3 ⟨v3, rfl, hs3⟩
      have HS3 : Hid (KyS w (some ⟨ba, oa, none⟩) l (stK (l.take k) ++ keyI ((itL x).take (2 + 1))) v3 w3) := by
       unfold Hid; rw [HN.out]
       exact ⟨HS.out.s.go hs3, HS.out.row.below (fun b o e => HA.out b o e (fun h => by have := HLT.out; rw [h] at this; simp at this)) hs3.bel⟩
      clear hs3
      go_wp2
      go_roundw
      case rel => exact ⟨2 + 1, by omega, by go_num, HS3.out⟩
      case measure => simp [intOf]
     ·
      have hix : ∀ w, (Instr.index 136 (.agg #[.int .i64 x.kind, .int .i64 x.node, .int .i64 x.lo, .int .i64 x.hi]) (.int .i64 3)).run Try.prog w = .ok (.int .i64 x.hi) w := fun w => by kernel_rfl
      have HC2 := Lib.hid (show Calls Try.prog 89 #[_, .int .i64 x.hi] _ _ from HC.out)
      clear HC
      go_wp2_with fail
      refine HC2.out.mono ?_; rintro e w3 ⟨v3, rfl, hs3⟩
      have HS3 : Hid (KyS w (some ⟨ba, oa, none⟩) l (stK (l.take k) ++ keyI ((itL x).take (3 + 1))) v3 w3) := by
       unfold Hid; rw [HN.out]
       exact ⟨HS.out.s.go hs3, HS.out.row.below (fun b o e => HA.out b o e (fun h => by have := HLT.out; rw [h] at this; simp at this)) hs3.bel⟩
      clear hs3
      go_wp2
      go_roundw
      case rel => exact ⟨3 + 1, by omega, by go_num, HS3.out⟩
      case measure => simp [intOf]
    ·obtain rfl : q = 4 := by omega
     have HS9 := HS.out
     rw [show (itL x).take 4 = itL x from rfl, <- HNX.out] at HS9
     have HS9 := Lib.hid HS9
     clear HS
     go_wp2
     go_roundw
     case rel => exact ⟨k + 1, HLT.out, by go_num, HS9.out⟩
     case measure => have := HLT.out; simp [intOf] <;> omega
  ·obtain rfl : k = l.length := by omega
   have hltz : ¬ ((l.length : Nat) : Int) < (l.length : Int) := by omega
   have HO := hs.s.own
   rw [List.take_length] at HO
   have hcv := conv_word (own_isW HO (by have := HKL.out; omega))
   have HB := Lib.hid hs.s.bel
   clear hs HO
   go_wp2
   go_ret
   exact ⟨rfl, HB.out⟩
end Go.Proofs.Ytidoofdofdhjpaa
namespace Go.Proofs.Ytidoofdofdhjpaa
open Go
set_option linter.unusedVariables false
set_option linter.unusedSimpArgs false
def partS (S : List Nat) (a : Int) : Nat := if 0 <= a /\ a < (S.length : Int) then S.getD a.toNat 0 else 0
end Go.Proofs.Ytidoofdofdhjpaa
