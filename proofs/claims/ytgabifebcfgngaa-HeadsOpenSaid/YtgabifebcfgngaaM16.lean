/- Lowered: walked. -/
import Derived.Test.YtgabifebcfgngaaM15
import Derived.Test.YtgabifebcfgngaaM11
import Derived.Lib.Zigzag
namespace Go.Proofs.Ytgabifebcfgngaa
open Go Go.RowKit
set_option linter.unusedVariables false
set_option linter.unusedSimpArgs false
set_option maxRecDepth 100000
set_option maxHeartbeats 16000000

theorem ItRow.below {w w' : World} {B : Nat} {A : Option Addr} {l : List Itm} (h : ItRow w A l) (hlt : ∀ b o, A = some ⟨b, o, none⟩ → b < B) (hb : Below B w w') : ItRow w' A l := fun i hi => by
  obtain ⟨b, off, ha, h2, hc⟩ := h i hi
  exact ⟨b, off, ha, Nat.lt_of_lt_of_le h2 hb.size, fun j hj => (hb.cell (p := ⟨b, off + i * 4 + j, none⟩) (hlt b off ha)).trans (hc j hj)⟩
/-- Numbers that an int holds. -/
def ItOk (l : List Itm) : Prop := ∀ x ∈ l, (-9223372036854775808 ≤ x.kind ∧ x.kind ≤ 9223372036854775807) ∧ (-9223372036854775808 ≤ x.node ∧ x.node ≤ 9223372036854775807) ∧ (-9223372036854775808 ≤ x.lo ∧ x.lo ≤ 9223372036854775807) ∧ (-9223372036854775808 ≤ x.hi ∧ x.hi ≤ 9223372036854775807)
theorem ItOk.at_ {l : List Itm} (h : ItOk l) {k : Nat} (hk : k < l.length) : (-9223372036854775808 ≤ (l.getD k it0).kind ∧ (l.getD k it0).kind ≤ 9223372036854775807) ∧ (-9223372036854775808 ≤ (l.getD k it0).node ∧ (l.getD k it0).node ≤ 9223372036854775807) ∧ (-9223372036854775808 ≤ (l.getD k it0).lo ∧ (l.getD k it0).lo ≤ 9223372036854775807) ∧ (-9223372036854775808 ≤ (l.getD k it0).hi ∧ (l.getD k it0).hi ≤ 9223372036854775807) := h _ (by
  rw [List.getD_eq_getElem?_getD, List.getElem?_eq_getElem hk]; exact List.getElem_mem hk)
theorem take_it {l : List Itm} {k : Nat} (hk : k < l.length) : l.take (k + 1) = l.take k ++ [l.getD k it0] := by
  rw [List.take_succ_eq_append_getElem hk, List.getD_eq_getElem?_getD, List.getElem?_eq_getElem hk]; rfl
end Go.Proofs.Ytgabifebcfgngaa
/- Items, and rows of items, opened as arguments: for seats of plain rows. -/
namespace Go.Proofs.Ytgabifebcfgngaa
open Go Go.RowKit Go.ChangeShapes Go.WideShapes Go.ChangeAt Go.Joins
set_option maxRecDepth 100000
set_option linter.unusedVariables false
set_option linter.unusedSimpArgs false

theorem it_wf {a : Int} (h : (Lit.int .i64 a).wf = true) : -9223372036854775808 ≤ a ∧ a ≤ 9223372036854775807 := by
  simpa [Lit.wf, IntKind.min, IntKind.max, IntKind.signed, IntKind.bits] using h
section
variable {H : Type} {enc : TypeId × Value → H} {W : World} {base : Nat} {v : Value} {d : DataW H} {p : List MemPlace}
theorem cellsIt : Try.prog.cellsOf 43 = 4 := by kernel_rfl
theorem cellsI4 : Try.prog.cellsOf 3 = 1 := by kernel_rfl
theorem item_words {n : Nat} {cs : List Value} {x : DataW H × List MemPlace} (hlen : cs.length = 4) (h : DataW.trod enc Try.prog W 0 (fun _ => true) true n 43 cs = some x) :
    ∃ it : Itm, (∀ j, j < 4 → cs[j]? = (itV it)[j]?) ∧ ItOk [it] := by
  obtain ⟨xs, m, _, rfl, _, hn, hel⟩ := DataW.trod_struct Try.underlying43 h
  match cs, hlen with
  | [c0, c1, c2, c3], _ =>
    match xs, hn with
    | [y0, y1, y2, y3], _ =>
      have e0 : DataW.trod enc Try.prog W 0 (fun _ => true) true m 3 [c0] = some y0 := by have h := hel 0 _ rfl; simp [cellsI4] at h; exact h
      have e1 : DataW.trod enc Try.prog W 0 (fun _ => true) true m 3 [c1] = some y1 := by have h := hel 1 _ rfl; simp [cellsI4] at h; exact h
      have e2 : DataW.trod enc Try.prog W 0 (fun _ => true) true m 3 [c2] = some y2 := by have h := hel 2 _ rfl; simp [cellsI4] at h; exact h
      have e3 : DataW.trod enc Try.prog W 0 (fun _ => true) true m 3 [c3] = some y3 := by have h := hel 3 _ rfl; simp [cellsI4] at h; exact h
      obtain ⟨a0, h0, _, f0⟩ := DataW.trod_int Try.underlying3 e0
      obtain ⟨a1, h1, _, f1⟩ := DataW.trod_int Try.underlying3 e1
      obtain ⟨a2, h2, _, f2⟩ := DataW.trod_int Try.underlying3 e2
      obtain ⟨a3, h3, _, f3⟩ := DataW.trod_int Try.underlying3 e3
      simp at h0 h1 h2 h3
      subst h0 h1 h2 h3
      refine ⟨⟨a0, a1, a2, a3⟩, fun j hj => ?_, fun x hx => ?_⟩
      · unfold itV
        rcases (by omega : j = 0 ∨ j = 1 ∨ j = 2 ∨ j = 3) with rfl | rfl | rfl | rfl <;> rfl
      · rw [List.mem_singleton.1 hx]
        exact ⟨it_wf f0, it_wf f1, it_wf f2, it_wf f3⟩
theorem open_items (hv : Value.okWide Try.prog W .any base 30 v) (h : DataW.Trod enc Try.prog W 0 (fun _ => true) true 30 v d p) :
    ∃ (l : List Itm) (A : Option Addr) (C : Nat), v = .slice A l.length C ∧ ItRow W A l ∧ l.length ≤ C ∧ l.length ≤ 9223372036854775807 ∧ ItOk l := by
  obtain ⟨a0, len, cap, rfl⟩ := okWide_slice Try.underlying30 hv
  obtain ⟨fuel, hf⟩ := h
  rcases Go.Deep.open_slice Try.underlying30 hf with ⟨hcs, _⟩ | ⟨x, ln, cp, m, n', D, Pl, hcs, hb, hl, hm, hmm, hx, hi⟩
  · simp [Value.cells] at hcs
    obtain ⟨rfl, rfl, rfl⟩ := hcs
    exact ⟨[], none, 0, rfl, ItRow.nil _ _, Nat.le_refl _, by simp, fun n hn => by cases hn⟩
  · simp [Value.cells] at hcs
    obtain ⟨rfl, rfl, rfl⟩ := hcs
    simp only [if_true] at hmm
    subst hmm
    unfold maxLen at hm
    have key : ∀ i, i < len → ∃ it : Itm, (∀ j, j < 4 → W.cell? (x.add (i * 4 + j)) = (itV it)[j]?) ∧ ItOk [it] := by
      intro i hil
      obtain ⟨cs', hc, ht⟩ := hi i (by omega)
      rw [cellsIt] at hc
      obtain ⟨_, hcl, hat⟩ := World.cells?_some hc
      obtain ⟨it, h1, h2⟩ := item_words hcl ht
      exact ⟨it, fun j hj => by rw [← Go.Deep.add_add, hat j hj, h1 j hj], h2⟩
    let f : Nat → Itm := fun i => if h : i < len then Classical.choose (key i h) else it0
    have hfs : ∀ i (hil : i < len), (∀ j, j < 4 → W.cell? (x.add (i * 4 + j)) = (itV (f i))[j]?) ∧ ItOk [f i] := fun i hil => by
      have hfi : f i = Classical.choose (key i hil) := by simp [f, hil]
      rw [hfi]; exact Classical.choose_spec (key i hil)
    have hfl : ((List.range len).map f).length = len := by simp
    refine ⟨(List.range len).map f, some x, m, by rw [hfl], fun i hil => ?_, by rw [hfl]; exact hl, by rw [hfl]; omega, fun it hit => ?_⟩
    · rw [hfl] at hil
      have hgd : ((List.range len).map f).getD i it0 = f i := by simp [hil]
      have hs := (hfs i hil).1
      obtain ⟨b, off, spot⟩ := x
      have hc00 := (hfs 0 (by omega)).1 0 (by omega)
      have hspot : spot = none := by
        have hc : (itV (f 0))[0]? = some (.int .i64 (f 0).kind) := rfl
        rw [hc] at hc00
        simpa [Addr.add] using World.cell?_spot hc00
      subst hspot
      have hadd : ∀ k, (⟨b, off, none⟩ : Addr).add k = ⟨b, off + k, none⟩ := fun k => by cases k <;> simp [Addr.add]
      refine ⟨b, off, rfl, ?_, fun j hj => ?_⟩
      · have hc : (itV (f i))[0]? = some (.int .i64 (f i).kind) := rfl
        have := hs 0 (by omega)
        rw [hc] at this
        have := World.block_lt_of_cell? W _ this
        rw [hadd] at this; exact this
      · have := hs j hj
        rw [hadd] at this
        rw [hgd, Nat.add_assoc]; exact this
    · obtain ⟨i, hi2, rfl⟩ := List.mem_map.1 hit
      exact (hfs i (List.mem_range.1 hi2)).2 _ (List.mem_singleton.2 rfl)
end
end Go.Proofs.Ytgabifebcfgngaa
/- How the keys' numbers are reckoned. -/
namespace Go.Proofs.Ytgabifebcfgngaa
open Go

theorem zig_bits {n : Int} (h1 : -9223372036854775808 ≤ n) (h2 : n ≤ 9223372036854775807) :
    bits .xor .u64 (IntKind.u64.wrap (IntKind.u64.wrap n * 2)) (IntKind.u64.wrap (n / 9223372036854775808)) = ((zig n : Nat) : Int) := by
  by_cases h : 0 ≤ n
  · have e1 : IntKind.u64.wrap (IntKind.u64.wrap n * 2) = (((2 * n).toNat : Nat) : Int) := by rw [IntKind.wrap_u64, IntKind.wrap_u64]; omega
    have e2 : IntKind.u64.wrap (n / 9223372036854775808) = ((0 : Nat) : Int) := by rw [IntKind.wrap_u64]; omega
    rw [e1, e2, bits_xor_u64_nat _ _ (by omega) (by decide), Nat.xor_zero]
    unfold zig; rw [if_pos h]
  · have e1 : IntKind.u64.wrap (IntKind.u64.wrap n * 2) = (((2 * n + 18446744073709551616).toNat : Nat) : Int) := by rw [IntKind.wrap_u64, IntKind.wrap_u64]; omega
    have e2 : IntKind.u64.wrap (n / 9223372036854775808) = ((2 ^ 64 - 1 : Nat) : Int) := by rw [IntKind.wrap_u64]; omega
    rw [e1, e2, bits_xor_u64_nat _ _ (by omega) (by decide), Nat.xor_comm, Lib.xor_ones64 _ (by omega)]
    unfold zig; rw [if_neg h]; omega
theorem zig_lt {n : Int} (h1 : -9223372036854775808 ≤ n) (h2 : n ≤ 9223372036854775807) : zig n < 18446744073709551616 := by unfold zig; split <;> omega
theorem or_byte {r : Nat} (h : r < 64) : bits .or .u8 64 ((r : Nat) : Int) = ((64 + r : Nat) : Int) := by
  have := (by decide +kernel : ∀ x : Fin 64, bits .or .u8 64 ((x.val : Nat) : Int) = ((64 + x.val : Nat) : Int)) ⟨r, h⟩
  exact this
end Go.Proofs.Ytgabifebcfgngaa
/- A number laid behind bytes: walked. -/
namespace Go.Proofs.Ytgabifebcfgngaa
open Go Go.RowKit
set_option linter.unusedVariables false
set_option linter.unusedSimpArgs false
set_option maxRecDepth 100000
set_option maxHeartbeats 16000000

structure AnbS (w0 : World) (B : Nat) (W : List UInt8) (v : Value) (w : World) : Prop where
  bel : Below B w0 w
  low : B ≤ w.heap.size
  own : Own8 w B v (nats W)
def AnP (w0 : World) (B : Nat) (W : List UInt8) (e : Ending) (w : World) : Prop := ∃ v, e = .returned v ∧ AnbS w0 B W v w
def AnL (w0 : World) (B : Nat) (R : List UInt8) (v r : Value) (w : World) : Prop := ∃ (V : List UInt8) (q : Nat), q < 18446744073709551616 ∧ r = .int .u64 (q : Int) ∧ V ++ bytN (numB q) = R ∧ AnbS w0 B V v w
theorem anum_any (W : List UInt8) (v : Value) (B : Nat) (n : Int) (h1 : -9223372036854775808 ≤ n) (h2 : n ≤ 9223372036854775807) (hl : W.length ≤ 1073600000) (w : World) (ho : Own8 w B v (nats W)) (hB : B ≤ w.heap.size) :
    Calls Try.prog 53 #[v, .int .i64 n] w (AnP w B (W ++ bytN (numB (zig n)))) := by
  obtain ⟨av, cv, rfl, -⟩ := (own_isW ho (by omega)).len
  have HS0 : Hid (AnbS w B W (.slice av W.length cv) w) := ⟨Below.refl _ _, hB, ho⟩
  clear ho hB
  have HZG := Lib.hid (zig_bits h1 h2)
  have HZL := Lib.hid (zig_lt h1 h2)
  have HLN : Hid (∀ V q, V ++ bytN (numB q) = W ++ bytN (numB (zig n)) → V.length ≤ 1073600011) := fun V q e => by
    have h := congrArg List.length e
    have h3 := numB_len (r := zig n) (by have := HZL.out; omega)
    rw [List.length_append, List.length_append] at h
    unfold bytN at h
    rw [List.length_map, List.length_map] at h
    omega
  obtain ⟨z, hz⟩ : ∃ z, zig n = z := ⟨_, rfl⟩
  rw [hz] at HZL HLN HZG ⊢
  clear hz h1 h2
  obtain ⟨R, hR⟩ : ∃ R, W ++ bytN (numB z) = R := ⟨_, rfl⟩
  rw [hR] at HLN ⊢
  have HRR := Lib.hid hR
  clear hR
  go_enter Try.func53, Try.ntmps53
  go_upto_region 2 with (fail)
  rw [HZG.out]
  clear HZG
  go_loopw [0, 5] (AnL w B R) (fun _ r _ => (intOf r).toNat)
  case atStart => exact ⟨W, z, HZL.out, rfl, HRR.out, HS0.out⟩
  case round =>
    obtain ⟨V, q, hq, rfl, he, hs⟩ := hrel
    have HV := Lib.hid (HLN.out V q he)
    obtain ⟨av, cv, hvv, -⟩ := (own_isW hs.own (by have := HV.out; omega)).len
    subst hvv
    have HE := Lib.hid he
    have HS := Lib.hid hs
    clear he hs
    by_cases h64 : q < 64
    · have hge : ¬ (q : Int) ≥ 64 := by omega
      have hw8 : IntKind.u8.wrap (q : Int) = (q : Int) := by rw [IntKind.wrap_u8]; omega
      have HE2 : Hid (R = V ++ [UInt8.ofNat q]) := by unfold Hid; rw [← HE.out, numB_short h64]; rfl
      have HQ := Lib.hid h64
      clear h64
      have HS3 := Lib.hid (HS.out.own.later ((Below.refl wr.heap.size wr).alloc (Nat.le_refl _) (.cells #[.int .u8 (q : Int)] 5)))
      have HX3 := Lib.hid (Blk.new wr #[.int .u8 (q : Int)] 5)
      have HB3 := Lib.hid (Nat.le_trans HS.out.low ((Below.refl wr.heap.size wr).alloc (Nat.le_refl _) (.cells #[.int .u8 (q : Int)] 5)).size)
      have HK3 := Lib.hid (HS.out.bel.trans (((Below.refl wr.heap.size wr).alloc (Nat.le_refl _) (.cells #[.int .u8 (q : Int)] 5)).mono HS.out.low))
      have HL3 : Hid ((nats V).length < 1073741824) := by unfold Hid; rw [nats_length]; have := HV.out; omega
      go_wp2_with (at_builtin; refine wpList_append_u8 rfl _ _ rfl B _ (nats V) rfl HS3.out wr.heap.size q rfl HX3.out HL3.out HB3.out ?_; intro v' w6 h1 h2; have HO6 := Lib.hid h1; have HB6 := Lib.hid (h2 B (Nat.le_refl _)); clear h1 h2)
      have HR6 : Hid (Own8 w6 B v' (nats R)) := by
        unfold Hid; rw [HE2.out, nats_append]
        have e : nats [UInt8.ofNat q] = [q] := by unfold nats; simp; have := HQ.out; omega
        rw [e]; exact HO6.out
      go_ret
      exact ⟨v', rfl, HK3.out.trans HB6.out, Nat.le_trans HB3.out HB6.out.size, HR6.out⟩
    · have hge : (q : Int) ≥ 64 := by omega
      obtain ⟨r, hr⟩ : ∃ r, q % 64 = r := ⟨_, rfl⟩
      obtain ⟨p, hp⟩ : ∃ p, q / 64 = p := ⟨_, rfl⟩
      obtain ⟨s, hs⟩ : ∃ s, 64 + r = s := ⟨_, rfl⟩
      have hr64 : r < 64 := by omega
      have hrem : (q : Int) % 64 = (r : Int) := by omega
      have hdiv : (q : Int) / 64 = (p : Int) := by omega
      have hw8 : IntKind.u8.wrap (r : Int) = (r : Int) := by rw [IntKind.wrap_u8]; omega
      have hor : bits .or .u8 64 (r : Int) = (s : Int) := by rw [or_byte hr64, hs]
      have hs256 : s < 256 := by omega
      have HE2 : Hid ((V ++ [UInt8.ofNat s]) ++ bytN (numB p) = R) := by
        unfold Hid; rw [← HE.out, numB_long h64, hr, hp, hs]; unfold bytN; simp
      have HPQ : Hid (p < q ∧ p < 18446744073709551616) := by unfold Hid; omega
      clear hr hp hs hr64
      have HS256 := Lib.hid hs256
      clear hs256 h64
      have HS3 := Lib.hid (HS.out.own.later ((Below.refl wr.heap.size wr).alloc (Nat.le_refl _) (.cells #[.int .u8 (s : Int)] 5)))
      have HX3 := Lib.hid (Blk.new wr #[.int .u8 (s : Int)] 5)
      have HB3 := Lib.hid (Nat.le_trans HS.out.low ((Below.refl wr.heap.size wr).alloc (Nat.le_refl _) (.cells #[.int .u8 (s : Int)] 5)).size)
      have HK3 := Lib.hid (HS.out.bel.trans (((Below.refl wr.heap.size wr).alloc (Nat.le_refl _) (.cells #[.int .u8 (s : Int)] 5)).mono HS.out.low))
      have HL3 : Hid ((nats V).length < 1073741824) := by unfold Hid; rw [nats_length]; have := HV.out; omega
      go_wp2_with (at_builtin; refine wpList_append_u8 rfl _ _ rfl B _ (nats V) rfl HS3.out wr.heap.size s rfl HX3.out HL3.out HB3.out ?_; intro v' w6 h1 h2; have HO6 := Lib.hid h1; have HB6 := Lib.hid (h2 B (Nat.le_refl _)); clear h1 h2)
      have HR6 : Hid (Own8 w6 B v' (nats (V ++ [UInt8.ofNat s]))) := by
        unfold Hid; rw [nats_append]
        have e : nats [UInt8.ofNat s] = [s] := by unfold nats; simp; have := HS256.out; omega
        rw [e]; exact HO6.out
      go_roundw
      case rel => exact ⟨V ++ [UInt8.ofNat s], p, HPQ.out.2, rfl, HE2.out, HK3.out.trans HB6.out, Nat.le_trans HB3.out HB6.out.size, HR6.out⟩
      case measure => have := HPQ.out.1; simp [intOf] <;> omega
end Go.Proofs.Ytgabifebcfgngaa
