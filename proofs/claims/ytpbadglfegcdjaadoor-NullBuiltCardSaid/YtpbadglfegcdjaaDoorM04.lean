/- The call 'awake' of the statements of layer 1 answers true. -/
import Derived.Test.YtpbadglfegcdjaaDoorM02
import Derived.Test.YtpbadglfegcdjaaDoorM03
import Derived.Deep.Cut
import Derived.Test.YtpbadglfegcdjaaDoorCards
import Derived.Test.YtpbadglfegcdjaaDoorTie
import Derived.ProofKit
import Derived.OpenShut
import Derived.ChangeOld
import Derived.Below
import Derived.Deep.DeepHandedRow
import Derived.Lib.LaidTab
import Derived.Lib.SmallJoins
import Derived.Deep.Slices
namespace Go.Proofs.YtpbadglfegcdjaaDoor
open Go Go.RowKit
set_option linter.unusedVariables false

theorem least97 : IsLeast (rowB 97 99) 97 := ⟨by decide, by rw [rowB_bit _ _ _ (by decide)]; decide, fun j hj => by rw [rowB_bit _ _ _ (by omega)]; simp; omega⟩

theorem lit0 : Value.agg #[.int .u64 0, .int .u64 0, .int .u64 0, .int .u64 0] = cls 0#256 := by
  unfold cls
  rw [show wd 0#256 0 = 0 by decide, show wd 0#256 1 = 0 by decide, show wd 0#256 2 = 0 by decide, show wd 0#256 3 = 0 by decide]; rfl
theorem lit1 : Value.agg #[.int .u64 1, .int .u64 0, .int .u64 0, .int .u64 9223372036854775808] = cls (addL 0#256 [0, 255]) := by
  unfold cls
  rw [show wd (addL 0#256 [0, 255]) 0 = 1 by decide +kernel, show wd (addL 0#256 [0, 255]) 1 = 0 by decide +kernel, show wd (addL 0#256 [0, 255]) 2 = 0 by decide +kernel, show wd (addL 0#256 [0, 255]) 3 = 9223372036854775808 by decide +kernel]; rfl
theorem lit22 : Value.agg #[.int .u64 22, .int .u64 0, .int .u64 0, .int .u64 0] = cls (rowB 1 2 ||| rowB 4 4) := by
  unfold cls
  rw [show wd (rowB 1 2 ||| rowB 4 4) 0 = 22 by decide +kernel, show wd (rowB 1 2 ||| rowB 4 4) 1 = 0 by decide +kernel, show wd (rowB 1 2 ||| rowB 4 4) 2 = 0 by decide +kernel, show wd (rowB 1 2 ||| rowB 4 4) 3 = 0 by decide +kernel]; rfl
theorem lit24 : Value.agg #[.int .u64 24, .int .u64 0, .int .u64 0, .int .u64 0] = cls (rowB 1 4 &&& rowB 3 9) := by
  unfold cls
  rw [show wd (rowB 1 4 &&& rowB 3 9) 0 = 24 by decide +kernel, show wd (rowB 1 4 &&& rowB 3 9) 1 = 0 by decide +kernel, show wd (rowB 1 4 &&& rowB 3 9) 2 = 0 by decide +kernel, show wd (rowB 1 4 &&& rowB 3 9) 3 = 0 by decide +kernel]; rfl
theorem cnt97 : cntS (rowB 97 99) = 3 := by decide +kernel
theorem cnt97n : cntS (~~~rowB 97 99) = 253 := by decide +kernel
theorem row21 : rowB 2 1 = 0#256 := by decide +kernel

/-- A slice of these bytes, just laid. -/
def Two (v : Value) (w : World) : Prop := ∃ b, v = .slice (some ⟨b, 0, none⟩) 2 2 ∧ Row8 w (some ⟨b, 0, none⟩) [0, 255]
theorem Row8.later {w w' : World} {a : Option Addr} {l : List Nat} (h : Row8 w a l) (hb : Below w.heap.size w w') : Row8 w' a l :=
  ⟨h.1, h.2.1, fun i hi => by
    obtain ⟨b, off, ha, hlt, hc⟩ := h.2.2 i hi
    exact ⟨b, off, ha, Nat.lt_of_lt_of_le hlt hb.size, (hb.cell (p := ⟨b, off + i, none⟩) hlt).trans hc⟩⟩
theorem Two.later (v : Value) (w w' : World) (h : Two v w) (hb : Below w.heap.size w w') : Two v w' := by
  obtain ⟨b, hv, hr⟩ := h
  exact ⟨b, hv, hr.later hb⟩
theorem Two.new (w : World) : Two (.slice (some ⟨w.heap.size, 0, none⟩) 2 2) (w.alloc (.cells #[.int .u8 0, .int .u8 255] 5)) := by
  refine ⟨_, rfl, by simp, by simp, fun i hi => ⟨_, 0, rfl, by simp, ?_⟩⟩
  rw [(Blk.new w #[.int .u8 0, .int .u8 255] 5).cell]
  have : i = 0 ∨ i = 1 := by simp at hi; omega
  rcases this with rfl | rfl <;> rfl

end Go.Proofs.YtpbadglfegcdjaaDoor
/- The statement ClassRows of layer 1, walked: rows of bytes, two that touch, a byte added. -/
namespace Go.Proofs.YtpbadglfegcdjaaDoor
open Go Go.RowKit
set_option linter.unusedVariables false

/-! ### the sets -/
theorem cnt_row (a b : Nat) (h : a ≤ b) : ∀ n, cnt (fun i => decide (a ≤ i ∧ i ≤ b)) n = min n (b + 1) - min n a
  | 0 => by simp [cnt]
  | n + 1 => by
    have ih := cnt_row a b h n
    show cnt _ n + (if decide (a ≤ n ∧ n ≤ b) = true then 1 else 0) = _
    rw [ih]
    by_cases e : a ≤ n ∧ n ≤ b
    · simp [e]; omega
    · simp [e]; omega
theorem cntS_row (a b : Nat) (h : a ≤ b) (hb : b < 256) : cntS (rowB a b) = b + 1 - a := by
  unfold cntS
  rw [cnt_congr (q := fun i => decide (a ≤ i ∧ i ≤ b)) (fun i hi => rowB_bit a b i hi), cnt_row a b h]
  omega
theorem row_none (a b : Nat) (h : b < a) : rowB a b = 0#256 := by
  refine BitVec.eq_of_getLsbD_eq fun n hn => ?_
  rw [rowB_bit _ _ _ hn]; simp; omega
theorem least_row (a b : Nat) (h : a ≤ b) (hb : b < 256) : IsLeast (rowB a b) a :=
  ⟨by omega, by rw [rowB_bit _ _ _ (by omega)]; simp [h], fun j hj => by rw [rowB_bit _ _ _ (by omega)]; simp; omega⟩
theorem row_join (a m b : Nat) (h1 : a ≤ m) (h2 : m < b) (hb : b < 256) : rowB a m ||| rowB (m + 1) b = rowB a b := by
  refine BitVec.eq_of_getLsbD_eq fun n hn => ?_
  rw [BitVec.getLsbD_or, rowB_bit _ _ _ hn, rowB_bit _ _ _ hn, rowB_bit _ _ _ hn, ← Bool.decide_or]
  congr 1; rw [eq_iff_iff]; omega
theorem add_has (s : BitVec 256) (c : Nat) (hc : c < 256) : (s ||| one c).getLsbD c = true := by
  rw [BitVec.getLsbD_or, one_bit _ _ hc]; simp
theorem add_in (s : BitVec 256) (c : Nat) (hc : c < 256) (h : s.getLsbD c = true) : s ||| one c = s := by
  refine BitVec.eq_of_getLsbD_eq fun n hn => ?_
  rw [BitVec.getLsbD_or, one_bit _ _ hn]
  by_cases e : n = c
  · subst e; simp [h]
  · simp [e]
theorem cntS_add (s : BitVec 256) (c : Nat) (hc : c < 256) (h : s.getLsbD c = false) : cntS (s ||| one c) = cntS s + 1 := by
  have h1 := cntS_or_and s (one c)
  have h2 : s &&& one c = 0#256 := by
    refine BitVec.eq_of_getLsbD_eq fun n hn => ?_
    rw [BitVec.getLsbD_and, one_bit _ _ hn]
    by_cases e : n = c
    · subst e; simp [h]
    · simp [e]
  have h3 : cntS (one c) = 1 := by
    have : one c = rowB c c := by
      refine BitVec.eq_of_getLsbD_eq fun n hn => ?_
      rw [one_bit _ _ hn, rowB_bit _ _ _ hn]
      congr 1; rw [eq_iff_iff]; omega
    rw [this, cntS_row _ _ (Nat.le_refl _) hc]; omega
  have h4 : cntS 0#256 = 0 := by decide +kernel
  rw [h2, h3, h4] at h1
  omega
theorem and_add (s : BitVec 256) (c : Nat) : s &&& (s ||| one c) = s := by
  refine BitVec.eq_of_getLsbD_eq fun n hn => ?_
  rw [BitVec.getLsbD_and, BitVec.getLsbD_or]
  cases s.getLsbD n <;> simp

/-! ### rows of bytes just laid -/
def NewRow (l : List Nat) (v : Value) (w : World) : Prop := ∃ b, v = .slice (some ⟨b, 0, none⟩) l.length l.length ∧ Row8 w (some ⟨b, 0, none⟩) l
theorem NewRow.later (l : List Nat) (v : Value) (w w' : World) (h : NewRow l v w) (hb : Below w.heap.size w w') : NewRow l v w' := by
  obtain ⟨b, hv, hr⟩ := h
  exact ⟨b, hv, hr.later hb⟩
theorem NewRow.new (w : World) (l : List Nat) (hl : ∀ c ∈ l, c < 256) (hs : l.length ≤ 9223372036854775807) :
    NewRow l (.slice (some ⟨w.heap.size, 0, none⟩) l.length l.length) (w.alloc (.cells (l.map fun c : Nat => Value.int .u8 (c : Int)).toArray 5)) := by
  refine ⟨_, rfl, hl, hs, fun i hi => ⟨_, 0, rfl, by simp, ?_⟩⟩
  rw [(Blk.new w _ 5).cell]
  simp [hi]
theorem row_nil (w : World) : Row8 w none [] := ⟨by simp, by simp, fun i hi => by simp at hi⟩

end Go.Proofs.YtpbadglfegcdjaaDoor
/- What every proof of a statement needs around its walk: arguments opened, the table of math/bits out of the listed variables, a world for the witness. -/
namespace Go.Proofs.YtpbadglfegcdjaaDoor
open Go Go.RowKit Go.ChangeShapes Go.WideShapes Go.ChangeAt Go.Joins
set_option maxRecDepth 100000

theorem own : ownKnob Tryd.prog.godebug = none := by kernel_rfl
theorem laidOut : laidOutB Tryd.prog = true := by kernel_rfl
theorem cellsCls : Tryd.prog.cellsOf 34 = 4 := by kernel_rfl
theorem cellsU64 : Tryd.prog.cellsOf 32 = 1 := by kernel_rfl

theorem u64_nat {a : Int} (h : (Lit.int .u64 a).wf = true) : ∃ n : Nat, a = n ∧ n < 18446744073709551616 := by
  have : 0 ≤ a ∧ a ≤ 18446744073709551615 := by simpa [Lit.wf, IntKind.min, IntKind.max, IntKind.signed, IntKind.bits] using h
  exact ⟨a.toNat, by omega, by omega⟩
theorem u8_nat {a : Int} (h : (Lit.int .u8 a).wf = true) : ∃ n : Nat, a = n ∧ n < 256 := by
  have : 0 ≤ a ∧ a ≤ 255 := by simpa [Lit.wf, IntKind.min, IntKind.max, IntKind.signed, IntKind.bits] using h
  exact ⟨a.toNat, by omega, by omega⟩

section
variable {H : Type} {enc : TypeId × Value → H} {W : World} {base : Nat} {t : TypeId} {v : Value} {d : DataW H} {p : List MemPlace}
theorem open_cls (hv : Value.okWide Tryd.prog W .any base 34 v) (h : DataW.Trod enc Tryd.prog W 0 (fun _ => true) true 34 v d p) : ∃ s : BitVec 256, v = cls s := by
  unfold Value.okWide at hv
  rw [Tryd.underlying34] at hv
  obtain ⟨cs, rfl, hsz, _⟩ := hv
  obtain ⟨c0, c1, c2, c3, rfl⟩ := array4 (hsz.trans cellsCls)
  obtain ⟨fuel, hf⟩ := h
  obtain ⟨xs, m, _, _, _, hn, hel⟩ := DataW.trod_array Tryd.underlying34 hf
  have get : ∀ (i : Nat) (c : Value), i < 4 → ((Value.agg #[c0, c1, c2, c3]).cells.toList.drop (i * 1)).take 1 = [c] → ∃ n : Nat, c = .int .u64 n ∧ n < 18446744073709551616 := by
    intro i c hi hc
    have := hel i hi
    rw [cellsU64, hc] at this
    have hx : xs[i]? = some (xs[i]'(by omega)) := by simp
    rw [hx] at this
    obtain ⟨a, e, _, wf⟩ := DataW.trod_int Tryd.underlying32 this
    obtain ⟨n, rfl, hlt⟩ := u64_nat wf
    exact ⟨n, by simpa using e, hlt⟩
  obtain ⟨n0, rfl, l0⟩ := get 0 c0 (by omega) rfl
  obtain ⟨n1, rfl, l1⟩ := get 1 c1 (by omega) rfl
  obtain ⟨n2, rfl, l2⟩ := get 2 c2 (by omega) rfl
  obtain ⟨n3, rfl, l3⟩ := get 3 c3 (by omega) rfl
  obtain ⟨s, e0, e1, e2, e3⟩ := of_words n0 n1 n2 n3 l0 l1 l2 l3
  exact ⟨s, by unfold cls; rw [e0, e1, e2, e3]⟩
theorem open_u8 (hv : Value.okWide Tryd.prog W .any base 5 v) (h : DataW.Trod enc Tryd.prog W 0 (fun _ => true) true 5 v d p) : ∃ n : Nat, n < 256 ∧ v = .int .u8 (n : Int) := by
  obtain ⟨a, rfl, _, _, wf⟩ := open_int Tryd.underlying5 hv h
  obtain ⟨n, rfl, hlt⟩ := u8_nat wf
  exact ⟨n, hlt, rfl⟩
theorem places_lt (h : DataW.Trod enc Tryd.prog W 0 (fun _ => true) true t v d p) : ∀ x ∈ p, x.block < W.heap.size := by
  obtain ⟨m, hm⟩ := h
  exact DataW.trod_lt m _ _ _ hm
end

/-! ### the listed table -/
theorem cellsU8 : Tryd.prog.cellsOf 5 = 1 := by kernel_rfl
def debI : List Int := deb.map fun n : Nat => (n : Int)
end Go.Proofs.YtpbadglfegcdjaaDoor
/- The words of a class, out of its cells. -/
namespace Go.Proofs.YtpbadglfegcdjaaDoor
open Go Go.RowKit Go.ChangeShapes Go.WideShapes Go.ChangeAt Go.Joins
set_option maxRecDepth 100000
set_option linter.unusedVariables false

section
variable {H : Type} {enc : TypeId × Value → H} {W : World} {base : Nat} {v : Value} {d : DataW H} {p : List MemPlace}
theorem cls_words {n : Nat} {cs : List Value} {x : DataW H × List MemPlace} (hlen : cs.length = 4) (h : DataW.trod enc Tryd.prog W 0 (fun _ => true) true n 34 cs = some x) : ∃ s : BitVec 256, ∀ j, j < 4 → cs[j]? = some (.int .u64 (wd s j)) := by
  obtain ⟨xs, m, _, _, _, hn, hel⟩ := DataW.trod_array Tryd.underlying34 h
  match cs, hlen with
  | [c0, c1, c2, c3], _ =>
    have get : ∀ (i : Nat) (c : Value), i < 4 → (([c0, c1, c2, c3] : List Value).drop (i * 1)).take 1 = [c] → ∃ n : Nat, c = .int .u64 n ∧ n < 18446744073709551616 := by
      intro i c hi hc
      have := hel i hi
      rw [cellsU64, hc] at this
      have hx : xs[i]? = some (xs[i]'(by omega)) := by simp
      rw [hx] at this
      obtain ⟨a, e, _, wf⟩ := DataW.trod_int Tryd.underlying32 this
      obtain ⟨n, rfl, hlt⟩ := u64_nat wf
      exact ⟨n, by simpa using e, hlt⟩
    obtain ⟨n0, rfl, l0⟩ := get 0 c0 (by omega) rfl
    obtain ⟨n1, rfl, l1⟩ := get 1 c1 (by omega) rfl
    obtain ⟨n2, rfl, l2⟩ := get 2 c2 (by omega) rfl
    obtain ⟨n3, rfl, l3⟩ := get 3 c3 (by omega) rfl
    obtain ⟨s, e0, e1, e2, e3⟩ := of_words n0 n1 n2 n3 l0 l1 l2 l3
    refine ⟨s, fun j hj => ?_⟩
    rcases (by omega : j = 0 ∨ j = 1 ∨ j = 2 ∨ j = 3) with rfl | rfl | rfl | rfl
    · rw [e0]; rfl
    · rw [e1]; rfl
    · rw [e2]; rfl
    · rw [e3]; rfl
end
end Go.Proofs.YtpbadglfegcdjaaDoor
