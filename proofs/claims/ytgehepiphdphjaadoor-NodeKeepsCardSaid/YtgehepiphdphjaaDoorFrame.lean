/- What every proof of a statement needs around its walk: arguments opened, the table of math/bits out of the listed variables, a world for the witness. -/
import Derived.Test.YtgehepiphdphjaaDoorCards
import Derived.Test.YtgehepiphdphjaaDoorTie
import Derived.Test.YtgehepiphdphjaaDoorClassRowsW
import Derived.ProofKit
import Derived.OpenShut
import Derived.ChangeOld
import Derived.Below
import Derived.Deep.DeepHandedRow
import Derived.Lib.LaidTab
import Derived.Lib.SmallJoins
namespace Go.Proofs.YtgehepiphdphjaaDoor
open Go Go.RowKit Go.ChangeShapes Go.WideShapes Go.ChangeAt Go.Joins
set_option maxRecDepth 100000

theorem own : ownKnob Tryd.prog.godebug = none := by kernel_rfl
theorem laidOut : laidOutB Tryd.prog = true := by kernel_rfl
theorem cellsCls : Tryd.prog.cellsOf 29 = 4 := by kernel_rfl
theorem cellsU64 : Tryd.prog.cellsOf 27 = 1 := by kernel_rfl

theorem u64_nat {a : Int} (h : (Lit.int .u64 a).wf = true) : ∃ n : Nat, a = n ∧ n < 18446744073709551616 := by
  have : 0 ≤ a ∧ a ≤ 18446744073709551615 := by simpa [Lit.wf, IntKind.min, IntKind.max, IntKind.signed, IntKind.bits] using h
  exact ⟨a.toNat, by omega, by omega⟩
theorem u8_nat {a : Int} (h : (Lit.int .u8 a).wf = true) : ∃ n : Nat, a = n ∧ n < 256 := by
  have : 0 ≤ a ∧ a ≤ 255 := by simpa [Lit.wf, IntKind.min, IntKind.max, IntKind.signed, IntKind.bits] using h
  exact ⟨a.toNat, by omega, by omega⟩

section
variable {H : Type} {enc : TypeId × Value → H} {W : World} {base : Nat} {t : TypeId} {v : Value} {d : DataW H} {p : List MemPlace}
theorem open_cls (hv : Value.okWide Tryd.prog W .any base 29 v) (h : DataW.Trod enc Tryd.prog W 0 (fun _ => true) true 29 v d p) : ∃ s : BitVec 256, v = cls s := by
  unfold Value.okWide at hv
  rw [Tryd.underlying29] at hv
  obtain ⟨cs, rfl, hsz, _⟩ := hv
  obtain ⟨c0, c1, c2, c3, rfl⟩ := array4 (hsz.trans cellsCls)
  obtain ⟨fuel, hf⟩ := h
  obtain ⟨xs, m, _, _, _, hn, hel⟩ := DataW.trod_array Tryd.underlying29 hf
  have get : ∀ (i : Nat) (c : Value), i < 4 → ((Value.agg #[c0, c1, c2, c3]).cells.toList.drop (i * 1)).take 1 = [c] → ∃ n : Nat, c = .int .u64 n ∧ n < 18446744073709551616 := by
    intro i c hi hc
    have := hel i hi
    rw [cellsU64, hc] at this
    have hx : xs[i]? = some (xs[i]'(by omega)) := by simp
    rw [hx] at this
    obtain ⟨a, e, _, wf⟩ := DataW.trod_int Tryd.underlying27 this
    obtain ⟨n, rfl, hlt⟩ := u64_nat wf
    exact ⟨n, by simpa using e, hlt⟩
  obtain ⟨n0, rfl, l0⟩ := get 0 c0 (by omega) rfl
  obtain ⟨n1, rfl, l1⟩ := get 1 c1 (by omega) rfl
  obtain ⟨n2, rfl, l2⟩ := get 2 c2 (by omega) rfl
  obtain ⟨n3, rfl, l3⟩ := get 3 c3 (by omega) rfl
  obtain ⟨s, e0, e1, e2, e3⟩ := of_words n0 n1 n2 n3 l0 l1 l2 l3
  exact ⟨s, by unfold cls; rw [e0, e1, e2, e3]⟩
theorem open_u8 (hv : Value.okWide Tryd.prog W .any base 5 v) (h : DataW.Trod enc Tryd.prog W 0 (fun _ => true) true 5 v d p) : ∃ n : Nat, n < 256 ∧ v = .int .u8 (n : Int) := by
  obtain ⟨a, rfl, _, _, wf⟩ := open_int Tryd.underlying5 hv h
  obtain ⟨n, rfl, hlt⟩ := u8_nat wf
  exact ⟨n, hlt, rfl⟩
theorem open_bytes (hv : Value.okWide Tryd.prog W .any base 25 v) (h : DataW.Trod enc Tryd.prog W 0 (fun _ => true) true 25 v d p) :
    ∃ (l : List Nat) (A : Option Addr) (C : Nat), v = .slice A l.length C ∧ Row8 W A l ∧ l.length ≤ 9223372036854775807 := by
  obtain ⟨a0, len, cap, rfl⟩ := okWide_slice Tryd.underlying25 hv
  obtain ⟨fuel, hf⟩ := h
  rcases open_ints Tryd.underlying25 Tryd.underlying5 (by kernel_rfl) hf with ⟨hcs, _⟩ | ⟨x, l, c, zs, hcs, _, hl, hm, hz, _, hcell, hwz⟩
  · simp [Value.cells] at hcs
    obtain ⟨rfl, rfl, rfl⟩ := hcs
    exact ⟨[], none, 0, rfl, row_nil W, by simp⟩
  · simp [Value.cells] at hcs
    obtain ⟨rfl, rfl, rfl⟩ := hcs
    have hz' : zs.length = cap := by simpa using hz
    unfold maxLen at hm
    have hm2 : zs.length ≤ 9223372036854775807 := by omega
    have hlen : ((zs.take len).map Int.toNat).length = len := by simp; omega
    have hget : ∀ i, i < len → zs.getD i 0 ∈ zs ∧ ((zs.take len).map Int.toNat).getD i 0 = (zs.getD i 0).toNat := by
      intro i hi
      have h1 : i < zs.length := by omega
      have h2 : i < (zs.take len).length := by simp; omega
      constructor
      · simp [h1]
      · simp [h1, hi]
    refine ⟨(zs.take len).map Int.toNat, some x, cap, by rw [hlen], ⟨?_, by rw [hlen]; omega, ?_⟩, by rw [hlen]; omega⟩
    · intro n hn
      obtain ⟨z, hz1, rfl⟩ := List.mem_map.1 hn
      obtain ⟨m, hm1, hm2⟩ := u8_nat (hwz z (List.mem_of_mem_take hz1))
      omega
    · intro i hi
      rw [hlen] at hi
      have hc := hcell i (by omega)
      have hc0 := hcell 0 (by omega)
      obtain ⟨b, off, spot⟩ := x
      have hspot : spot = none := by simpa [Addr.add] using World.cell?_spot hc0
      subst hspot
      have ha : (⟨b, off, none⟩ : Addr).add i = ⟨b, off + i, none⟩ := by
        cases i with
        | zero => simp [Addr.add]
        | succ i => simp [Addr.add]
      rw [ha] at hc
      obtain ⟨h1, h2⟩ := hget i hi
      obtain ⟨m, hm1, hm2⟩ := u8_nat (hwz _ h1)
      refine ⟨b, off, rfl, World.block_lt_of_cell? W _ hc, ?_⟩
      rw [h2]
      have : (((zs.getD i 0).toNat : Nat) : Int) = zs.getD i 0 := by omega
      rw [this]
      exact hc
theorem places_lt (h : DataW.Trod enc Tryd.prog W 0 (fun _ => true) true t v d p) : ∀ x ∈ p, x.block < W.heap.size := by
  obtain ⟨m, hm⟩ := h
  exact DataW.trod_lt m _ _ _ hm
end

/-! ### the listed table -/
theorem gDeb : Tryd.prog.globalNamed "math/bits.deBruijn64tab" = some 2 := by kernel_rfl
theorem gDebType : (Tryd.prog.globals[2]?).map (·.type) = some 140 := by kernel_rfl
theorem cellsTab : Tryd.prog.cellsOf 140 = 64 := by kernel_rfl
theorem cellsU8 : Tryd.prog.cellsOf 5 = 1 := by kernel_rfl
def debI : List Int := deb.map fun n : Nat => (n : Int)
theorem deb_of_laid {W : World} (h : laidMetH Tryd.prog [("math/bits.deBruijn64tab", Rows.laid_math_bits_deBruijn64tab)] W) : Deb W := by
  have ht : Lib.TabIs Tryd.prog W "math/bits.deBruijn64tab" .u8 debI := Lib.tabIs_of_head (rest := []) gDeb gDebType Tryd.underlying140 Tryd.underlying5 cellsU8 cellsTab h
  have hc : ∀ i, i < 64 → W.cell? ⟨2, i, none⟩ = some (.int .u8 ((deb.getD i 0 : Nat) : Int)) := by
    intro i hi
    rw [ht.cell gDeb i (by exact hi)]
    have : debI.getD i 0 = ((deb.getD i 0 : Nat) : Int) := by
      have hl : i < deb.length := hi
      simp [debI, hl]
    rw [this]
  exact ⟨World.block_lt_of_cell? W _ (hc 0 (by omega)), hc⟩

/-- A world for a witness: the table holding what its initialiser lays. -/
noncomputable def laidWorld (os : Os) : World :=
  { World.holding Tryd.prog os ⟨#[], #[], []⟩ with heap := (World.holding Tryd.prog os ⟨#[], #[], []⟩).heap.modify 2 fun
      | .cells _ t frozen => .cells (debI.map fun z => Value.int .u8 z).toArray t frozen
      | o => o }
end Go.Proofs.YtgehepiphdphjaaDoor
