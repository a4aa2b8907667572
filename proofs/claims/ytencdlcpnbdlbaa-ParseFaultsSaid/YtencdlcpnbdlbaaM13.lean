/- What a proof of a plain row needs around its walk: arguments opened (classes, bytes, rows of tokens, descriptions), a world for the witness. -/
import Derived.Test.YtencdlcpnbdlbaaM04
import Derived.Test.YtencdlcpnbdlbaaM12
import Derived.Test.YtencdlcpnbdlbaaRows
import Derived.ProofKit
import Derived.OpenShut
import Derived.ChangeOld
import Derived.Below
import Derived.Deep.DeepHandedRow
import Derived.Lib.LaidTab
import Derived.Lib.SmallJoins
import Derived.Deep.Slices
import Derived.ChangeSame
namespace Go.Proofs.Ytencdlcpnbdlbaa
open Go Go.RowKit Go.ChangeShapes Go.WideShapes Go.ChangeAt Go.Joins
set_option maxRecDepth 100000
set_option linter.unusedVariables false
set_option linter.unusedSimpArgs false

theorem own : ownKnob Try.prog.godebug = none := by kernel_rfl
theorem laidOut : laidOutB Try.prog = true := by kernel_rfl
theorem cellsCls : Try.prog.cellsOf 34 = 4 := by kernel_rfl
theorem cellsU64 : Try.prog.cellsOf 32 = 1 := by kernel_rfl

theorem u64_nat {a : Int} (h : (Lit.int .u64 a).wf = true) : ∃ n : Nat, a = n ∧ n < 18446744073709551616 := by
  have : 0 ≤ a ∧ a ≤ 18446744073709551615 := by simpa [Lit.wf, IntKind.min, IntKind.max, IntKind.signed, IntKind.bits] using h
  exact ⟨a.toNat, by omega, by omega⟩
theorem u8_nat {a : Int} (h : (Lit.int .u8 a).wf = true) : ∃ n : Nat, a = n ∧ n < 256 := by
  have : 0 ≤ a ∧ a ≤ 255 := by simpa [Lit.wf, IntKind.min, IntKind.max, IntKind.signed, IntKind.bits] using h
  exact ⟨a.toNat, by omega, by omega⟩

section
variable {H : Type} {enc : TypeId × Value → H} {W : World} {base : Nat} {t : TypeId} {v : Value} {d : DataW H} {p : List MemPlace}
theorem open_cls (hv : Value.okWide Try.prog W .any base 34 v) (h : DataW.Trod enc Try.prog W 0 (fun _ => true) true 34 v d p) : ∃ s : BitVec 256, v = cls s := by
  unfold Value.okWide at hv
  rw [Try.underlying34] at hv
  obtain ⟨cs, rfl, hsz, _⟩ := hv
  obtain ⟨c0, c1, c2, c3, rfl⟩ := array4 (hsz.trans cellsCls)
  obtain ⟨fuel, hf⟩ := h
  obtain ⟨xs, m, _, _, _, hn, hel⟩ := DataW.trod_array Try.underlying34 hf
  have get : ∀ (i : Nat) (c : Value), i < 4 → ((Value.agg #[c0, c1, c2, c3]).cells.toList.drop (i * 1)).take 1 = [c] → ∃ n : Nat, c = .int .u64 n ∧ n < 18446744073709551616 := by
    intro i c hi hc
    have := hel i hi
    rw [cellsU64, hc] at this
    have hx : xs[i]? = some (xs[i]'(by omega)) := by simp
    rw [hx] at this
    obtain ⟨a, e, _, wf⟩ := DataW.trod_int Try.underlying32 this
    obtain ⟨n, rfl, hlt⟩ := u64_nat wf
    exact ⟨n, by simpa using e, hlt⟩
  obtain ⟨n0, rfl, l0⟩ := get 0 c0 (by omega) rfl
  obtain ⟨n1, rfl, l1⟩ := get 1 c1 (by omega) rfl
  obtain ⟨n2, rfl, l2⟩ := get 2 c2 (by omega) rfl
  obtain ⟨n3, rfl, l3⟩ := get 3 c3 (by omega) rfl
  obtain ⟨s, e0, e1, e2, e3⟩ := of_words n0 n1 n2 n3 l0 l1 l2 l3
  exact ⟨s, by unfold cls; rw [e0, e1, e2, e3]⟩
theorem open_u8 (hv : Value.okWide Try.prog W .any base 5 v) (h : DataW.Trod enc Try.prog W 0 (fun _ => true) true 5 v d p) : ∃ n : Nat, n < 256 ∧ v = .int .u8 (n : Int) := by
  obtain ⟨a, rfl, _, _, wf⟩ := open_int Try.underlying5 hv h
  obtain ⟨n, rfl, hlt⟩ := u8_nat wf
  exact ⟨n, hlt, rfl⟩
theorem places_lt (h : DataW.Trod enc Try.prog W 0 (fun _ => true) true t v d p) : ∀ x ∈ p, x.block < W.heap.size := by
  obtain ⟨m, hm⟩ := h
  exact DataW.trod_lt m _ _ _ hm
end

set_option linter.unusedVariables false

section
variable {H : Type} {enc : TypeId × Value → H} {W : World} {base : Nat} {v : Value} {d : DataW H} {p : List MemPlace}
theorem cls_words {n : Nat} {cs : List Value} {x : DataW H × List MemPlace} (hlen : cs.length = 4) (h : DataW.trod enc Try.prog W 0 (fun _ => true) true n 34 cs = some x) : ∃ s : BitVec 256, ∀ j, j < 4 → cs[j]? = some (.int .u64 (wd s j)) := by
  obtain ⟨xs, m, _, _, _, hn, hel⟩ := DataW.trod_array Try.underlying34 h
  match cs, hlen with
  | [c0, c1, c2, c3], _ =>
    have get : ∀ (i : Nat) (c : Value), i < 4 → (([c0, c1, c2, c3] : List Value).drop (i * 1)).take 1 = [c] → ∃ n : Nat, c = .int .u64 n ∧ n < 18446744073709551616 := by
      intro i c hi hc
      have := hel i hi
      rw [cellsU64, hc] at this
      have hx : xs[i]? = some (xs[i]'(by omega)) := by simp
      rw [hx] at this
      obtain ⟨a, e, _, wf⟩ := DataW.trod_int Try.underlying32 this
      obtain ⟨n, rfl, hlt⟩ := u64_nat wf
      exact ⟨n, by simpa using e, hlt⟩
    obtain ⟨n0, rfl, l0⟩ := get 0 c0 (by omega) rfl
    obtain ⟨n1, rfl, l1⟩ := get 1 c1 (by omega) rfl
    obtain ⟨n2, rfl, l2⟩ := get 2 c2 (by omega) rfl
    obtain ⟨n3, rfl, l3⟩ := get 3 c3 (by omega) rfl
    obtain ⟨s, e0, e1, e2, e3⟩ := of_words n0 n1 n2 n3 l0 l1 l2 l3
    refine ⟨s, fun j hj => ?_⟩
    rcases (by omega : j = 0 ∨ j = 1 ∨ j = 2 ∨ j = 3) with rfl | rfl | rfl | rfl
    · rw [e0]; rfl
    · rw [e1]; rfl
    · rw [e2]; rfl
    · rw [e3]; rfl
end
set_option linter.unusedVariables false
set_option linter.unusedSimpArgs false

section
variable {H : Type} {enc : TypeId × Value → H} {W : World} {base : Nat} {v : Value} {d : DataW H} {p : List MemPlace}
theorem cellsNd : Try.prog.cellsOf 39 = 10 := by kernel_rfl
theorem cellsI : Try.prog.cellsOf 3 = 1 := by kernel_rfl
theorem cellsS : Try.prog.cellsOf 9 = 1 := by kernel_rfl
theorem cellsDesc : Try.prog.cellsOf 27 = 1 := by kernel_rfl
theorem cellsNds : Try.prog.cellsOf 25 = 1 := by kernel_rfl
theorem node_words {n : Nat} {cs : List Value} {x : DataW H × List MemPlace} (hlen : cs.length = 10) (h : DataW.trod enc Try.prog W 0 (fun _ => true) true n 39 cs = some x) :
    ∃ nd : Nd, (∀ j, j < 10 → cs[j]? = (ndC nd)[j]?) ∧ nd.text.length ∈ x.1.weights Try.prog 39 := by
  obtain ⟨xs, m, _, rfl, _, hn, hel⟩ := DataW.trod_struct Try.underlying39 h
  match cs, hlen with
  | [c0, c1, c2, c3, c4, c5, c6, c7, c8, c9], _ =>
    match xs, hn with
    | [y0, y1, y2, y3, y4, y5, y6], _ =>
      have e0 : DataW.trod enc Try.prog W 0 (fun _ => true) true m 3 [c0] = some y0 := by have h := hel 0 _ rfl; simp [cellsI] at h; exact h
      have e1 : DataW.trod enc Try.prog W 0 (fun _ => true) true m 3 [c1] = some y1 := by have h := hel 1 _ rfl; simp [cellsI] at h; exact h
      have e2 : DataW.trod enc Try.prog W 0 (fun _ => true) true m 3 [c2] = some y2 := by have h := hel 2 _ rfl; simp [cellsI] at h; exact h
      have e3 : DataW.trod enc Try.prog W 0 (fun _ => true) true m 3 [c3] = some y3 := by have h := hel 3 _ rfl; simp [cellsI] at h; exact h
      have e4 : DataW.trod enc Try.prog W 0 (fun _ => true) true m 3 [c4] = some y4 := by have h := hel 4 _ rfl; simp [cellsI] at h; exact h
      have e5 : DataW.trod enc Try.prog W 0 (fun _ => true) true m 34 [c5, c6, c7, c8] = some y5 := by have h := hel 5 _ rfl; simp [cellsCls] at h; exact h
      have e6 : DataW.trod enc Try.prog W 0 (fun _ => true) true m 9 [c9] = some y6 := by have h := hel 6 _ rfl; simp [cellsS] at h; exact h
      obtain ⟨a0, h0, _, _⟩ := DataW.trod_int Try.underlying3 e0
      obtain ⟨a1, h1, _, _⟩ := DataW.trod_int Try.underlying3 e1
      obtain ⟨a2, h2, _, _⟩ := DataW.trod_int Try.underlying3 e2
      obtain ⟨a3, h3, _, _⟩ := DataW.trod_int Try.underlying3 e3
      obtain ⟨a4, h4, _, _⟩ := DataW.trod_int Try.underlying3 e4
      obtain ⟨s, h5⟩ := cls_words rfl e5
      obtain ⟨t, h6, hy6, _⟩ := DataW.trod_string Try.underlying9 e6
      simp at h0 h1 h2 h3 h4 h5 h6
      subst h0 h1 h2 h3 h4 h6
      have k0 := h5 0 (by omega)
      have k1 := h5 1 (by omega)
      have k2 := h5 2 (by omega)
      have k3 := h5 3 (by omega)
      simp at k0 k1 k2 k3
      subst k0 k1 k2 k3
      refine ⟨⟨a0, a1, a2, a3, a4, s, t.data.toList⟩, fun j hj => ?_, ?_⟩
      · unfold ndC
        rcases (by omega : j = 0 ∨ j = 1 ∨ j = 2 ∨ j = 3 ∨ j = 4 ∨ j = 5 ∨ j = 6 ∨ j = 7 ∨ j = 8 ∨ j = 9) with rfl | rfl | rfl | rfl | rfl | rfl | rfl | rfl | rfl | rfl <;> first | rfl | (simp; exact (bs_self t).symm)
      · subst hy6
        simp [DataW.weights, DataW.weightsEach, Try.underlying39]
theorem mem_weightsAll {P : Program} {e : TypeId} {y : Nat} {a : DataW H} : ∀ {l : List (DataW H)}, a ∈ l → y ∈ a.weights P e → y ∈ DataW.weightsAll P e l
  | [], h, _ => by cases h
  | b :: l, h, hy => by
    unfold DataW.weightsAll
    rcases List.mem_cons.1 h with rfl | h
    · exact List.mem_append_left _ hy
    · exact List.mem_append_right _ (mem_weightsAll h hy)
theorem open_desc (hv : Value.okWide Try.prog W .any base 27 v) (h : DataW.Trod enc Try.prog W 0 (fun _ => true) true 27 v d p) (hw : ∀ x ∈ d.weights Try.prog 27, x ≤ reachBytes) :
    ∃ (l : List Nd) (A : Option Addr) (C : Nat), v = .agg #[.slice A l.length C] ∧ NRow W A l ∧ l.length ≤ C ∧ l.length ≤ 9223372036854775807 ∧ Txt l := by
  obtain ⟨cs, rfl, hsz⟩ := okWide_struct Try.underlying27 hv
  rw [cellsDesc] at hsz
  obtain ⟨c, rfl⟩ : ∃ c, cs = #[c] := by
    obtain ⟨l⟩ := cs
    match l, hsz with
    | [c], _ => exact ⟨c, rfl⟩
  obtain ⟨fuel, hf⟩ := h
  obtain ⟨y0, n, hx, _, hy⟩ := trod_struct1 Try.underlying27 hf
  simp only [Prod.mk.injEq] at hx
  obtain ⟨rfl, _⟩ := hx
  simp only [cellsNds] at hy
  rcases Go.Deep.open_slice Try.underlying25 hy with ⟨hcs, _⟩ | ⟨x, ln, cp, m, n', D, Pl, hcs, hb, hl, hm, hmm, hx, hi⟩
  · simp [Value.cells] at hcs
    subst hcs
    exact ⟨[], none, 0, rfl, NRow.nil _ _, Nat.le_refl _, by simp, fun n hn => by cases hn⟩
  · simp [Value.cells] at hcs
    subst hcs
    simp only [if_true] at hmm
    subst hmm
    unfold maxLen at hm
    have key : ∀ i, i < ln → ∃ nd : Nd, (∀ j, j < 10 → W.cell? (x.add (i * 10 + j)) = (ndC nd)[j]?) ∧ nd.text.length ∈ (D i).weights Try.prog 39 := by
      intro i hil
      obtain ⟨cs', hc, ht⟩ := hi i (by omega)
      rw [cellsNd] at hc
      obtain ⟨_, hcl, hat⟩ := World.cells?_some hc
      obtain ⟨nd, h1, h2⟩ := node_words hcl ht
      exact ⟨nd, fun j hj => by rw [← Go.Deep.add_add, hat j hj, h1 j hj], h2⟩
    let f : Nat → Nd := fun i => if h : i < ln then Classical.choose (key i h) else nd0
    have hfs : ∀ i (hil : i < ln), (∀ j, j < 10 → W.cell? (x.add (i * 10 + j)) = (ndC (f i))[j]?) ∧ (f i).text.length ∈ (D i).weights Try.prog 39 := fun i hil => by
      have hfi : f i = Classical.choose (key i hil) := by simp [f, hil]
      rw [hfi]; exact Classical.choose_spec (key i hil)
    have hfl : ((List.range ln).map f).length = ln := by simp
    refine ⟨(List.range ln).map f, some x, m, by rw [hfl], fun i hil => ?_, by rw [hfl]; exact hl, by rw [hfl]; omega, fun nd hnd => ?_⟩
    · rw [hfl] at hil
      have hgd : ((List.range ln).map f).getD i nd0 = f i := by simp [hil]
      have hs := (hfs i hil).1
      obtain ⟨b, off, spot⟩ := x
      have hc00 := (hfs 0 (by omega)).1 0 (by omega)
      have hspot : spot = none := by
        have hc : (ndC (f 0))[0]? = some (.int .i64 (f 0).kind) := rfl
        rw [hc] at hc00
        simpa [Addr.add] using World.cell?_spot hc00
      subst hspot
      have hadd : ∀ k, (⟨b, off, none⟩ : Addr).add k = ⟨b, off + k, none⟩ := fun k => by cases k <;> simp [Addr.add]
      refine ⟨b, off, rfl, ?_, fun j hj => ?_⟩
      · have hc : (ndC (f i))[0]? = some (.int .i64 (f i).kind) := rfl
        have := hs 0 (by omega)
        rw [hc] at this
        have := World.block_lt_of_cell? W _ this
        rw [hadd] at this; exact this
      · have := hs j hj
        rw [hadd] at this
        rw [hgd, Nat.add_assoc]; exact this
    · obtain ⟨i, hi2, rfl⟩ := List.mem_map.1 hnd
      have hil := List.mem_range.1 hi2
      have hmem := (hfs i hil).2
      have : (f i).text.length ≤ reachBytes := by
        apply hw
        subst hx
        unfold DataW.weights
        simp only [Try.underlying27]
        simp only [DataW.weightsEach, DataW.weights, Try.underlying25, List.map_cons, List.map_nil, List.append_nil]
        refine List.mem_cons_of_mem _ (List.mem_append_left _ (mem_weightsAll (List.mem_map.2 ⟨i, hi2, rfl⟩) hmem))
      unfold reachBytes at this
      omega
end
set_option linter.unusedVariables false
set_option linter.unusedSimpArgs false

def TkTxt (l : List Tk) : Prop := ∀ t ∈ l, t.text.length ≤ 281474976710656
section
variable {H : Type} {enc : TypeId × Value → H} {W : World} {base : Nat} {v : Value} {d : DataW H} {p : List MemPlace}
theorem cellsTok : Try.prog.cellsOf 36 = 9 := by kernel_rfl
theorem tok_words {n : Nat} {cs : List Value} {x : DataW H × List MemPlace} (hlen : cs.length = 9) (h : DataW.trod enc Try.prog W 0 (fun _ => true) true n 36 cs = some x) :
    ∃ t : Tk, (∀ j, j < 9 → cs[j]? = (tkC t)[j]?) ∧ t.text.length ∈ x.1.weights Try.prog 36 := by
  obtain ⟨xs, m, _, rfl, _, hn, hel⟩ := DataW.trod_struct Try.underlying36 h
  match cs, hlen with
  | [c0, c1, c2, c3, c4, c5, c6, c7, c8], _ =>
    match xs, hn with
    | [y0, y1, y2, y3, y4, y5], _ =>
      have e0 : DataW.trod enc Try.prog W 0 (fun _ => true) true m 3 [c0] = some y0 := by have h := hel 0 _ rfl; simp [cellsI] at h; exact h
      have e1 : DataW.trod enc Try.prog W 0 (fun _ => true) true m 3 [c1] = some y1 := by have h := hel 1 _ rfl; simp [cellsI] at h; exact h
      have e2 : DataW.trod enc Try.prog W 0 (fun _ => true) true m 34 [c2, c3, c4, c5] = some y2 := by have h := hel 2 _ rfl; simp [cellsI, cellsCls] at h; exact h
      have e3 : DataW.trod enc Try.prog W 0 (fun _ => true) true m 9 [c6] = some y3 := by have h := hel 3 _ rfl; simp [cellsI, cellsCls, cellsS] at h; exact h
      have e4 : DataW.trod enc Try.prog W 0 (fun _ => true) true m 3 [c7] = some y4 := by have h := hel 4 _ rfl; simp [cellsI, cellsCls, cellsS] at h; exact h
      have e5 : DataW.trod enc Try.prog W 0 (fun _ => true) true m 3 [c8] = some y5 := by have h := hel 5 _ rfl; simp [cellsI, cellsCls, cellsS] at h; exact h
      obtain ⟨a0, h0, _, _⟩ := DataW.trod_int Try.underlying3 e0
      obtain ⟨a1, h1, _, _⟩ := DataW.trod_int Try.underlying3 e1
      obtain ⟨s, h2⟩ := cls_words rfl e2
      obtain ⟨t, h3, hy3, _⟩ := DataW.trod_string Try.underlying9 e3
      obtain ⟨a4, h4, _, _⟩ := DataW.trod_int Try.underlying3 e4
      obtain ⟨a5, h5, _, _⟩ := DataW.trod_int Try.underlying3 e5
      simp at h0 h1 h2 h3 h4 h5
      subst h0 h1 h3 h4 h5
      have k0 := h2 0 (by omega)
      have k1 := h2 1 (by omega)
      have k2 := h2 2 (by omega)
      have k3 := h2 3 (by omega)
      simp at k0 k1 k2 k3
      subst k0 k1 k2 k3
      refine ⟨⟨a0, a1, a4, a5, s, t.data.toList⟩, fun j hj => ?_, ?_⟩
      · unfold tkC
        rcases (by omega : j = 0 ∨ j = 1 ∨ j = 2 ∨ j = 3 ∨ j = 4 ∨ j = 5 ∨ j = 6 ∨ j = 7 ∨ j = 8) with rfl | rfl | rfl | rfl | rfl | rfl | rfl | rfl | rfl <;> first | rfl | (simp; exact (bs_self t).symm)
      · subst hy3
        simp [DataW.weights, DataW.weightsEach, Try.underlying36]
theorem open_toks (hv : Value.okWide Try.prog W .any base 22 v) (h : DataW.Trod enc Try.prog W 0 (fun _ => true) true 22 v d p) (hw : ∀ x ∈ d.weights Try.prog 22, x ≤ reachBytes) :
    ∃ (l : List Tk) (A : Option Addr) (C : Nat), v = .slice A l.length C ∧ TkRow W A l ∧ l.length ≤ C ∧ l.length ≤ 9223372036854775807 ∧ TkTxt l := by
  obtain ⟨a0, len, cap, rfl⟩ := okWide_slice Try.underlying22 hv
  obtain ⟨fuel, hf⟩ := h
  rcases Go.Deep.open_slice Try.underlying22 hf with ⟨hcs, _⟩ | ⟨x, ln, cp, m, n', D, Pl, hcs, hb, hl, hm, hmm, hx, hi⟩
  · simp [Value.cells] at hcs
    obtain ⟨rfl, rfl, rfl⟩ := hcs
    exact ⟨[], none, 0, rfl, TkRow.nil _ _, Nat.le_refl _, by simp, fun n hn => by cases hn⟩
  · simp [Value.cells] at hcs
    obtain ⟨rfl, rfl, rfl⟩ := hcs
    simp only [if_true] at hmm
    subst hmm
    unfold maxLen at hm
    have key : ∀ i, i < len → ∃ t : Tk, (∀ j, j < 9 → W.cell? (x.add (i * 9 + j)) = (tkC t)[j]?) ∧ t.text.length ∈ (D i).weights Try.prog 36 := by
      intro i hil
      obtain ⟨cs', hc, ht⟩ := hi i (by omega)
      rw [cellsTok] at hc
      obtain ⟨_, hcl, hat⟩ := World.cells?_some hc
      obtain ⟨t, h1, h2⟩ := tok_words hcl ht
      exact ⟨t, fun j hj => by rw [← Go.Deep.add_add, hat j hj, h1 j hj], h2⟩
    let f : Nat → Tk := fun i => if h : i < len then Classical.choose (key i h) else tkEnd
    have hfs : ∀ i (hil : i < len), (∀ j, j < 9 → W.cell? (x.add (i * 9 + j)) = (tkC (f i))[j]?) ∧ (f i).text.length ∈ (D i).weights Try.prog 36 := fun i hil => by
      have hfi : f i = Classical.choose (key i hil) := by simp [f, hil]
      rw [hfi]; exact Classical.choose_spec (key i hil)
    have hfl : ((List.range len).map f).length = len := by simp
    refine ⟨(List.range len).map f, some x, m, by rw [hfl], fun i hil => ?_, by rw [hfl]; exact hl, by rw [hfl]; omega, fun t ht => ?_⟩
    · rw [hfl] at hil
      have hgd : ((List.range len).map f).getD i tkEnd = f i := by simp [hil]
      have hs := (hfs i hil).1
      obtain ⟨b, off, spot⟩ := x
      have hc00 := (hfs 0 (by omega)).1 0 (by omega)
      have hspot : spot = none := by
        have hc : (tkC (f 0))[0]? = some (.int .i64 (f 0).kind) := rfl
        rw [hc] at hc00
        simpa [Addr.add] using World.cell?_spot hc00
      subst hspot
      have hadd : ∀ k, (⟨b, off, none⟩ : Addr).add k = ⟨b, off + k, none⟩ := fun k => by cases k <;> simp [Addr.add]
      refine ⟨b, off, rfl, ?_, fun j hj => ?_⟩
      · have hc : (tkC (f i))[0]? = some (.int .i64 (f i).kind) := rfl
        have := hs 0 (by omega)
        rw [hc] at this
        have := World.block_lt_of_cell? W _ this
        rw [hadd] at this; exact this
      · have := hs j hj
        rw [hadd] at this
        rw [hgd, Nat.add_assoc]; exact this
    · obtain ⟨i, hi2, rfl⟩ := List.mem_map.1 ht
      have hil := List.mem_range.1 hi2
      have hmem := (hfs i hil).2
      have : (f i).text.length ≤ reachBytes := by
        apply hw
        obtain ⟨rfl, _⟩ := Prod.mk.inj hx
        unfold DataW.weights
        simp only [Try.underlying22]
        exact List.mem_cons_of_mem _ (List.mem_append_left _ (mem_weightsAll (List.mem_map.2 ⟨i, hi2, rfl⟩) hmem))
      unfold reachBytes at this
      omega
end
/-- A world for a witness. -/
noncomputable def laidWorld0 (os : Os) : World := World.holding Try.prog os ⟨#[], #[], []⟩
end Go.Proofs.Ytencdlcpnbdlbaa
/- What the parser lays has its form: the plain mathematics. -/
namespace Go.Proofs.Ytencdlcpnbdlbaa
open Go
set_option linter.unusedVariables false
set_option linter.unusedSimpArgs false

theorem grow_ok {l : List Nd} {n : Nd} (h : ∀ i, i < l.length → okN l i (atN l i)) (hn : okN (l ++ [n]) l.length n) : ∀ i, i < (l ++ [n]).length → okN (l ++ [n]) i (atN (l ++ [n]) i) := fun i hi => by
  by_cases hil : i < l.length
  · rw [atN_left hil]
    exact (okN_congr (fun j hj => atN_left (by omega)) _).2 (h i hil)
  · obtain rfl : i = l.length := by simp at hi; omega
    rw [atN_right (Nat.le_refl _), Nat.sub_self]; exact hn
theorem first_grow {l m : List Nd} {i : Nat} (h : i < l.length) : firstP (l ++ m) i = firstP l i := firstP_congr fun j hj => atN_left (by omega)
theorem at_new (l : List Nd) (n : Nd) : atN (l ++ [n]) l.length = n := by rw [atN_right (Nat.le_refl _), Nat.sub_self]; rfl
theorem grow_leaf {l : List Nd} {n : Nd} (hk : leafK n.kind) (hb : backN n = n) (ht : n.kind = 3 → textOk n.text = true) : okN (l ++ [n]) l.length n ∧ firstP (l ++ [n]) l.length = l.length := by
  have hf : firstP (l ++ [n]) l.length = l.length := firstP_stop (by rw [at_new]; unfold leafK at hk; unfold partK; omega)
  exact ⟨(Cs.leaf hk hf).ok fun _ => ⟨hb, ht⟩, hf⟩
theorem grow_one {l : List Nd} (hl : 0 < l.length) {kind lo hi : Int} (hk : 6 ≤ kind ∧ kind ≤ 9) (h0 : kind ≠ 7 → lo = 0 ∧ hi = 0) (h7 : kind = 7 → 0 ≤ lo ∧ lo ≤ hi ∧ hi ≤ 255) {a : Int} (ha : a = (l.length : Int) - 1) :
    okN (l ++ [({ kind := kind, a := a, lo := lo, hi := hi } : Nd)]) l.length { kind := kind, a := a, lo := lo, hi := hi } ∧ firstP (l ++ [({ kind := kind, a := a, lo := lo, hi := hi } : Nd)]) l.length = firstP l (l.length - 1) := by
  have hf : firstP (l ++ [({ kind := kind, a := a, lo := lo, hi := hi } : Nd)]) l.length = firstP (l ++ [({ kind := kind, a := a, lo := lo, hi := hi } : Nd)]) (l.length - 1) := by
    rw [firstP_go (by rw [at_new]; unfold partK; simp only; omega) (by rw [at_new]; simp only; omega) (by rw [at_new]; simp only; omega), at_new]
    congr 1; simp only; omega
  refine ⟨(Cs.one hk hl ha rfl h0 h7 ⟨rfl, rfl⟩ hf).ok (fun hh => by unfold leafK at hh; simp only at hh; omega), ?_⟩
  rw [hf]; exact first_grow (by omega)
theorem grow_two {l : List Nd} (hl : 0 < l.length) {kind a b : Int} {g : Nat} (hk : kind = 4 ∨ kind = 5) (hg : 0 < g) (hf : firstP l (l.length - 1) = g) (ha : a = (g : Int) - 1) (hb : b = (l.length : Int) - 1) :
    okN (l ++ [({ kind := kind, a := a, b := b } : Nd)]) l.length { kind := kind, a := a, b := b } ∧ firstP (l ++ [({ kind := kind, a := a, b := b } : Nd)]) l.length = firstP l (g - 1) := by
  have hgl : g ≤ l.length - 1 := by have := firstP_le l (l.length - 1); omega
  have hf1 : firstP (l ++ [({ kind := kind, a := a, b := b } : Nd)]) (l.length - 1) = g := by rw [first_grow (by omega)]; exact hf
  have hf2 : firstP (l ++ [({ kind := kind, a := a, b := b } : Nd)]) l.length = firstP (l ++ [({ kind := kind, a := a, b := b } : Nd)]) (g - 1) := by
    rw [firstP_go (by rw [at_new]; unfold partK; simp only; omega) (by rw [at_new]; simp only; omega) (by rw [at_new]; simp only; omega), at_new]
    congr 1; simp only; omega
  refine ⟨(Cs.two hk hl hb (by rw [hf1]; exact ha) (by omega) ⟨rfl, rfl⟩ ⟨rfl, rfl⟩ (by rw [hf1]; exact hf2)).ok (fun hh => by unfold leafK at hh; simp only at hh; omega), ?_⟩
  rw [hf2]; exact first_grow (by omega)
/-- Tokens as promised. -/
def TkOk (l : List Tk) : Prop := ∀ t ∈ l, (t.kind = 2 → textOk t.text = true) ∧ (t.kind = 7 → 0 ≤ t.lo ∧ t.lo ≤ t.hi ∧ t.hi ≤ 255)
theorem TkOk.at {l : List Tk} (h : TkOk l) (p : Nat) : ((tkAt l p).kind = 2 → textOk (tkAt l p).text = true) ∧ ((tkAt l p).kind = 7 → 0 ≤ (tkAt l p).lo ∧ (tkAt l p).lo ≤ (tkAt l p).hi ∧ (tkAt l p).hi ≤ 255) := by
  by_cases hp : p < l.length
  · have : tkAt l p ∈ l := by unfold tkAt; rw [List.getD_eq_getElem?_getD, List.getElem?_eq_getElem hp]; exact List.getElem_mem _
    exact h _ this
  · have e : tkAt l p = tkEnd := by unfold tkAt; rw [List.getD_eq_getElem?_getD, List.getElem?_eq_none (by omega)]; rfl
    rw [e]; exact ⟨fun h => by revert h; decide, fun h => by revert h; decide⟩
/-- All nodes laid are as they must be, and all are kept. -/
structure Lay (s : PS) : Prop where
  len : s.nodes.length = s.count
  ok : ∀ i, i < s.nodes.length → okN s.nodes i (atN s.nodes i)
theorem Lay.next {s : PS} (h : Lay s) : Lay s.next := ⟨h.len, h.ok⟩
theorem lay_nodes {s : PS} (h : s.count < 4096) (n : Nd) (p : Int) : (s.lay n p).nodes = s.nodes ++ [n] := by unfold PS.lay; rw [if_pos h]
theorem Lay.lay {s : PS} (h : Lay s) (hc : s.count < 4096) {n : Nd} (hn : okN (s.nodes ++ [n]) s.nodes.length n) (p : Int) : Lay (s.lay n p) := by
  constructor
  · rw [lay_nodes hc, (lay_read s n p).2.2, List.length_append, h.len]; rfl
  · rw [lay_nodes hc]; exact grow_ok h.ok hn
def preM (m : Md) (s : PS) (f : Nat) : Prop := match m with
  | .orL a | .rowL a | .postL a => 0 < s.count ∧ a = (s.count : Int) - 1 ∧ firstP s.nodes (s.count - 1) = f
  | _ => f = s.count
structure Laid (s : PS) (f : Nat) (k : Int) (t : PS) : Prop where
  lay : Lay t
  more : ∃ new, t.nodes = s.nodes ++ new
  pos : 0 < t.count
  k : k = (t.count : Int) - 1
  first : firstP t.nodes (t.count - 1) = f
theorem Laid.trans {s u t : PS} {f g : Nat} {j k : Int} (h : Laid s f j u) (h2 : Laid u g k t) : Laid s g k t := by
  obtain ⟨a, ha⟩ := h.more
  obtain ⟨b, hb⟩ := h2.more
  exact ⟨h2.lay, ⟨a ++ b, by rw [hb, ha, List.append_assoc]⟩, h2.pos, h2.k, h2.first⟩
theorem laid_leaf {s : PS} (h : Lay s) (hc : s.count < 4096) {n : Nd} (hk : leafK n.kind) (hb : backN n = n) (ht : n.kind = 3 → textOk n.text = true) (p : Int) : Laid s s.count (s.count : Int) (s.lay n p) := by
  obtain ⟨h1, h2⟩ := grow_leaf (l := s.nodes) hk hb ht
  refine ⟨h.lay hc h1 p, ⟨[n], lay_nodes hc n p⟩, by rw [(lay_read s n p).2.2]; omega, by rw [(lay_read s n p).2.2]; omega, ?_⟩
  rw [(lay_read s n p).2.2, lay_nodes hc, Nat.add_sub_cancel, ← h.len]; exact h2
theorem laid_one {s : PS} {f : Nat} (h : Lay s) (hp : 0 < s.count) (hc : s.count < 4096) (hf : firstP s.nodes (s.count - 1) = f) {kind lo hi a : Int} (hk : 6 ≤ kind ∧ kind ≤ 9) (h0 : kind ≠ 7 → lo = 0 ∧ hi = 0) (h7 : kind = 7 → 0 ≤ lo ∧ lo ≤ hi ∧ hi ≤ 255) (ha : a = (s.count : Int) - 1) (p : Int) :
    Laid s f (s.count : Int) (s.lay { kind := kind, a := a, lo := lo, hi := hi } p) := by
  obtain ⟨h1, h2⟩ := grow_one (l := s.nodes) (by rw [h.len]; exact hp) hk h0 h7 (a := a) (by rw [h.len]; exact ha)
  refine ⟨h.lay hc h1 p, ⟨_, lay_nodes hc _ p⟩, by rw [(lay_read s _ p).2.2]; omega, by rw [(lay_read s _ p).2.2]; omega, ?_⟩
  rw [(lay_read s _ p).2.2, lay_nodes hc, Nat.add_sub_cancel, ← h.len, h2, h.len]; exact hf
theorem laid_two {s : PS} {f g : Nat} (h : Lay s) (hp : 0 < s.count) (hc : s.count < 4096) (hg : 0 < g) (hf : firstP s.nodes (s.count - 1) = g) (hf2 : firstP s.nodes (g - 1) = f) {kind a b : Int} (hk : kind = 4 ∨ kind = 5) (ha : a = (g : Int) - 1) (hb : b = (s.count : Int) - 1) (p : Int) :
    Laid s f (s.count : Int) (s.lay { kind := kind, a := a, b := b } p) := by
  obtain ⟨h1, h2⟩ := grow_two (l := s.nodes) (by rw [h.len]; exact hp) (a := a) (b := b) hk hg (by rw [h.len]; exact hf) ha (by rw [h.len]; exact hb)
  refine ⟨h.lay hc h1 p, ⟨_, lay_nodes hc _ p⟩, by rw [(lay_read s _ p).2.2]; omega, by rw [(lay_read s _ p).2.2]; omega, ?_⟩
  rw [(lay_read s _ p).2.2, lay_nodes hc, Nat.add_sub_cancel, ← h.len, h2]; exact hf2
theorem run_form {l : List Tk} (hl : TkOk l) : ∀ (n : Nat) (m : Md) (s : PS) (f : Nat) (k : Int) (t : PS), run l n m s = .ok k t → t.count ≤ 4096 → Lay s → preM m s f → Laid s f k t
  | 0, _, _, _, _, _, h, _, _, _ => by cases h
  | n + 1, .or, s, f, k, t, h, hc, hs, hp => by
    obtain ⟨a, u, h1, h2⟩ := bind_ok h
    have q2 := run_read n _ _ _ _ h2
    have r1 := run_form hl n .row s f a u h1 (by omega) hs hp
    exact r1.trans (run_form hl n (.orL a) u f k t h2 hc r1.lay ⟨r1.pos, r1.k, r1.first⟩)
  | n + 1, .orL a, s, f, k, t, h, hc, hs, hp => by
    simp only [run] at h
    obtain ⟨hp1, hp2, hp3⟩ := hp
    split at h
    · obtain ⟨b, u, h1, h2⟩ := bind_ok h
      have q1 := run_read n _ _ _ _ h1
      have q2 := run_read n _ _ _ _ h2
      rw [(lay_read u _ _).2.2] at q2
      have r1 := run_form hl n .row s.next s.count b u h1 (by omega) hs.next rfl
      obtain ⟨new, hnew⟩ := r1.more
      have r2 := laid_two (f := f) (kind := 5) (a := a) (b := b) r1.lay r1.pos (by omega) hp1 r1.first (by rw [hnew]; show firstP (s.nodes ++ new) (s.count - 1) = f; rw [first_grow (by rw [hs.len]; omega)]; exact hp3) (.inr rfl) hp2 r1.k (-1)
      have r3 := run_form hl n _ _ f k t h2 hc r2.lay ⟨r2.pos, r2.k, r2.first⟩
      exact (show Laid s s.count b u from ⟨r1.lay, ⟨new, hnew⟩, r1.pos, r1.k, r1.first⟩).trans (r2.trans r3)
    · cases h; exact ⟨hs, ⟨[], by simp⟩, hp1, hp2, hp3⟩
  | n + 1, .row, s, f, k, t, h, hc, hs, hp => by
    obtain ⟨a, u, h1, h2⟩ := bind_ok h
    have q2 := run_read n _ _ _ _ h2
    have r1 := run_form hl n .post s f a u h1 (by omega) hs hp
    exact r1.trans (run_form hl n (.rowL a) u f k t h2 hc r1.lay ⟨r1.pos, r1.k, r1.first⟩)
  | n + 1, .rowL a, s, f, k, t, h, hc, hs, hp => by
    simp only [run] at h
    obtain ⟨hp1, hp2, hp3⟩ := hp
    split at h
    · obtain ⟨b, u, h1, h2⟩ := bind_ok h
      have q1 := run_read n _ _ _ _ h1
      have q2 := run_read n _ _ _ _ h2
      rw [(lay_read u _ _).2.2] at q2
      have r1 := run_form hl n .post s s.count b u h1 (by omega) hs rfl
      obtain ⟨new, hnew⟩ := r1.more
      have r2 := laid_two (f := f) (kind := 4) (a := a) (b := b) r1.lay r1.pos (by omega) hp1 r1.first (by rw [hnew, first_grow (by rw [hs.len]; omega)]; exact hp3) (.inl rfl) hp2 r1.k (-1)
      have r3 := run_form hl n _ _ f k t h2 hc r2.lay ⟨r2.pos, r2.k, r2.first⟩
      exact r1.trans (r2.trans r3)
    · cases h; exact ⟨hs, ⟨[], by simp⟩, hp1, hp2, hp3⟩
  | n + 1, .post, s, f, k, t, h, hc, hs, hp => by
    obtain ⟨a, u, h1, h2⟩ := bind_ok h
    have q2 := run_read n _ _ _ _ h2
    have r1 := run_form hl n .atom s f a u h1 (by omega) hs hp
    exact r1.trans (run_form hl n (.postL a) u f k t h2 hc r1.lay ⟨r1.pos, r1.k, r1.first⟩)
  | n + 1, .postL a, s, f, k, t, h, hc, hs, hp => by
    simp only [run] at h
    obtain ⟨hp1, hp2, hp3⟩ := hp
    split at h
    · have q2 := run_read n _ _ _ _ h
      have q3 := (lay_read s { kind := 6, a := a } (tkAt l s.read).at_).2.2
      have q4 : s.count + 1 ≤ t.count := by have := q2.2.2; simp only [PS.next] at this; omega
      have r2 := laid_one (f := f) (kind := 6) (lo := 0) (hi := 0) (a := a) hs hp1 (by omega) hp3 (by omega) (fun _ => ⟨rfl, rfl⟩) (fun h => by omega) hp2 (tkAt l s.read).at_
      have r3 := run_form hl n _ _ f k t h hc r2.lay.next ⟨r2.pos, r2.k, r2.first⟩
      exact r2.trans ⟨r3.lay, r3.more, r3.pos, r3.k, r3.first⟩
    · split at h
      · rename_i hk7
        have q2 := run_read n _ _ _ _ h
        have q3 := (lay_read s { kind := 7, a := a, lo := (tkAt l s.read).lo, hi := (tkAt l s.read).hi } (tkAt l s.read).at_).2.2
        have q4 : s.count + 1 ≤ t.count := by have := q2.2.2; simp only [PS.next] at this; omega
        have r2 := laid_one (f := f) (kind := 7) (lo := (tkAt l s.read).lo) (hi := (tkAt l s.read).hi) (a := a) hs hp1 (by omega) hp3 (by omega) (fun h => absurd rfl h) (fun _ => (hl.at s.read).2 hk7) hp2 (tkAt l s.read).at_
        have r3 := run_form hl n _ _ f k t h hc r2.lay.next ⟨r2.pos, r2.k, r2.first⟩
        exact r2.trans ⟨r3.lay, r3.more, r3.pos, r3.k, r3.first⟩
      · cases h; exact ⟨hs, ⟨[], by simp⟩, hp1, hp2, hp3⟩
  | n + 1, .atom, s, f, k, t, h, hc, hs, hp => by
    simp only [run] at h
    have hp : f = s.count := hp
    subst hp
    have leafC : ∀ {nd : Nd}, layK s.next nd (-1) = .ok k t → s.count < 4096 ∧ k = (s.count : Int) ∧ t = s.next.lay nd (-1) := fun {nd} e => by
      cases e
      have := (lay_read s.next nd (-1)).2.2
      have e2 : s.next.count = s.count := rfl
      exact ⟨by omega, rfl, rfl⟩
    split at h
    · obtain ⟨c1, rfl, rfl⟩ := leafC h
      have := laid_leaf (s := s.next) hs.next c1 (n := { kind := 2, cls := (tkAt l s.read).cls }) (.inr (.inl rfl)) (by simp [backN]) (fun h => by have h : (2 : Int) = 3 := h; omega) (-1)
      exact ⟨this.lay, this.more, this.pos, this.k, this.first⟩
    · split at h
      · rename_i hk2
        obtain ⟨c1, rfl, rfl⟩ := leafC h
        have := laid_leaf (s := s.next) hs.next c1 (n := { kind := 3, text := (tkAt l s.read).text }) (.inr (.inr rfl)) (by simp [backN]) (fun _ => (hl.at s.read).1 hk2) (-1)
        exact ⟨this.lay, this.more, this.pos, this.k, this.first⟩
      · split at h
        · exact run_form hl n .group s _ k t h hc hs rfl
        · split at h
          · obtain ⟨b, u, h1, h2⟩ := bind_ok h
            cases h2
            have q3 := (lay_read u { kind := 8, a := b } (-1)).2.2
            have r1 := run_form hl n .group s.next s.count b u h1 (by omega) hs.next rfl
            have r2 := laid_one (f := s.count) (kind := 8) (lo := 0) (hi := 0) (a := b) r1.lay r1.pos (by omega) r1.first (by omega) (fun _ => ⟨rfl, rfl⟩) (fun h => by omega) r1.k (-1)
            exact (show Laid s s.count b u from ⟨r1.lay, r1.more, r1.pos, r1.k, r1.first⟩).trans r2
          · split at h
            · obtain ⟨b, u, h1, h2⟩ := bind_ok h
              cases h2
              have q3 := (lay_read u { kind := 9, a := b } (-1)).2.2
              have r1 := run_form hl n .group s.next s.count b u h1 (by omega) hs.next rfl
              have r2 := laid_one (f := s.count) (kind := 9) (lo := 0) (hi := 0) (a := b) r1.lay r1.pos (by omega) r1.first (by omega) (fun _ => ⟨rfl, rfl⟩) (fun h => by omega) r1.k (-1)
              exact (show Laid s s.count b u from ⟨r1.lay, r1.more, r1.pos, r1.k, r1.first⟩).trans r2
            · exact absurd h fault_not_ok
  | n + 1, .group, s, f, k, t, h, hc, hs, hp => by
    simp only [run] at h
    have hp : f = s.count := hp
    subst hp
    split at h
    · split at h
      · cases h
      · obtain ⟨b, u, h1, h2⟩ := bind_ok h
        split at h2
        · cases h2
          have r1 := run_form hl n .inside _ s.count k u h1 hc ⟨hs.len, hs.ok⟩ rfl
          exact ⟨⟨r1.lay.len, r1.lay.ok⟩, r1.more, r1.pos, r1.k, r1.first⟩
        · exact absurd h2 fault_not_ok
    · exact absurd h fault_not_ok
  | n + 1, .inside, s, f, k, t, h, hc, hs, hp => by
    simp only [run] at h
    have hp : f = s.count := hp
    subst hp
    split at h
    · cases h
      have q3 := (lay_read s { kind := 1 } (-1)).2.2
      exact laid_leaf hs (by omega) (.inl rfl) (by simp [backN]) (fun h => by revert h; decide) (-1)
    · exact run_form hl n .or s _ k t h hc hs rfl
/-- What is parsed has its form. -/
theorem parse_form {l : List Tk} (hl : TkOk l) {k : Int} {t : PS} (h : parseP l = .ok k t) : Form t.nodes ∧ t.nodes.length ≤ 4096 := by
  obtain ⟨a, u, h1, h2⟩ := bind_ok h
  split at h2
  · split at h2
    · cases h2
    · rename_i hcnt
      cases h2
      have r := run_form hl _ .or {} 0 k u h1 (by omega) ⟨rfl, fun i hi => by simp at hi⟩ rfl
      have hlen := r.lay.len
      exact ⟨⟨by show 0 < u.nodes.length; rw [hlen]; exact r.pos, r.lay.ok, by show firstP u.nodes (u.nodes.length - 1) = 0; rw [hlen]; exact r.first⟩, by show u.nodes.length ≤ 4096; omega⟩
  · exact absurd h2 fault_not_ok
end Go.Proofs.Ytencdlcpnbdlbaa
/- Where stars and repeats stand, and faults: the plain mathematics of the parser. -/
namespace Go.Proofs.Ytencdlcpnbdlbaa
open Go
set_option linter.unusedVariables false
set_option linter.unusedSimpArgs false

def isSt (k : Int) : Bool := decide (k = 6) || decide (k = 7)
def stT (t : Tk) : Option (Int × Int) := if isSt t.kind = true then some (t.kind, t.at_) else none
def sts (l : List Tk) (i j : Nat) : List (Int × Int) := ((l.drop i).take (j - i)).filterMap stT
def mkN (x : Nd × Int) : Option (Int × Int) := if isSt x.1.kind = true then some (x.1.kind, x.2) else none
theorem sts_nil (l : List Tk) (i : Nat) : sts l i i = [] := by unfold sts; rw [Nat.sub_self]; rfl
theorem sts_add {l : List Tk} {i j k : Nat} (h1 : i ≤ j) (h2 : j ≤ k) : sts l i k = sts l i j ++ sts l j k := by
  unfold sts
  rw [show k - i = (j - i) + (k - j) by omega, List.take_add, List.filterMap_append, List.drop_drop, show i + (j - i) = j by omega]
theorem sts_one {l : List Tk} {p : Nat} (h : p < l.length) : sts l p (p + 1) = (stT (tkAt l p)).toList := by
  unfold sts tkAt
  rw [Nat.add_sub_cancel_left, List.drop_eq_getElem_cons h, List.getD_eq_getElem?_getD, List.getElem?_eq_getElem h]
  simp only [List.take_succ_cons, List.take_zero, Option.getD_some]
  cases hs : stT l[p] with
  | none => simp [List.filterMap_cons, hs]
  | some x => simp [List.filterMap_cons, hs]
structure Mks (l : List Tk) (s t : PS) : Prop where
  le : s.read ≤ t.read
  ex : ∃ P : List (Nd × Int), t.nodes = s.nodes ++ P.map (·.1) ∧ t.ats = s.ats ++ P.map (·.2) ∧ (∀ x ∈ P, isSt x.1.kind = false → x.2 = -1) ∧ P.filterMap mkN = sts l s.read t.read
theorem Mks.refl (l : List Tk) (s : PS) : Mks l s s := ⟨Nat.le_refl _, [], by simp, by simp, by simp, by rw [sts_nil]; rfl⟩
theorem Mks.trans {l : List Tk} {s t u : PS} (h : Mks l s t) (k : Mks l t u) : Mks l s u := by
  obtain ⟨h1, P, p1, p2, p3, p4⟩ := h
  obtain ⟨k1, Q, q1, q2, q3, q4⟩ := k
  refine ⟨Nat.le_trans h1 k1, P ++ Q, by rw [q1, p1, List.map_append, List.append_assoc], by rw [q2, p2, List.map_append, List.append_assoc], fun x hx => ?_, by rw [List.filterMap_append, p4, q4, ← sts_add h1 k1]⟩
  rcases List.mem_append.1 hx with h | h
  · exact p3 x h
  · exact q3 x h
theorem Mks.next {l : List Tk} {s : PS} (h : s.read < l.length) (hk : isSt (tkAt l s.read).kind = false) : Mks l s s.next := by
  refine ⟨Nat.le_succ _, [], by simp [PS.next], by simp [PS.next], by simp, ?_⟩
  show _ = sts l s.read (s.read + 1)
  rw [sts_one h]; unfold stT; rw [hk]; rfl
theorem lay_ats {s : PS} (h : s.count < 4096) (n : Nd) (p : Int) : (s.lay n p).ats = s.ats ++ [p] := by unfold PS.lay; rw [if_pos h]
theorem Mks.lay {l : List Tk} {s : PS} (h : s.count < 4096) {n : Nd} (hk : isSt n.kind = false) : Mks l s (s.lay n (-1)) := by
  refine ⟨by rw [(lay_read s n _).1]; exact Nat.le_refl _, [(n, -1)], lay_nodes h n _, lay_ats h n _, fun x hx _ => by simp at hx; rw [hx], ?_⟩
  rw [(lay_read s n _).1, sts_nil]
  simp [mkN, hk]
theorem Mks.star {l : List Tk} {s : PS} (h : s.count < 4096) (hin : s.read < l.length) {n : Nd} (hk : isSt (tkAt l s.read).kind = true) (hn : n.kind = (tkAt l s.read).kind) : Mks l s (s.lay n (tkAt l s.read).at_).next := by
  have hm : ∀ x ∈ [(n, (tkAt l s.read).at_)], isSt x.1.kind = false → x.2 = -1 := by
    intro x hx hx2
    rw [List.mem_singleton] at hx
    rw [hx] at hx2
    rw [hn, hk] at hx2; cases hx2
  have hf : [(n, (tkAt l s.read).at_)].filterMap mkN = sts l s.read (s.read + 1) := by
    rw [sts_one hin]; simp [mkN, stT, hk, hn]
  refine ⟨by show s.read ≤ (s.lay n _).read + 1; rw [(lay_read s n _).1]; omega, [(n, (tkAt l s.read).at_)], lay_nodes h n _, lay_ats h n _, hm, ?_⟩
  show _ = sts l s.read ((s.lay n _).read + 1)
  rw [(lay_read s n _).1]; exact hf
theorem Mks.opn {l : List Tk} {s t : PS} (h : Mks l s t) (o : List Int) : Mks l s { t with opn := o } := ⟨h.le, h.ex⟩
theorem Mks.opn' {l : List Tk} {s t : PS} {o : List Int} (h : Mks l { s with opn := o } t) : Mks l s t := ⟨h.le, h.ex⟩
theorem run_marks {l : List Tk} : ∀ (n : Nat) (m : Md) (s : PS) (k : Int) (t : PS), run l n m s = .ok k t → t.count ≤ 4096 → Mks l s t
  | 0, _, _, _, _, h, _ => by cases h
  | n + 1, .or, s, k, t, h, hc => by
    obtain ⟨a, u, h1, h2⟩ := bind_ok h
    have q2 := run_read n _ _ _ _ h2
    exact (run_marks n .row s a u h1 (by omega)).trans (run_marks n (.orL a) u k t h2 hc)
  | n + 1, .orL a, s, k, t, h, hc => by
    simp only [run] at h
    split at h
    · rename_i hk
      have hin := tk_in (l := l) (p := s.read) (by rw [hk]; decide)
      obtain ⟨b, u, h1, h2⟩ := bind_ok h
      have q2 := run_read n _ _ _ _ h2
      rw [(lay_read u _ _).2.2] at q2
      exact (Mks.next hin (by rw [hk]; decide)).trans ((run_marks n .row s.next b u h1 (by omega)).trans ((Mks.lay (by omega) (by decide : isSt (5 : Int) = false)).trans (run_marks n _ _ k t h2 hc)))
    · cases h; exact Mks.refl l s
  | n + 1, .row, s, k, t, h, hc => by
    obtain ⟨a, u, h1, h2⟩ := bind_ok h
    have q2 := run_read n _ _ _ _ h2
    exact (run_marks n .post s a u h1 (by omega)).trans (run_marks n (.rowL a) u k t h2 hc)
  | n + 1, .rowL a, s, k, t, h, hc => by
    simp only [run] at h
    split at h
    · obtain ⟨b, u, h1, h2⟩ := bind_ok h
      have q2 := run_read n _ _ _ _ h2
      rw [(lay_read u _ _).2.2] at q2
      exact (run_marks n .post s b u h1 (by omega)).trans ((Mks.lay (by omega) (by decide : isSt (4 : Int) = false)).trans (run_marks n _ _ k t h2 hc))
    · cases h; exact Mks.refl l s
  | n + 1, .post, s, k, t, h, hc => by
    obtain ⟨a, u, h1, h2⟩ := bind_ok h
    have q2 := run_read n _ _ _ _ h2
    exact (run_marks n .atom s a u h1 (by omega)).trans (run_marks n (.postL a) u k t h2 hc)
  | n + 1, .postL a, s, k, t, h, hc => by
    simp only [run] at h
    split at h
    · rename_i hk
      have hin := tk_in (l := l) (p := s.read) (by rw [hk]; decide)
      have q2 := run_read n _ _ _ _ h
      have q3 := (lay_read s { kind := 6, a := a } (tkAt l s.read).at_).2.2
      have q4 : s.count + 1 ≤ t.count := by have := q2.2.2; simp only [PS.next] at this; omega
      exact (Mks.star (by omega) hin (by rw [hk]; decide) hk.symm).trans (run_marks n _ _ k t h hc)
    · split at h
      · rename_i hk
        have hin := tk_in (l := l) (p := s.read) (by rw [hk]; decide)
        have q2 := run_read n _ _ _ _ h
        have q3 := (lay_read s { kind := 7, a := a, lo := (tkAt l s.read).lo, hi := (tkAt l s.read).hi } (tkAt l s.read).at_).2.2
        have q4 : s.count + 1 ≤ t.count := by have := q2.2.2; simp only [PS.next] at this; omega
        exact (Mks.star (by omega) hin (by rw [hk]; decide) hk.symm).trans (run_marks n _ _ k t h hc)
      · cases h; exact Mks.refl l s
  | n + 1, .atom, s, k, t, h, hc => by
    simp only [run] at h
    have leafC : ∀ {nd : Nd}, layK s.next nd (-1) = .ok k t → s.next.count < 4096 ∧ t = s.next.lay nd (-1) := fun {nd} e => by
      cases e
      have := (lay_read s.next nd (-1)).2.2
      exact ⟨by omega, rfl⟩
    split at h
    · rename_i hk
      have hin := tk_in (l := l) (p := s.read) (by rw [hk]; decide)
      obtain ⟨c1, rfl⟩ := leafC h
      exact (Mks.next hin (by rw [hk]; decide)).trans (Mks.lay c1 (by decide : isSt (2 : Int) = false))
    · split at h
      · rename_i hk
        have hin := tk_in (l := l) (p := s.read) (by rw [hk]; decide)
        obtain ⟨c1, rfl⟩ := leafC h
        exact (Mks.next hin (by rw [hk]; decide)).trans (Mks.lay c1 (by decide : isSt (3 : Int) = false))
      · split at h
        · exact run_marks n .group s k t h hc
        · split at h
          · rename_i hk
            have hin := tk_in (l := l) (p := s.read) (by rw [hk]; decide)
            obtain ⟨b, u, h1, h2⟩ := bind_ok h
            cases h2
            have q3 := (lay_read u { kind := 8, a := b } (-1)).2.2
            exact (Mks.next hin (by rw [hk]; decide)).trans ((run_marks n .group s.next b u h1 (by omega)).trans (Mks.lay (by omega) (by decide : isSt (8 : Int) = false)))
          · split at h
            · rename_i hk
              have hin := tk_in (l := l) (p := s.read) (by rw [hk]; decide)
              obtain ⟨b, u, h1, h2⟩ := bind_ok h
              cases h2
              have q3 := (lay_read u { kind := 9, a := b } (-1)).2.2
              exact (Mks.next hin (by rw [hk]; decide)).trans ((run_marks n .group s.next b u h1 (by omega)).trans (Mks.lay (by omega) (by decide : isSt (9 : Int) = false)))
            · exact absurd h fault_not_ok
  | n + 1, .group, s, k, t, h, hc => by
    simp only [run] at h
    split at h
    · rename_i hk
      have hin := tk_in (l := l) (p := s.read) (by rw [hk]; decide)
      split at h
      · cases h
      · obtain ⟨b, u, h1, h2⟩ := bind_ok h
        split at h2
        · rename_i hk2
          have hin2 := tk_in (l := l) (p := u.read) (by rw [hk2]; decide)
          cases h2
          have r := run_marks n .inside _ k u h1 hc
          exact ((Mks.next hin (by rw [hk]; decide)).trans ⟨r.le, r.ex⟩).trans ((Mks.next hin2 (by rw [hk2]; decide)).opn _)
        · exact absurd h2 fault_not_ok
    · exact absurd h fault_not_ok
  | n + 1, .inside, s, k, t, h, hc => by
    simp only [run] at h
    split at h
    · cases h
      have q3 := (lay_read s { kind := 1 } (-1)).2.2
      exact Mks.lay (by omega) (by decide : isSt (1 : Int) = false)
    · exact run_marks n .or s k t h hc
/-- A row that ends with its one TkEnd. -/
structure TEnds (l : List Tk) : Prop where
  pos : 0 < l.length
  last : (tkAt l (l.length - 1)).kind = 10
  only : ∀ p, p < l.length - 1 → (tkAt l p).kind ≠ 10
theorem TEnds.step {l : List Tk} (h : TEnds l) {p : Nat} (hk : (tkAt l p).kind ≠ 10) : p + 1 < l.length := by
  have h1 := tk_in hk
  have : p ≠ l.length - 1 := fun e => hk (by rw [e]; exact h.last)
  omega
theorem tk_mem {l : List Tk} {p : Nat} (h : p < l.length) : tkAt l p ∈ l := by unfold tkAt; rw [List.getD_eq_getElem?_getD, List.getElem?_eq_getElem h]; exact List.getElem_mem _
theorem run_range {l : List Tk} (hl : TEnds l) : ∀ (n : Nat) (m : Md) (s : PS) (k : Int) (t : PS), run l n m s = .ok k t → s.read < l.length → t.read < l.length
  | 0, _, _, _, _, h, _ => by cases h
  | n + 1, .or, s, k, t, h, hr => by
    obtain ⟨a, u, h1, h2⟩ := bind_ok h
    exact run_range hl n _ u k t h2 (run_range hl n _ s a u h1 hr)
  | n + 1, .orL a, s, k, t, h, hr => by
    simp only [run] at h
    split at h
    · rename_i hk
      obtain ⟨b, u, h1, h2⟩ := bind_ok h
      have r := run_range hl n _ s.next b u h1 (hl.step (by rw [hk]; decide))
      exact run_range hl n _ _ k t h2 (by rw [(lay_read u _ _).1]; exact r)
    · cases h; exact hr
  | n + 1, .row, s, k, t, h, hr => by
    obtain ⟨a, u, h1, h2⟩ := bind_ok h
    exact run_range hl n _ u k t h2 (run_range hl n _ s a u h1 hr)
  | n + 1, .rowL a, s, k, t, h, hr => by
    simp only [run] at h
    split at h
    · obtain ⟨b, u, h1, h2⟩ := bind_ok h
      have r := run_range hl n _ s b u h1 hr
      exact run_range hl n _ _ k t h2 (by rw [(lay_read u _ _).1]; exact r)
    · cases h; exact hr
  | n + 1, .post, s, k, t, h, hr => by
    obtain ⟨a, u, h1, h2⟩ := bind_ok h
    exact run_range hl n _ u k t h2 (run_range hl n _ s a u h1 hr)
  | n + 1, .postL a, s, k, t, h, hr => by
    simp only [run] at h
    split at h
    · rename_i hk
      exact run_range hl n _ _ k t h (by show (s.lay _ _).read + 1 < _; rw [(lay_read s _ _).1]; exact hl.step (by rw [hk]; decide))
    · split at h
      · rename_i hk
        exact run_range hl n _ _ k t h (by show (s.lay _ _).read + 1 < _; rw [(lay_read s _ _).1]; exact hl.step (by rw [hk]; decide))
      · cases h; exact hr
  | n + 1, .atom, s, k, t, h, hr => by
    simp only [run] at h
    split at h
    · rename_i hk
      cases h
      rw [(lay_read s.next _ _).1]; exact hl.step (by rw [hk]; decide)
    · split at h
      · rename_i hk
        cases h
        rw [(lay_read s.next _ _).1]; exact hl.step (by rw [hk]; decide)
      · split at h
        · exact run_range hl n _ s k t h hr
        · split at h
          · rename_i hk
            obtain ⟨b, u, h1, h2⟩ := bind_ok h
            cases h2
            rw [(lay_read u _ _).1]; exact run_range hl n _ s.next b u h1 (hl.step (by rw [hk]; decide))
          · split at h
            · rename_i hk
              obtain ⟨b, u, h1, h2⟩ := bind_ok h
              cases h2
              rw [(lay_read u _ _).1]; exact run_range hl n _ s.next b u h1 (hl.step (by rw [hk]; decide))
            · exact absurd h fault_not_ok
  | n + 1, .group, s, k, t, h, hr => by
    simp only [run] at h
    split at h
    · split at h
      · cases h
      · obtain ⟨b, u, h1, h2⟩ := bind_ok h
        split at h2
        · rename_i hk2
          cases h2
          exact hl.step (p := u.read) (by rw [hk2]; decide)
        · exact absurd h2 fault_not_ok
    · exact absurd h fault_not_ok
  | n + 1, .inside, s, k, t, h, hr => by
    simp only [run] at h
    split at h
    · cases h; rw [(lay_read s _ _).1]; exact hr
    · exact run_range hl n _ s k t h hr
def OpnOk (l : List Tk) (s : PS) : Prop := ∀ x ∈ s.opn, ∃ t ∈ l, t.at_ = x
theorem fault_at {l : List Tk} {s : PS} (hr : s.read < l.length) (ho : OpnOk l s) {e p : Int} (h : faultP l s = .bad e p) : ∃ t ∈ l, t.at_ = p := by
  unfold faultP at h
  split at h
  · rename_i q hk hq
    cases h
    exact ho p (List.mem_of_getLast? hq)
  · cases h; exact ⟨_, tk_mem hr, rfl⟩
/-- A fault's place is a token's. -/
theorem run_at {l : List Tk} (hl : TEnds l) : ∀ (n : Nat) (m : Md) (s : PS) (e p : Int), run l n m s = .bad e p → s.read < l.length → OpnOk l s → ∃ t ∈ l, t.at_ = p
  | 0, _, _, _, _, h, _, _ => by cases h
  | n + 1, .or, s, e, p, h, hr, ho => by
    rcases bind_bad h with h1 | ⟨a, u, h1, h2⟩
    · exact run_at hl n _ s e p h1 hr ho
    · exact run_at hl n _ u e p h2 (run_range hl n _ s a u h1 hr) (by have := (run_read n _ _ _ _ h1).2.1; unfold OpnOk; rw [this]; exact ho)
  | n + 1, .orL a, s, e, p, h, hr, ho => by
    simp only [run] at h
    split at h
    · rename_i hk
      rcases bind_bad h with h1 | ⟨b, u, h1, h2⟩
      · exact run_at hl n _ s.next e p h1 (hl.step (by rw [hk]; decide)) ho
      · have r := run_range hl n _ s.next b u h1 (hl.step (by rw [hk]; decide))
        have o : u.opn = s.opn := (run_read n _ _ _ _ h1).2.1
        exact run_at hl n _ _ e p h2 (by rw [(lay_read u _ _).1]; exact r) (by unfold OpnOk; rw [(lay_read u _ _).2.1, o]; exact ho)
    · cases h
  | n + 1, .row, s, e, p, h, hr, ho => by
    rcases bind_bad h with h1 | ⟨a, u, h1, h2⟩
    · exact run_at hl n _ s e p h1 hr ho
    · exact run_at hl n _ u e p h2 (run_range hl n _ s a u h1 hr) (by have := (run_read n _ _ _ _ h1).2.1; unfold OpnOk; rw [this]; exact ho)
  | n + 1, .rowL a, s, e, p, h, hr, ho => by
    simp only [run] at h
    split at h
    · rcases bind_bad h with h1 | ⟨b, u, h1, h2⟩
      · exact run_at hl n _ s e p h1 hr ho
      · have r := run_range hl n _ s b u h1 hr
        have o : u.opn = s.opn := (run_read n _ _ _ _ h1).2.1
        exact run_at hl n _ _ e p h2 (by rw [(lay_read u _ _).1]; exact r) (by unfold OpnOk; rw [(lay_read u _ _).2.1, o]; exact ho)
    · cases h
  | n + 1, .post, s, e, p, h, hr, ho => by
    rcases bind_bad h with h1 | ⟨a, u, h1, h2⟩
    · exact run_at hl n _ s e p h1 hr ho
    · exact run_at hl n _ u e p h2 (run_range hl n _ s a u h1 hr) (by have := (run_read n _ _ _ _ h1).2.1; unfold OpnOk; rw [this]; exact ho)
  | n + 1, .postL a, s, e, p, h, hr, ho => by
    simp only [run] at h
    split at h
    · rename_i hk
      exact run_at hl n _ _ e p h (by show (s.lay _ _).read + 1 < _; rw [(lay_read s _ _).1]; exact hl.step (by rw [hk]; decide)) (by unfold OpnOk; show ∀ x ∈ (s.lay _ _).opn, _; rw [(lay_read s _ _).2.1]; exact ho)
    · split at h
      · rename_i hk
        exact run_at hl n _ _ e p h (by show (s.lay _ _).read + 1 < _; rw [(lay_read s _ _).1]; exact hl.step (by rw [hk]; decide)) (by unfold OpnOk; show ∀ x ∈ (s.lay _ _).opn, _; rw [(lay_read s _ _).2.1]; exact ho)
      · cases h
  | n + 1, .atom, s, e, p, h, hr, ho => by
    simp only [run] at h
    split at h
    · cases h
    · split at h
      · cases h
      · split at h
        · exact run_at hl n _ s e p h hr ho
        · split at h
          · rename_i hk
            rcases bind_bad h with h1 | ⟨b, u, h1, h2⟩
            · exact run_at hl n _ s.next e p h1 (hl.step (by rw [hk]; decide)) ho
            · cases h2
          · split at h
            · rename_i hk
              rcases bind_bad h with h1 | ⟨b, u, h1, h2⟩
              · exact run_at hl n _ s.next e p h1 (hl.step (by rw [hk]; decide)) ho
              · cases h2
            · exact fault_at hr ho h
  | n + 1, .group, s, e, p, h, hr, ho => by
    simp only [run] at h
    split at h
    · rename_i hk
      have ho2 : OpnOk l { s.next with opn := s.opn ++ [(tkAt l s.read).at_] } := fun x hx => by
        rcases List.mem_append.1 hx with h | h
        · exact ho x h
        · rw [List.mem_singleton] at h; exact ⟨_, tk_mem hr, h.symm⟩
      split at h
      · cases h; exact ⟨_, tk_mem hr, rfl⟩
      · rcases bind_bad h with h1 | ⟨b, u, h1, h2⟩
        · exact run_at hl n _ _ e p h1 (hl.step (p := s.read) (by rw [hk]; decide)) ho2
        · have r := run_range hl n _ _ b u h1 (hl.step (p := s.read) (by rw [hk]; decide))
          have o : u.opn = _ := (run_read n _ _ _ _ h1).2.1
          split at h2
          · cases h2
          · exact fault_at r (by unfold OpnOk; rw [o]; exact ho2) h2
    · exact fault_at hr ho h
  | n + 1, .inside, s, e, p, h, hr, ho => by
    simp only [run] at h
    split at h
    · cases h
    · exact run_at hl n _ s e p h hr ho
theorem parse_at {l : List Tk} (hl : TEnds l) {e p : Int} (h : parseP l = .bad e p) : ∃ t ∈ l, t.at_ = p := by
  rcases bind_bad h with h1 | ⟨a, u, h1, h2⟩
  · exact run_at hl _ _ {} e p h1 hl.pos (fun x hx => by simp at hx)
  · have r := run_range hl _ _ {} a u h1 hl.pos
    have o : u.opn = [] := (run_read _ _ _ _ _ h1).2.1
    split at h2
    · split at h2
      · cases h2; exact ⟨_, tk_mem r, rfl⟩
      · cases h2
    · exact fault_at r (fun x hx => by rw [o] at hx; simp at hx) h2
/-- The stars and repeats of what is parsed are the tokens', in their order. -/
theorem parse_marks {l : List Tk} (hl : TEnds l) {k : Int} {t : PS} (h : parseP l = .ok k t) : ∃ P : List (Nd × Int), t.nodes = P.map (·.1) ∧ t.ats = P.map (·.2) ∧ (∀ x ∈ P, isSt x.1.kind = false → x.2 = -1) ∧ P.filterMap mkN = l.filterMap stT := by
  obtain ⟨a, u, h1, h2⟩ := bind_ok h
  have r := run_range hl _ _ {} a u h1 hl.pos
  split at h2
  · rename_i hk
    split at h2
    · cases h2
    · cases h2
      obtain ⟨-, P, p1, p2, p3, p4⟩ := run_marks _ _ {} k u h1 (by omega)
      refine ⟨P, by show u.nodes = _; simpa using p1, by show u.ats = _; simpa using p2, p3, ?_⟩
      rw [p4]
      show sts l 0 u.read = _
      have hlast : u.read = l.length - 1 := by
        rcases Nat.lt_or_ge u.read (l.length - 1) with h | h
        · exact absurd hk (hl.only _ h)
        · omega
      have e1 : l.filterMap stT = sts l 0 l.length := by unfold sts; rw [List.drop_zero, Nat.sub_zero, List.take_length]
      have e2 : sts l (l.length - 1) l.length = [] := by
        have hp := hl.pos
        have := sts_one (l := l) (p := l.length - 1) (by omega)
        rw [show l.length - 1 + 1 = l.length by omega] at this
        rw [this]; unfold stT; rw [hl.last]; rfl
      rw [hlast, e1, sts_add (l := l) (i := 0) (j := l.length - 1) (k := l.length) (Nat.zero_le _) (by omega), e2, List.append_nil]
  · exact absurd h2 fault_not_ok
theorem parse_not_out (l : List Tk) : parseP l ≠ .out := by
  intro h
  rcases bind_out h with h1 | ⟨a, u, h1, h2⟩
  · exact run_fuel _ _ {} (by unfold fuelP rankM; simp) h1
  · split at h2
    · split at h2 <;> cases h2
    · exact fault_not_out h2
end Go.Proofs.Ytencdlcpnbdlbaa
