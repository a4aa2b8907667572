/- Rows of tokens in memory, whose numbers may be any. -/
import Derived.Test.YtidoofdofdhjpaaM06
import Derived.Test.YtidoofdofdhjpaaM07
import Derived.Test.YtidoofdofdhjpaaM03
import Derived.Test.YtidoofdofdhjpaaM02
import Derived.Test.YtidoofdofdhjpaaM01
import Derived.Test.YtidoofdofdhjpaaRows
import Derived.ProofKit
import Derived.OpenShut
import Derived.ChangeOld
import Derived.Below
import Derived.Deep.DeepHandedRow
import Derived.Lib.LaidTab
import Derived.Lib.SmallJoins
import Derived.Deep.Slices
import Derived.ChangeSame
import Derived.ChangeMaps5
import Derived.Deep.Cut
namespace Go.Proofs.Ytidoofdofdhjpaa
open Go Go.RowKit
set_option linter.unusedVariables false
end Go.Proofs.Ytidoofdofdhjpaa
namespace Go.Proofs.Ytidoofdofdhjpaa
open Go Go.RowKit Go.ChangeShapes Go.WideShapes Go.ChangeAt Go.Joins
set_option maxRecDepth 100000
set_option linter.unusedVariables false
set_option linter.unusedSimpArgs false
theorem own : ownKnob Try.prog.godebug = none := by kernel_rfl
theorem laidOut : laidOutB Try.prog = true := by kernel_rfl
theorem cellsCls : Try.prog.cellsOf 35 = 4 := by kernel_rfl
theorem cellsU64 : Try.prog.cellsOf 33 = 1 := by kernel_rfl
theorem u64_nat {a : Int} (h : (Lit.int .u64 a).wf = true) : ∃ n : Nat, a = n /\ n < 18446744073709551616 := by
 have : 0 <= a /\ a <= 18446744073709551615 := by simpa [Lit.wf, IntKind.min, IntKind.max, IntKind.signed, IntKind.bits] using h
 exact ⟨a.toNat, by omega, by omega⟩
theorem u8_nat {a : Int} (h : (Lit.int .u8 a).wf = true) : ∃ n : Nat, a = n /\ n < 256 := by
 have : 0 <= a /\ a <= 255 := by simpa [Lit.wf, IntKind.min, IntKind.max, IntKind.signed, IntKind.bits] using h
 exact ⟨a.toNat, by omega, by omega⟩
section
variable {H : Type} {enc : TypeId × Value -> H} {W : World} {base : Nat} {t : TypeId} {v : Value} {d : DataW H} {p : List MemPlace}
theorem open_u8 (hv : Value.okWide Try.prog W .any base 5 v) (h : DataW.Trod enc Try.prog W 0 (fun _ => true) true 5 v d p) : ∃ n : Nat, n < 256 /\ v = .int .u8 (n : Int) := by
 obtain ⟨a, rfl, _, _, wf⟩ := open_int Try.underlying5 hv h
 obtain ⟨n, rfl, hlt⟩ := u8_nat wf
 exact ⟨n, hlt, rfl⟩
theorem places_lt (h : DataW.Trod enc Try.prog W 0 (fun _ => true) true t v d p) : ∀ x ∈ p, x.block < W.heap.size := by
 obtain ⟨m, hm⟩ := h
 exact DataW.trod_lt m _ _ _ hm
end
set_option linter.unusedVariables false
section
variable {H : Type} {enc : TypeId × Value -> H} {W : World} {base : Nat} {v : Value} {d : DataW H} {p : List MemPlace}
theorem cls_words {n : Nat} {cs : List Value} {x : DataW H × List MemPlace} (hlen : cs.length = 4) (h : DataW.trod enc Try.prog W 0 (fun _ => true) true n 35 cs = some x) : ∃ s : BitVec 256, ∀ j, j < 4 -> cs[j]? = some (.int .u64 (wd s j)) := by
 obtain ⟨xs, m, _, _, _, hn, hel⟩ := DataW.trod_array Try.underlying35 h
 match cs, hlen with
 | [c0, c1, c2, c3], _ =>
  have get : ∀ (i : Nat) (c : Value), i < 4 -> (([c0, c1, c2, c3] : List Value).drop (i * 1)).take 1 = [c] -> ∃ n : Nat, c = .int .u64 n /\ n < 18446744073709551616 := by
   intro i c hi hc
   have := hel i hi
   rw [cellsU64, hc] at this
   have hx : xs[i]? = some (xs[i]'(by omega)) := by simp
   rw [hx] at this
   obtain ⟨a, e, _, wf⟩ := DataW.trod_int Try.underlying33 this
   obtain ⟨n, rfl, hlt⟩ := u64_nat wf
   exact ⟨n, by simpa using e, hlt⟩
  obtain ⟨n0, rfl, l0⟩ := get 0 c0 (by omega) rfl
  obtain ⟨n1, rfl, l1⟩ := get 1 c1 (by omega) rfl
  obtain ⟨n2, rfl, l2⟩ := get 2 c2 (by omega) rfl
  obtain ⟨n3, rfl, l3⟩ := get 3 c3 (by omega) rfl
  obtain ⟨s, e0, e1, e2, e3⟩ := of_words n0 n1 n2 n3 l0 l1 l2 l3
  refine ⟨s, fun j hj => ?_⟩
  rcases (by omega : j = 0 \/ j = 1 \/ j = 2 \/ j = 3) with rfl | rfl | rfl | rfl
  ·rw [e0]; rfl
  ·rw [e1]; rfl
  ·rw [e2]; rfl
  ·rw [e3]; rfl
end
set_option linter.unusedVariables false
set_option linter.unusedSimpArgs false
section
variable {H : Type} {enc : TypeId × Value -> H} {W : World} {base : Nat} {v : Value} {d : DataW H} {p : List MemPlace}
theorem cellsNd : Try.prog.cellsOf 58 = 10 := by kernel_rfl
theorem cellsI : Try.prog.cellsOf 3 = 1 := by kernel_rfl
theorem cellsS : Try.prog.cellsOf 9 = 1 := by kernel_rfl
theorem cellsDesc : Try.prog.cellsOf 24 = 1 := by kernel_rfl
theorem cellsNds : Try.prog.cellsOf 22 = 1 := by kernel_rfl
theorem node_words {n : Nat} {cs : List Value} {x : DataW H × List MemPlace} (hlen : cs.length = 10) (h : DataW.trod enc Try.prog W 0 (fun _ => true) true n 58 cs = some x) :
 ∃ nd : Nd, (∀ j, j < 10 -> cs[j]? = (ndC nd)[j]?) /\ nd.text.length ∈ x.1.weights Try.prog 58 := by
 obtain ⟨xs, m, _, rfl, _, hn, hel⟩ := DataW.trod_struct Try.underlying58 h
 match cs, hlen with
 | [c0, c1, c2, c3, c4, c5, c6, c7, c8, c9], _ =>
  match xs, hn with
  | [y0, y1, y2, y3, y4, y5, y6], _ =>
   have e0 : DataW.trod enc Try.prog W 0 (fun _ => true) true m 3 [c0] = some y0 := by have h := hel 0 _ rfl; simp [cellsI] at h; exact h
   have e1 : DataW.trod enc Try.prog W 0 (fun _ => true) true m 3 [c1] = some y1 := by have h := hel 1 _ rfl; simp [cellsI] at h; exact h
   have e2 : DataW.trod enc Try.prog W 0 (fun _ => true) true m 3 [c2] = some y2 := by have h := hel 2 _ rfl; simp [cellsI] at h; exact h
   have e3 : DataW.trod enc Try.prog W 0 (fun _ => true) true m 3 [c3] = some y3 := by have h := hel 3 _ rfl; simp [cellsI] at h; exact h
   have e4 : DataW.trod enc Try.prog W 0 (fun _ => true) true m 3 [c4] = some y4 := by have h := hel 4 _ rfl; simp [cellsI] at h; exact h
   have e5 : DataW.trod enc Try.prog W 0 (fun _ => true) true m 35 [c5, c6, c7, c8] = some y5 := by have h := hel 5 _ rfl; simp [cellsCls] at h; exact h
   have e6 : DataW.trod enc Try.prog W 0 (fun _ => true) true m 9 [c9] = some y6 := by have h := hel 6 _ rfl; simp [cellsS] at h; exact h
   obtain ⟨a0, h0, _, _⟩ := DataW.trod_int Try.underlying3 e0
   obtain ⟨a1, h1, _, _⟩ := DataW.trod_int Try.underlying3 e1
   obtain ⟨a2, h2, _, _⟩ := DataW.trod_int Try.underlying3 e2
   obtain ⟨a3, h3, _, _⟩ := DataW.trod_int Try.underlying3 e3
   obtain ⟨a4, h4, _, _⟩ := DataW.trod_int Try.underlying3 e4
   obtain ⟨s, h5⟩ := cls_words rfl e5
   obtain ⟨t, h6, hy6, _⟩ := DataW.trod_string Try.underlying9 e6
   simp at h0 h1 h2 h3 h4 h5 h6
   subst h0 h1 h2 h3 h4 h6
   have k0 := h5 0 (by omega)
   have k1 := h5 1 (by omega)
   have k2 := h5 2 (by omega)
   have k3 := h5 3 (by omega)
   simp at k0 k1 k2 k3
   subst k0 k1 k2 k3
   refine ⟨⟨a0, a1, a2, a3, a4, s, t.data.toList⟩, fun j hj => ?_, ?_⟩
   ·unfold ndC
    rcases (by omega : j = 0 \/ j = 1 \/ j = 2 \/ j = 3 \/ j = 4 \/ j = 5 \/ j = 6 \/ j = 7 \/ j = 8 \/ j = 9) with rfl | rfl | rfl | rfl | rfl | rfl | rfl | rfl | rfl | rfl <;> first | rfl | (simp; exact (bs_self t).symm)
   ·subst hy6
    simp [DataW.weights, DataW.weightsEach, Try.underlying58]
theorem mem_weightsAll {P : Program} {e : TypeId} {y : Nat} {a : DataW H} : ∀ {l : List (DataW H)}, a ∈ l -> y ∈ a.weights P e -> y ∈ DataW.weightsAll P e l
 | [], h, _ => by cases h
 | b :: l, h, hy => by
  unfold DataW.weightsAll
  rcases List.mem_cons.1 h with rfl | h
  ·exact List.mem_append_left _ hy
  ·exact List.mem_append_right _ (mem_weightsAll h hy)
theorem open_desc (hv : Value.okWide Try.prog W .any base 24 v) (h : DataW.Trod enc Try.prog W 0 (fun _ => true) true 24 v d p) (hw : ∀ x ∈ d.weights Try.prog 24, x <= reachBytes) :
 ∃ (l : List Nd) (A : Option Addr) (C : Nat), v = .agg #[.slice A l.length C] /\ NRow W A l /\ l.length <= C /\ l.length <= 9223372036854775807 /\ Txt l := by
 obtain ⟨cs, rfl, hsz⟩ := okWide_struct Try.underlying24 hv
 rw [cellsDesc] at hsz
 obtain ⟨c, rfl⟩ : ∃ c, cs = #[c] := by
  obtain ⟨l⟩ := cs
  match l, hsz with
  | [c], _ => exact ⟨c, rfl⟩
 obtain ⟨fuel, hf⟩ := h
 obtain ⟨y0, n, hx, _, hy⟩ := trod_struct1 Try.underlying24 hf
 simp only [Prod.mk.injEq] at hx
 obtain ⟨rfl, _⟩ := hx
 simp only [cellsNds] at hy
 rcases Go.Deep.open_slice Try.underlying22 hy with ⟨hcs, _⟩ | ⟨x, ln, cp, m, n', D, Pl, hcs, hb, hl, hm, hmm, hx, hi⟩
 ·simp [Value.cells] at hcs
  subst hcs
  exact ⟨[], none, 0, rfl, NRow.nil _ _, Nat.le_refl _, by simp, fun n hn => by cases hn⟩
 ·simp [Value.cells] at hcs
  subst hcs
  simp only [if_true] at hmm
  subst hmm
  unfold maxLen at hm
  have key : ∀ i, i < ln -> ∃ nd : Nd, (∀ j, j < 10 -> W.cell? (x.add (i * 10 + j)) = (ndC nd)[j]?) /\ nd.text.length ∈ (D i).weights Try.prog 58 := by
   intro i hil
   obtain ⟨cs', hc, ht⟩ := hi i (by omega)
   rw [cellsNd] at hc
   obtain ⟨_, hcl, hat⟩ := World.cells?_some hc
   obtain ⟨nd, h1, h2⟩ := node_words hcl ht
   exact ⟨nd, fun j hj => by rw [<- Go.Deep.add_add, hat j hj, h1 j hj], h2⟩
  let f : Nat -> Nd := fun i => if h : i < ln then Classical.choose (key i h) else nd0
  have hfs : ∀ i (hil : i < ln), (∀ j, j < 10 -> W.cell? (x.add (i * 10 + j)) = (ndC (f i))[j]?) /\ (f i).text.length ∈ (D i).weights Try.prog 58 := fun i hil => by
   have hfi : f i = Classical.choose (key i hil) := by simp [f, hil]
   rw [hfi]; exact Classical.choose_spec (key i hil)
  have hfl : ((List.range ln).map f).length = ln := by simp
  refine ⟨(List.range ln).map f, some x, m, by rw [hfl], fun i hil => ?_, by rw [hfl]; exact hl, by rw [hfl]; omega, fun nd hnd => ?_⟩
  ·rw [hfl] at hil
   have hgd : ((List.range ln).map f).getD i nd0 = f i := by simp [hil]
   have hs := (hfs i hil).1
   obtain ⟨b, off, spot⟩ := x
   have hc00 := (hfs 0 (by omega)).1 0 (by omega)
   have hspot : spot = none := by
    have hc : (ndC (f 0))[0]? = some (.int .i64 (f 0).kind) := rfl
    rw [hc] at hc00
    simpa [Addr.add] using World.cell?_spot hc00
   subst hspot
   have hadd : ∀ k, (⟨b, off, none⟩ : Addr).add k = ⟨b, off + k, none⟩ := fun k => by cases k <;> simp [Addr.add]
   refine ⟨b, off, rfl, ?_, fun j hj => ?_⟩
   ·have hc : (ndC (f i))[0]? = some (.int .i64 (f i).kind) := rfl
    have := hs 0 (by omega)
    rw [hc] at this
    have := World.block_lt_of_cell? W _ this
    rw [hadd] at this; exact this
   ·have := hs j hj
    rw [hadd] at this
    rw [hgd, Nat.add_assoc]; exact this
  ·obtain ⟨i, hi2, rfl⟩ := List.mem_map.1 hnd
   have hil := List.mem_range.1 hi2
   have hmem := (hfs i hil).2
   have : (f i).text.length <= reachBytes := by
    apply hw
    subst hx
    unfold DataW.weights
    simp only [Try.underlying24]
    simp only [DataW.weightsEach, DataW.weights, Try.underlying22, List.map_cons, List.map_nil, List.append_nil]
    refine List.mem_cons_of_mem _ (List.mem_append_left _ (mem_weightsAll (List.mem_map.2 ⟨i, hi2, rfl⟩) hmem))
   unfold reachBytes at this
   omega
end
set_option linter.unusedVariables false
set_option linter.unusedSimpArgs false
section
variable {H : Type} {enc : TypeId × Value -> H} {W : World} {base : Nat} {v : Value} {d : DataW H} {p : List MemPlace}
end
noncomputable def laidWorld0 (os : Os) : World := World.holding Try.prog os ⟨#[], #[], []⟩
end Go.Proofs.Ytidoofdofdhjpaa
namespace Go.Proofs.Ytidoofdofdhjpaa
open Go Go.RowKit Go.ChangeShapes Go.WideShapes Go.ChangeAt Go.Joins
set_option maxRecDepth 100000
section
variable {H : Type} {enc : TypeId × Value -> H} {W : World} {base : Nat} {v : Value} {d : DataW H} {p : List MemPlace}
end
end Go.Proofs.Ytidoofdofdhjpaa
namespace Go.Proofs.Ytidoofdofdhjpaa
set_option linter.unusedVariables false
section
variable (key : Nat -> Nat)
end
def swap (d : Nat -> Nat) (i j : Nat) : Nat -> Nat := fun x => if x = i then d j else if x = j then d i else d x
section
variable {key : Nat -> Nat}
end
end Go.Proofs.Ytidoofdofdhjpaa
namespace Go.Proofs.Ytidoofdofdhjpaa
open Go Go.RowKit
set_option linter.unusedVariables false
end Go.Proofs.Ytidoofdofdhjpaa
namespace Go.Proofs.Ytidoofdofdhjpaa
set_option linter.unusedVariables false
end Go.Proofs.Ytidoofdofdhjpaa
