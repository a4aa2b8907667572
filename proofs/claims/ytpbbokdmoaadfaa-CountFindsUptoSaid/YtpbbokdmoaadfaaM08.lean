/- Rows of tokens in memory, whose numbers may be any. -/
import Derived.Test.YtpbbokdmoaadfaaM06
import Derived.Test.YtpbbokdmoaadfaaM07
import Derived.Test.YtpbbokdmoaadfaaM03
import Derived.Test.YtpbbokdmoaadfaaM05
import Derived.Test.YtpbbokdmoaadfaaRows
import Derived.ProofKit
import Derived.OpenShut
import Derived.ChangeOld
import Derived.Below
import Derived.Deep.DeepHandedRow
import Derived.Lib.LaidTab
import Derived.Lib.SmallJoins
import Derived.Deep.Slices
import Derived.ChangeSame
import Derived.ChangeMaps5
namespace Go.Proofs.Ytpbbokdmoaadfaa
set_option maxHeartbeats 64000000
set_option maxRecDepth 1000000
set_option linter.all false
open Go Go.RowKit
end Go.Proofs.Ytpbbokdmoaadfaa
namespace Go.Proofs.Ytpbbokdmoaadfaa
set_option maxHeartbeats 64000000
set_option maxRecDepth 1000000
set_option linter.all false
open Go Go.RowKit Go.ChangeShapes Go.WideShapes Go.ChangeAt Go.Joins
theorem own : ownKnob Try.prog.godebug = none := by kernel_rfl
theorem laidOut : laidOutB Try.prog = true := by kernel_rfl
theorem cellsCls : Try.prog.cellsOf 42 = 4 := by kernel_rfl
theorem cellsU64 : Try.prog.cellsOf 40 = 1 := by kernel_rfl
theorem u64_nat {a : Int} (h : (Lit.int .u64 a).wf = true) : ∃ n : Nat, a = n /\ n < 18446744073709551616 := by
 have : 0 <= a /\ a <= 18446744073709551615 := by simpa [Lit.wf, IntKind.min, IntKind.max, IntKind.signed, IntKind.bits] using h
 exact ⟨a.toNat, by omega, by omega⟩
theorem u8_nat {a : Int} (h : (Lit.int .u8 a).wf = true) : ∃ n : Nat, a = n /\ n < 256 := by
 have : 0 <= a /\ a <= 255 := by simpa [Lit.wf, IntKind.min, IntKind.max, IntKind.signed, IntKind.bits] using h
 exact ⟨a.toNat, by omega, by omega⟩
section
variable {H : Type} {enc : TypeId × Value -> H} {W : World} {base : Nat} {t : TypeId} {v : Value} {d : DataW H} {p : List MemPlace}
theorem places_lt (h : DataW.Trod enc Try.prog W 0 (fun _ => true) true t v d p) : ∀ x ∈ p, x.block < W.heap.size := by
 obtain ⟨m, hm⟩ := h
 exact DataW.trod_lt m _ _ _ hm
end
section
variable {H : Type} {enc : TypeId × Value -> H} {W : World} {base : Nat} {v : Value} {d : DataW H} {p : List MemPlace}
theorem cls_words {n : Nat} {cs : List Value} {x : DataW H × List MemPlace} (hlen : cs.length = 4) (h : DataW.trod enc Try.prog W 0 (fun _ => true) true n 42 cs = some x) : ∃ s : BitVec 256, ∀ j, j < 4 -> cs[j]? = some (.int .u64 (wd s j)) := by
 obtain ⟨xs, m, _, _, _, hn, hel⟩ := DataW.trod_array Try.underlying42 h
 match cs, hlen with
 | [c0, c1, c2, c3], _ =>
  have get : ∀ (i : Nat) (c : Value), i < 4 -> (([c0, c1, c2, c3] : List Value).drop (i * 1)).take 1 = [c] -> ∃ n : Nat, c = .int .u64 n /\ n < 18446744073709551616 := by
   intro i c hi hc
   have := hel i hi
   rw [cellsU64, hc] at this
   have hx : xs[i]? = some (xs[i]'(by omega)) := by simp
   rw [hx] at this
   obtain ⟨a, e, _, wf⟩ := DataW.trod_int Try.underlying40 this
   obtain ⟨n, rfl, hlt⟩ := u64_nat wf
   exact ⟨n, by simpa using e, hlt⟩
  obtain ⟨n0, rfl, l0⟩ := get 0 c0 (by omega) rfl
  obtain ⟨n1, rfl, l1⟩ := get 1 c1 (by omega) rfl
  obtain ⟨n2, rfl, l2⟩ := get 2 c2 (by omega) rfl
  obtain ⟨n3, rfl, l3⟩ := get 3 c3 (by omega) rfl
  obtain ⟨s, e0, e1, e2, e3⟩ := of_words n0 n1 n2 n3 l0 l1 l2 l3
  refine ⟨s, fun j hj => ?_⟩
  rcases (by omega : j = 0 \/ j = 1 \/ j = 2 \/ j = 3) with rfl | rfl | rfl | rfl
  ·rw [e0]; rfl
  ·rw [e1]; rfl
  ·rw [e2]; rfl
  ·rw [e3]; rfl
end
section
variable {H : Type} {enc : TypeId × Value -> H} {W : World} {base : Nat} {v : Value} {d : DataW H} {p : List MemPlace}
theorem cellsNd : Try.prog.cellsOf 44 = 10 := by kernel_rfl
theorem cellsI : Try.prog.cellsOf 3 = 1 := by kernel_rfl
theorem cellsS : Try.prog.cellsOf 9 = 1 := by kernel_rfl
theorem cellsDesc : Try.prog.cellsOf 24 = 1 := by kernel_rfl
theorem cellsNds : Try.prog.cellsOf 22 = 1 := by kernel_rfl
theorem node_words {n : Nat} {cs : List Value} {x : DataW H × List MemPlace} (hlen : cs.length = 10) (h : DataW.trod enc Try.prog W 0 (fun _ => true) true n 44 cs = some x) :
 ∃ nd : Nd, (∀ j, j < 10 -> cs[j]? = (ndC nd)[j]?) /\ nd.text.length ∈ x.1.weights Try.prog 44 := by
 obtain ⟨xs, m, _, rfl, _, hn, hel⟩ := DataW.trod_struct Try.underlying44 h
 match cs, hlen with
 | [c0, c1, c2, c3, c4, c5, c6, c7, c8, c9], _ =>
  match xs, hn with
  | [y0, y1, y2, y3, y4, y5, y6], _ =>
   have e0 : DataW.trod enc Try.prog W 0 (fun _ => true) true m 3 [c0] = some y0 := by have h := hel 0 _ rfl; simp [cellsI] at h; exact h
   have e1 : DataW.trod enc Try.prog W 0 (fun _ => true) true m 3 [c1] = some y1 := by have h := hel 1 _ rfl; simp [cellsI] at h; exact h
   have e2 : DataW.trod enc Try.prog W 0 (fun _ => true) true m 3 [c2] = some y2 := by have h := hel 2 _ rfl; simp [cellsI] at h; exact h
   have e3 : DataW.trod enc Try.prog W 0 (fun _ => true) true m 3 [c3] = some y3 := by have h := hel 3 _ rfl; simp [cellsI] at h; exact h
   have e4 : DataW.trod enc Try.prog W 0 (fun _ => true) true m 3 [c4] = some y4 := by have h := hel 4 _ rfl; simp [cellsI] at h; exact h
   have e5 : DataW.trod enc Try.prog W 0 (fun _ => true) true m 42 [c5, c6, c7, c8] = some y5 := by have h := hel 5 _ rfl; simp [cellsCls] at h; exact h
   have e6 : DataW.trod enc Try.prog W 0 (fun _ => true) true m 9 [c9] = some y6 := by have h := hel 6 _ rfl; simp [cellsS] at h; exact h
   obtain ⟨a0, h0, _, _⟩ := DataW.trod_int Try.underlying3 e0
   obtain ⟨a1, h1, _, _⟩ := DataW.trod_int Try.underlying3 e1
   obtain ⟨a2, h2, _, _⟩ := DataW.trod_int Try.underlying3 e2
   obtain ⟨a3, h3, _, _⟩ := DataW.trod_int Try.underlying3 e3
   obtain ⟨a4, h4, _, _⟩ := DataW.trod_int Try.underlying3 e4
   obtain ⟨s, h5⟩ := cls_words rfl e5
   obtain ⟨t, h6, hy6, _⟩ := DataW.trod_string Try.underlying9 e6
   simp at h0 h1 h2 h3 h4 h5 h6
   subst h0 h1 h2 h3 h4 h6
   have k0 := h5 0 (by omega)
   have k1 := h5 1 (by omega)
   have k2 := h5 2 (by omega)
   have k3 := h5 3 (by omega)
   simp at k0 k1 k2 k3
   subst k0 k1 k2 k3
   refine ⟨⟨a0, a1, a2, a3, a4, s, t.data.toList⟩, fun j hj => ?_, ?_⟩
   ·unfold ndC
    rcases (by omega : j = 0 \/ j = 1 \/ j = 2 \/ j = 3 \/ j = 4 \/ j = 5 \/ j = 6 \/ j = 7 \/ j = 8 \/ j = 9) with rfl | rfl | rfl | rfl | rfl | rfl | rfl | rfl | rfl | rfl <;> first | rfl | (simp; exact (bs_self t).symm)
   ·subst hy6
    simp [DataW.weights, DataW.weightsEach, Try.underlying44]
theorem mem_weightsAll {P : Program} {e : TypeId} {y : Nat} {a : DataW H} : ∀ {l : List (DataW H)}, a ∈ l -> y ∈ a.weights P e -> y ∈ DataW.weightsAll P e l
 | [], h, _ => by cases h
 | b :: l, h, hy => by
  unfold DataW.weightsAll
  rcases List.mem_cons.1 h with rfl | h
  ·exact List.mem_append_left _ hy
  ·exact List.mem_append_right _ (mem_weightsAll h hy)
theorem open_desc (hv : Value.okWide Try.prog W .any base 24 v) (h : DataW.Trod enc Try.prog W 0 (fun _ => true) true 24 v d p) (hw : ∀ x ∈ d.weights Try.prog 24, x <= reachBytes) :
 ∃ (l : List Nd) (A : Option Addr) (C : Nat), v = .agg #[.slice A l.length C] /\ NRow W A l /\ l.length <= C /\ l.length <= 9223372036854775807 /\ Txt l := by
 obtain ⟨cs, rfl, hsz⟩ := okWide_struct Try.underlying24 hv
 rw [cellsDesc] at hsz
 obtain ⟨c, rfl⟩ : ∃ c, cs = #[c] := by
  obtain ⟨l⟩ := cs
  match l, hsz with
  | [c], _ => exact ⟨c, rfl⟩
 obtain ⟨fuel, hf⟩ := h
 obtain ⟨y0, n, hx, _, hy⟩ := trod_struct1 Try.underlying24 hf
 simp only [Prod.mk.injEq] at hx
 obtain ⟨rfl, _⟩ := hx
 simp only [cellsNds] at hy
 rcases Go.Deep.open_slice Try.underlying22 hy with ⟨hcs, _⟩ | ⟨x, ln, cp, m, n', D, Pl, hcs, hb, hl, hm, hmm, hx, hi⟩
 ·simp [Value.cells] at hcs
  subst hcs
  exact ⟨[], none, 0, rfl, NRow.nil _ _, Nat.le_refl _, by simp, fun n hn => by cases hn⟩
 ·simp [Value.cells] at hcs
  subst hcs
  simp only [if_true] at hmm
  subst hmm
  unfold maxLen at hm
  have key : ∀ i, i < ln -> ∃ nd : Nd, (∀ j, j < 10 -> W.cell? (x.add (i * 10 + j)) = (ndC nd)[j]?) /\ nd.text.length ∈ (D i).weights Try.prog 44 := by
   intro i hil
   obtain ⟨cs', hc, ht⟩ := hi i (by omega)
   rw [cellsNd] at hc
   obtain ⟨_, hcl, hat⟩ := World.cells?_some hc
   obtain ⟨nd, h1, h2⟩ := node_words hcl ht
   exact ⟨nd, fun j hj => by rw [<- Go.Deep.add_add, hat j hj, h1 j hj], h2⟩
  let f : Nat -> Nd := fun i => if h : i < ln then Classical.choose (key i h) else nd0
  have hfs : ∀ i (hil : i < ln), (∀ j, j < 10 -> W.cell? (x.add (i * 10 + j)) = (ndC (f i))[j]?) /\ (f i).text.length ∈ (D i).weights Try.prog 44 := fun i hil => by
   have hfi : f i = Classical.choose (key i hil) := by simp [f, hil]
   rw [hfi]; exact Classical.choose_spec (key i hil)
  have hfl : ((List.range ln).map f).length = ln := by simp
  refine ⟨(List.range ln).map f, some x, m, by rw [hfl], fun i hil => ?_, by rw [hfl]; exact hl, by rw [hfl]; omega, fun nd hnd => ?_⟩
  ·rw [hfl] at hil
   have hgd : ((List.range ln).map f).getD i nd0 = f i := by simp [hil]
   have hs := (hfs i hil).1
   obtain ⟨b, off, spot⟩ := x
   have hc00 := (hfs 0 (by omega)).1 0 (by omega)
   have hspot : spot = none := by
    have hc : (ndC (f 0))[0]? = some (.int .i64 (f 0).kind) := rfl
    rw [hc] at hc00
    simpa [Addr.add] using World.cell?_spot hc00
   subst hspot
   have hadd : ∀ k, (⟨b, off, none⟩ : Addr).add k = ⟨b, off + k, none⟩ := fun k => by cases k <;> simp [Addr.add]
   refine ⟨b, off, rfl, ?_, fun j hj => ?_⟩
   ·have hc : (ndC (f i))[0]? = some (.int .i64 (f i).kind) := rfl
    have := hs 0 (by omega)
    rw [hc] at this
    have := World.block_lt_of_cell? W _ this
    rw [hadd] at this; exact this
   ·have := hs j hj
    rw [hadd] at this
    rw [hgd, Nat.add_assoc]; exact this
  ·obtain ⟨i, hi2, rfl⟩ := List.mem_map.1 hnd
   have hil := List.mem_range.1 hi2
   have hmem := (hfs i hil).2
   have : (f i).text.length <= reachBytes := by
    apply hw
    subst hx
    unfold DataW.weights
    simp only [Try.underlying24]
    simp only [DataW.weightsEach, DataW.weights, Try.underlying22, List.map_cons, List.map_nil, List.append_nil]
    refine List.mem_cons_of_mem _ (List.mem_append_left _ (mem_weightsAll (List.mem_map.2 ⟨i, hi2, rfl⟩) hmem))
   unfold reachBytes at this
   omega
end
section
variable {H : Type} {enc : TypeId × Value -> H} {W : World} {base : Nat} {v : Value} {d : DataW H} {p : List MemPlace}
end
noncomputable def laidWorld0 (os : Os) : World := World.holding Try.prog os ⟨#[], #[], []⟩
end Go.Proofs.Ytpbbokdmoaadfaa
namespace Go.Proofs.Ytpbbokdmoaadfaa
set_option maxHeartbeats 64000000
set_option maxRecDepth 1000000
set_option linter.all false
open Go Go.RowKit Go.ChangeShapes Go.WideShapes Go.ChangeAt Go.Joins
section
variable {H : Type} {enc : TypeId × Value -> H} {W : World} {base : Nat} {v : Value} {d : DataW H} {p : List MemPlace}
end
end Go.Proofs.Ytpbbokdmoaadfaa
namespace Go.Proofs.Ytpbbokdmoaadfaa
set_option maxHeartbeats 64000000
set_option maxRecDepth 1000000
set_option linter.all false
open Go
def partS (S : List Nat) (a : Int) : Nat := if 0 <= a /\ a < (S.length : Int) then S.getD a.toNat 0 else 0
def powW (a : Nat) (k : Int) : Nat := if k = 0 then 1 else a
def tmsW (a : Nat) (lo hi : Int) : Nat := min (powW a lo + (if lo < hi then powW a (lo + 1) else 0)) 2
def waysW (n : Nd) (S : List Nat) : Nat :=
 if n.kind = 1 then 1
 else if n.kind = 4 then min (partS S n.a * partS S n.b) 2
 else if n.kind = 5 then min (partS S n.a + partS S n.b) 2
 else if n.kind = 6 then min (1 + partS S n.a) 2
 else if n.kind = 7 then tmsW (partS S n.a) n.lo n.hi
 else 0
def wys (l : List Nd) : Nat -> List Nat
 | 0 => []
 | k + 1 => wys l k ++ [waysW (atN l k) (wys l k)]
def wyN (l : List Nd) (i : Nat) : Nat := waysW (atN l i) (wys l i)
theorem wys_length (l : List Nd) : ∀ k, (wys l k).length = k
 | 0 => rfl
 | k + 1 => by rw [wys, List.length_append, wys_length l k]; rfl
theorem wys_get (l : List Nd) : ∀ k j, j < k -> (wys l k).getD j 0 = wyN l j
 | 0, j, h => absurd h (Nat.not_lt_zero j)
 | k + 1, j, h => by
  rw [wys, List.getD_eq_getElem?_getD]
  rcases Nat.lt_or_ge j k with h1 | h1
  ·rw [List.getElem?_append_left (by rw [wys_length]; exact h1), <- List.getD_eq_getElem?_getD]; exact wys_get l k j h1
  ·rw [List.getElem?_append_right (by rw [wys_length]; exact h1), wys_length, show j = k by omega, Nat.sub_self]; rfl
theorem partW_at {l : List Nd} {i : Nat} {a : Int} (h0 : 0 <= a) (h1 : a < (i : Int)) : partS (wys l i) a = wyN l a.toNat := by
 unfold partS
 rw [wys_length, if_pos ⟨h0, h1⟩, wys_get l i _ (by omega)]
theorem partS_two {S : List Nat} (h : ∀ x ∈ S, x <= 2) (a : Int) : partS S a <= 2 := by
 unfold partS
 split
 ·rename_i hh
  rw [List.getD_eq_getElem?_getD, List.getElem?_eq_getElem (by omega)]
  exact h _ (List.getElem_mem _)
 ·exact Nat.zero_le _
theorem waysW_le (n : Nd) (S : List Nat) : waysW n S <= 2 := by
 unfold waysW tmsW
 (repeat' split) <;> first | exact Nat.min_le_right _ _ | omega
theorem wys_le (l : List Nd) : ∀ k, ∀ x ∈ wys l k, x <= 2
 | 0, x, h => by simp [wys] at h
 | k + 1, x, h => by
  rw [wys, List.mem_append] at h
  rcases h with h | h
  ·exact wys_le l k x h
  ·rw [List.mem_singleton.mp h]; exact waysW_le _ _
def badW (l : List Nd) (i : Nat) : Bool := decide (((atN l i).kind = 6 \/ (atN l i).kind = 7) /\ partS (wys l l.length) (atN l i).a ≠ 0)
def fstW (l : List Nd) : Nat × Bool := match (List.range l.length).find? (badW l) with | some i => (i, true) | none => (0, false)
theorem fstW_some {l : List Nd} {i : Nat} (hi : i < l.length) (h : badW l i = true) (hn : ∀ j, j < i -> badW l j = false) : fstW l = (i, true) := by
 unfold fstW
 have : (List.range l.length).find? (badW l) = some i := by
  rw [List.find?_range_eq_some]
  exact ⟨h, List.mem_range.2 hi, fun j hj => by rw [hn j hj]; rfl⟩
 rw [this]
theorem fstW_none {l : List Nd} (hn : ∀ j, j < l.length -> badW l j = false) : fstW l = (0, false) := by
 unfold fstW
 have : (List.range l.length).find? (badW l) = none := by
  rw [List.find?_range_eq_none]
  exact fun j hj => by rw [hn j hj]; rfl
 rw [this]
theorem fstW_right (l : List Nd) : (fstW l).2 = false ↔ ∀ j, j < l.length -> badW l j = false := by
 constructor
 ·intro h
  unfold fstW at h
  cases hf : (List.range l.length).find? (badW l) with
  | some i => rw [hf] at h; cases h
  | none =>
   rw [List.find?_range_eq_none] at hf
   exact fun j hj => by simpa using hf j hj
 ·intro h; rw [fstW_none h]
def Rgt (l : List Nd) : Prop := Form l /\ ∀ i, i < l.length -> badW l i = false
theorem badW_form {l : List Nd} (h : Form l) {i : Nat} (hi : i < l.length) : badW l i = true ↔ ((atN l i).kind = 6 \/ (atN l i).kind = 7) /\ wyN l (i - 1) ≠ 0 := by
 unfold badW
 rw [decide_eq_true_iff]
 have hc := (h.2.1 i hi).cs rfl
 constructor
 ·rintro ⟨hk, hp⟩
  cases hc with
  | leaf hl hf => unfold leafK at hl; omega
  | two hl => omega
  | one hl h0 ha hb h7 hr hc hf =>
   rw [partW_at (by omega) (by omega), show (atN l i).a.toNat = i - 1 by omega] at hp
   exact ⟨hk, hp⟩
 ·rintro ⟨hk, hp⟩
  cases hc with
  | leaf hl hf => unfold leafK at hl; omega
  | two hl => omega
  | one hl h0 ha hb h7 hr hc hf =>
   rw [partW_at (by omega) (by omega), show (atN l i).a.toNat = i - 1 by omega]
   exact ⟨hk, hp⟩
def rsW (a : Nat) (lo : Int) : Nat -> Nat
 | 0 => 0
 | k + 1 => min 2 (rsW a lo k + powW a (lo + k))
theorem powW_step {a : Nat} (ha : a <= 2) {k : Nat} : min 2 (powW a (k : Int) * a) = powW a ((k + 1 : Nat) : Int) := by
 unfold powW
 rw [if_neg (show ¬ ((k + 1 : Nat) : Int) = 0 by omega)]
 have : a = 0 \/ a = 1 \/ a = 2 := by omega
 by_cases h : (k : Int) = 0
 ·rw [if_pos h]; omega
 ·rw [if_neg h]; rcases this with rfl | rfl | rfl <;> rfl
theorem powW_le {a : Nat} (ha : a <= 2) (k : Int) : powW a k <= 2 := by unfold powW; split <;> omega
theorem rsW_le (a : Nat) (lo : Int) (k : Nat) : rsW a lo k <= 2 := by
 cases k with
 | zero => exact Nat.zero_le _
 | succ k => exact Nat.min_le_left _ _
theorem rsW_more {a : Nat} (ha : a <= 2) {lo : Int} (hl : 0 <= lo) : ∀ k : Nat, rsW a lo (k + 2) = min (powW a lo + powW a (lo + 1)) 2
 | 0 => by
  have h1 := powW_le ha lo
  show min 2 (min 2 (0 + powW a (lo + ((0 : Nat) : Int))) + powW a (lo + ((1 : Nat) : Int))) = _
  have e0 : lo + ((0 : Nat) : Int) = lo := by omega
  have e1 : lo + ((1 : Nat) : Int) = lo + 1 := by omega
  rw [e0, e1]; omega
 | k + 1 => by
  rw [rsW, rsW_more ha hl k]
  unfold powW
  rw [if_neg (show ¬ lo + 1 = 0 by omega), if_neg (show ¬ lo + ((k + 2 : Nat) : Int) = 0 by omega)]
  split <;> omega
theorem rsW_all {a : Nat} (ha : a <= 2) {lo hi : Int} (hl : 0 <= lo) (h : lo <= hi) : rsW a lo (hi - lo + 1).toNat = tmsW a lo hi := by
 unfold tmsW
 by_cases he : lo < hi
 ·rw [if_pos he]
  obtain ⟨k, hk⟩ : ∃ k : Nat, hi = lo + 1 + k := ⟨(hi - lo - 1).toNat, by omega⟩
  rw [show (hi - lo + 1).toNat = k + 2 by omega, rsW_more ha hl]
 ·rw [if_neg he]
  rw [show (hi - lo + 1).toNat = 1 by omega]
  show min 2 (0 + powW a (lo + ((0 : Nat) : Int))) = _
  have e0 : lo + ((0 : Nat) : Int) = lo := by omega
  rw [e0]; omega
end Go.Proofs.Ytpbbokdmoaadfaa
