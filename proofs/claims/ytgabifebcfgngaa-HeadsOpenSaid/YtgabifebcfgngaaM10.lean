/- Form, Same, Leaf, Sub: walked. -/
import Derived.Test.YtgabifebcfgngaaM09
import Derived.Test.YtgabifebcfgngaaM07
import Derived.Test.YtgabifebcfgngaaM03
import Derived.Test.YtgabifebcfgngaaRows
import Derived.ProofKit
import Derived.OpenShut
import Derived.ChangeOld
import Derived.Below
import Derived.Deep.DeepHandedRow
import Derived.Lib.LaidTab
import Derived.Lib.SmallJoins
import Derived.Deep.Slices
import Derived.ChangeSame
namespace Go.Proofs.Ytgabifebcfgngaa
open Go Go.RowKit
set_option linter.unusedVariables false
set_option linter.unusedSimpArgs false

def Txt (l : List Nd) : Prop := ∀ n ∈ l, n.text.length ≤ 281474976710656
/-- The form, as a bool. -/
def formB (l : List Nd) : Bool := decide (0 < l.length) && ((List.range l.length).all fun i => fmd l i) && decide (firstP l (l.length - 1) = 0)
theorem formB_iff (l : List Nd) : formB l = true ↔ Form l := by
  unfold formB Form fmd
  simp only [Bool.and_eq_true, decide_eq_true_iff, List.all_eq_true, List.mem_range]
  exact ⟨fun ⟨⟨a, b⟩, c⟩ => ⟨a, b, c⟩, fun ⟨a, b, c⟩ => ⟨⟨a, b⟩, c⟩⟩
theorem formB_not {l : List Nd} (h : ¬ Form l) : formB l = false := by
  cases hb : formB l with
  | false => rfl
  | true => exact absurd ((formB_iff l).1 hb) h
/-- A description's value, and its row. -/
def IsD (l : List Nd) (v : Value) (w : World) : Prop := ∃ A c, l.length ≤ c ∧ v = .agg #[.slice A l.length c] ∧ NRow w A l
theorem IsD.later (l : List Nd) (v : Value) (w w' : World) (h : IsD l v w) (hb : Below w.heap.size w w') : IsD l v w' := by
  obtain ⟨A, c, h1, h2, h3⟩ := h
  exact ⟨A, c, h1, h2, h3.later hb⟩
theorem OwnN.isD {w : World} {base : Nat} {s : Value} {l : List Nd} (h : OwnN w base s l) : IsD l (.agg #[s]) w := by
  obtain ⟨_, ⟨hv, hn⟩ | ⟨g, cap, cur, hv, hb, hg, hc, hm, hs, ht⟩⟩ := h
  · have : l = [] := List.length_eq_zero_iff.1 hn
    subst this
    exact ⟨none, 0, Nat.le_refl _, by rw [hv]; rfl, NRow.nil _ _⟩
  · obtain ⟨A, c, h1, h2⟩ := OwnN.row (w := w) (base := base) (v := s) (l := l) ⟨by assumption, .inr ⟨g, cap, cur, hv, hb, hg, hc, hm, hs, ht⟩⟩
    rw [hv] at h1
    cases h1
    exact ⟨_, cap, hc, by rw [hv], h2⟩
def DPost (w : World) (l : List Nd) (e : Ending) (w' : World) : Prop := ∃ s, e = .returned (.agg #[s]) ∧ OwnN w' w.heap.size s l ∧ Below w.heap.size w w'
theorem OwnN.setCell_ne {w : World} {base : Nat} {s : Value} {l : List Nd} (h : OwnN w base s l) {a : Addr} (ha : a.block < base) (v : Value) : OwnN (w.setCell a v) base s l := by
  obtain ⟨h0, ⟨hv, hn⟩ | ⟨g, cap, cur, hv, hb, hg, hr⟩⟩ := h
  · exact ⟨h0, .inl ⟨hv, hn⟩⟩
  · refine ⟨h0, .inr ⟨g, cap, cur, hv, hb, ?_, hr⟩⟩
    have : Blk w g cur 48 := hg
    exact this.setCell_ne (a := a) (by omega) v
theorem NRow.part {w : World} {b o : Nat} {l : List Nd} (h : NRow w (some ⟨b, o, none⟩) l) {f k : Nat} (hk : f + k ≤ l.length) : NRow w (some ⟨b, o + f * 10, none⟩) (seg l f k) := fun i hi => by
  rw [seg_length hk] at hi
  obtain ⟨b', o', h1, h2, h3⟩ := h (f + i) (by omega)
  cases h1
  refine ⟨b, o + f * 10, rfl, h2, fun j hj => ?_⟩
  have := h3 j hj
  rw [show (seg l f k).getD i nd0 = l.getD (f + i) nd0 from seg_at hi]
  rw [← this]; congr 2; omega
theorem wrap_in {x : Int} (h1 : -9223372036854775808 ≤ x) (h2 : x ≤ 9223372036854775807) : IntKind.i64.wrap x = x := IntWalk.i64_in _ (by omega)
theorem okN.mvOk {l : List Nd} {i : Nat} (h : okN l i (atN l i)) (hi : i < 1073741824) (ht : (atN l i).text.length ≤ 281474976710656) {d : Int} (h1 : -1073741824 ≤ d) (h2 : d ≤ 1073741824) : MvOk d (atN l i) := by
  have hle := firstP_le l (i - 1)
  refine ⟨ht, fun hp => ?_, fun hk => ?_⟩
  · cases h.cs rfl with
    | leaf hk hf => unfold leafK at hk; unfold partK at hp; omega
    | one hk hi ha => exact wrap_in (by omega) (by omega)
    | two hk hi hb ha => exact wrap_in (by omega) (by omega)
  · cases h.cs rfl with
    | leaf hk2 hf => unfold leafK at hk2; omega
    | one hk2 hi ha => omega
    | two hk hi hb ha => exact wrap_in (by omega) (by omega)
theorem txt_at {l : List Nd} (h : Txt l) (j : Nat) : (atN l j).text.length ≤ 281474976710656 := by
  unfold atN
  rw [List.getD_eq_getElem?_getD]
  cases hj : l[j]? with
  | none => simp [nd0]
  | some n => exact h n (List.mem_of_getElem? hj)
end Go.Proofs.Ytgabifebcfgngaa
/- Descriptions out of tokens: the plain mathematics of the parser. -/
namespace Go.Proofs.Ytgabifebcfgngaa
open Go
set_option linter.unusedVariables false
set_option linter.unusedSimpArgs false

/-- A token whose numbers may be any. -/
structure Tk where
  kind : Int
  at_ : Int := 0
  lo : Int := 0
  hi : Int := 0
  cls : BitVec 256 := 0#256
  text : List UInt8 := []
deriving DecidableEq
def tkEnd : Tk := { kind := 10 }
def tkAt (l : List Tk) (p : Nat) : Tk := l.getD p tkEnd
/-- What the parser holds. -/
structure PS where
  read : Nat := 0
  opn : List Int := []
  nodes : List Nd := []
  ats : List Int := []
  count : Nat := 0
inductive PR where
  | ok (k : Int) (s : PS)
  | bad (e : Int) (p : Int)
  | out
def PR.bind (r : PR) (f : Int → PS → PR) : PR := match r with
  | .ok k s => f k s
  | .bad e p => .bad e p
  | .out => .out
def PS.lay (s : PS) (n : Nd) (p : Int) : PS := if s.count < 4096 then { s with nodes := s.nodes ++ [n], ats := s.ats ++ [p], count := s.count + 1 } else { s with count := s.count + 1 }
def PS.next (s : PS) : PS := { s with read := s.read + 1 }
def begK (k : Int) : Bool := decide (k = 1) || decide (k = 2) || decide (k = 3) || decide (k = 8) || decide (k = 9)
/-- The fault that the token to be read is. -/
def faultP (l : List Tk) (s : PS) : PR := match (tkAt l s.read).kind, s.opn.getLast? with
  | 10, some p => .bad 6 p
  | _, _ => .bad 7 (tkAt l s.read).at_
inductive Md where
  | or | orL (a : Int) | row | rowL (a : Int) | post | postL (a : Int) | atom | group | inside
def layK (s : PS) (n : Nd) (p : Int) : PR := .ok (s.count : Int) (s.lay n p)
def run (l : List Tk) : Nat → Md → PS → PR
  | 0, _, _ => .out
  | n + 1, .or, s => (run l n .row s).bind fun a s => run l n (.orL a) s
  | n + 1, .orL a, s => if (tkAt l s.read).kind = 5 then (run l n .row s.next).bind fun b s => run l n (.orL (s.count : Int)) (s.lay { kind := 5, a := a, b := b } (-1)) else .ok a s
  | n + 1, .row, s => (run l n .post s).bind fun a s => run l n (.rowL a) s
  | n + 1, .rowL a, s => if begK (tkAt l s.read).kind = true then (run l n .post s).bind fun b s => run l n (.rowL (s.count : Int)) (s.lay { kind := 4, a := a, b := b } (-1)) else .ok a s
  | n + 1, .post, s => (run l n .atom s).bind fun a s => run l n (.postL a) s
  | n + 1, .postL a, s =>
    if (tkAt l s.read).kind = 6 then run l n (.postL (s.count : Int)) (s.lay { kind := 6, a := a } (tkAt l s.read).at_).next
    else if (tkAt l s.read).kind = 7 then run l n (.postL (s.count : Int)) (s.lay { kind := 7, a := a, lo := (tkAt l s.read).lo, hi := (tkAt l s.read).hi } (tkAt l s.read).at_).next
    else .ok a s
  | n + 1, .atom, s =>
    if (tkAt l s.read).kind = 1 then layK s.next { kind := 2, cls := (tkAt l s.read).cls } (-1)
    else if (tkAt l s.read).kind = 2 then layK s.next { kind := 3, text := (tkAt l s.read).text } (-1)
    else if (tkAt l s.read).kind = 3 then run l n .group s
    else if (tkAt l s.read).kind = 8 then (run l n .group s.next).bind fun g s => layK s { kind := 8, a := g } (-1)
    else if (tkAt l s.read).kind = 9 then (run l n .group s.next).bind fun g s => layK s { kind := 9, a := g } (-1)
    else faultP l s
  | n + 1, .group, s =>
    if (tkAt l s.read).kind = 3 then
      if 64 < s.opn.length + 1 then .bad 8 (tkAt l s.read).at_
      else (run l n .inside { s.next with opn := s.opn ++ [(tkAt l s.read).at_] }).bind fun g s => if (tkAt l s.read).kind = 4 then .ok g { s.next with opn := s.opn.dropLast } else faultP l s
    else faultP l s
  | n + 1, .inside, s => if (tkAt l s.read).kind = 4 then layK s { kind := 1 } (-1) else run l n .or s
end Go.Proofs.Ytgabifebcfgngaa
/- Rows of tokens in memory, whose numbers may be any. -/
namespace Go.Proofs.Ytgabifebcfgngaa
open Go Go.RowKit
set_option linter.unusedVariables false

def tkC (t : Tk) : Array Value := #[.int .i64 t.kind, .int .i64 t.at_, .int .u64 (wd t.cls 0), .int .u64 (wd t.cls 1), .int .u64 (wd t.cls 2), .int .u64 (wd t.cls 3), .string (bs t.text), .int .i64 t.lo, .int .i64 t.hi]
def flatK : List Tk → List Value
  | [] => []
  | t :: l => (tkC t).toList ++ flatK l
end Go.Proofs.Ytgabifebcfgngaa
/- What a proof of a plain row needs around its walk: arguments opened (classes, bytes, rows of tokens, descriptions), a world for the witness. -/
namespace Go.Proofs.Ytgabifebcfgngaa
open Go Go.RowKit Go.ChangeShapes Go.WideShapes Go.ChangeAt Go.Joins
set_option maxRecDepth 100000
set_option linter.unusedVariables false
set_option linter.unusedSimpArgs false

theorem own : ownKnob Try.prog.godebug = none := by kernel_rfl
theorem laidOut : laidOutB Try.prog = true := by kernel_rfl
theorem cellsCls : Try.prog.cellsOf 46 = 4 := by kernel_rfl
theorem cellsU64 : Try.prog.cellsOf 44 = 1 := by kernel_rfl

theorem u64_nat {a : Int} (h : (Lit.int .u64 a).wf = true) : ∃ n : Nat, a = n ∧ n < 18446744073709551616 := by
  have : 0 ≤ a ∧ a ≤ 18446744073709551615 := by simpa [Lit.wf, IntKind.min, IntKind.max, IntKind.signed, IntKind.bits] using h
  exact ⟨a.toNat, by omega, by omega⟩
section
variable {H : Type} {enc : TypeId × Value → H} {W : World} {base : Nat} {t : TypeId} {v : Value} {d : DataW H} {p : List MemPlace}
theorem places_lt (h : DataW.Trod enc Try.prog W 0 (fun _ => true) true t v d p) : ∀ x ∈ p, x.block < W.heap.size := by
  obtain ⟨m, hm⟩ := h
  exact DataW.trod_lt m _ _ _ hm
end

set_option linter.unusedVariables false

section
variable {H : Type} {enc : TypeId × Value → H} {W : World} {base : Nat} {v : Value} {d : DataW H} {p : List MemPlace}
theorem cls_words {n : Nat} {cs : List Value} {x : DataW H × List MemPlace} (hlen : cs.length = 4) (h : DataW.trod enc Try.prog W 0 (fun _ => true) true n 46 cs = some x) : ∃ s : BitVec 256, ∀ j, j < 4 → cs[j]? = some (.int .u64 (wd s j)) := by
  obtain ⟨xs, m, _, _, _, hn, hel⟩ := DataW.trod_array Try.underlying46 h
  match cs, hlen with
  | [c0, c1, c2, c3], _ =>
    have get : ∀ (i : Nat) (c : Value), i < 4 → (([c0, c1, c2, c3] : List Value).drop (i * 1)).take 1 = [c] → ∃ n : Nat, c = .int .u64 n ∧ n < 18446744073709551616 := by
      intro i c hi hc
      have := hel i hi
      rw [cellsU64, hc] at this
      have hx : xs[i]? = some (xs[i]'(by omega)) := by simp
      rw [hx] at this
      obtain ⟨a, e, _, wf⟩ := DataW.trod_int Try.underlying44 this
      obtain ⟨n, rfl, hlt⟩ := u64_nat wf
      exact ⟨n, by simpa using e, hlt⟩
    obtain ⟨n0, rfl, l0⟩ := get 0 c0 (by omega) rfl
    obtain ⟨n1, rfl, l1⟩ := get 1 c1 (by omega) rfl
    obtain ⟨n2, rfl, l2⟩ := get 2 c2 (by omega) rfl
    obtain ⟨n3, rfl, l3⟩ := get 3 c3 (by omega) rfl
    obtain ⟨s, e0, e1, e2, e3⟩ := of_words n0 n1 n2 n3 l0 l1 l2 l3
    refine ⟨s, fun j hj => ?_⟩
    rcases (by omega : j = 0 ∨ j = 1 ∨ j = 2 ∨ j = 3) with rfl | rfl | rfl | rfl
    · rw [e0]; rfl
    · rw [e1]; rfl
    · rw [e2]; rfl
    · rw [e3]; rfl
end
set_option linter.unusedVariables false
set_option linter.unusedSimpArgs false

section
variable {H : Type} {enc : TypeId × Value → H} {W : World} {base : Nat} {v : Value} {d : DataW H} {p : List MemPlace}
theorem cellsNd : Try.prog.cellsOf 48 = 10 := by kernel_rfl
theorem cellsI : Try.prog.cellsOf 3 = 1 := by kernel_rfl
theorem cellsS : Try.prog.cellsOf 9 = 1 := by kernel_rfl
theorem cellsDesc : Try.prog.cellsOf 24 = 1 := by kernel_rfl
theorem cellsNds : Try.prog.cellsOf 22 = 1 := by kernel_rfl
theorem node_words {n : Nat} {cs : List Value} {x : DataW H × List MemPlace} (hlen : cs.length = 10) (h : DataW.trod enc Try.prog W 0 (fun _ => true) true n 48 cs = some x) :
    ∃ nd : Nd, (∀ j, j < 10 → cs[j]? = (ndC nd)[j]?) ∧ nd.text.length ∈ x.1.weights Try.prog 48 := by
  obtain ⟨xs, m, _, rfl, _, hn, hel⟩ := DataW.trod_struct Try.underlying48 h
  match cs, hlen with
  | [c0, c1, c2, c3, c4, c5, c6, c7, c8, c9], _ =>
    match xs, hn with
    | [y0, y1, y2, y3, y4, y5, y6], _ =>
      have e0 : DataW.trod enc Try.prog W 0 (fun _ => true) true m 3 [c0] = some y0 := by have h := hel 0 _ rfl; simp [cellsI] at h; exact h
      have e1 : DataW.trod enc Try.prog W 0 (fun _ => true) true m 3 [c1] = some y1 := by have h := hel 1 _ rfl; simp [cellsI] at h; exact h
      have e2 : DataW.trod enc Try.prog W 0 (fun _ => true) true m 3 [c2] = some y2 := by have h := hel 2 _ rfl; simp [cellsI] at h; exact h
      have e3 : DataW.trod enc Try.prog W 0 (fun _ => true) true m 3 [c3] = some y3 := by have h := hel 3 _ rfl; simp [cellsI] at h; exact h
      have e4 : DataW.trod enc Try.prog W 0 (fun _ => true) true m 3 [c4] = some y4 := by have h := hel 4 _ rfl; simp [cellsI] at h; exact h
      have e5 : DataW.trod enc Try.prog W 0 (fun _ => true) true m 46 [c5, c6, c7, c8] = some y5 := by have h := hel 5 _ rfl; simp [cellsCls] at h; exact h
      have e6 : DataW.trod enc Try.prog W 0 (fun _ => true) true m 9 [c9] = some y6 := by have h := hel 6 _ rfl; simp [cellsS] at h; exact h
      obtain ⟨a0, h0, _, _⟩ := DataW.trod_int Try.underlying3 e0
      obtain ⟨a1, h1, _, _⟩ := DataW.trod_int Try.underlying3 e1
      obtain ⟨a2, h2, _, _⟩ := DataW.trod_int Try.underlying3 e2
      obtain ⟨a3, h3, _, _⟩ := DataW.trod_int Try.underlying3 e3
      obtain ⟨a4, h4, _, _⟩ := DataW.trod_int Try.underlying3 e4
      obtain ⟨s, h5⟩ := cls_words rfl e5
      obtain ⟨t, h6, hy6, _⟩ := DataW.trod_string Try.underlying9 e6
      simp at h0 h1 h2 h3 h4 h5 h6
      subst h0 h1 h2 h3 h4 h6
      have k0 := h5 0 (by omega)
      have k1 := h5 1 (by omega)
      have k2 := h5 2 (by omega)
      have k3 := h5 3 (by omega)
      simp at k0 k1 k2 k3
      subst k0 k1 k2 k3
      refine ⟨⟨a0, a1, a2, a3, a4, s, t.data.toList⟩, fun j hj => ?_, ?_⟩
      · unfold ndC
        rcases (by omega : j = 0 ∨ j = 1 ∨ j = 2 ∨ j = 3 ∨ j = 4 ∨ j = 5 ∨ j = 6 ∨ j = 7 ∨ j = 8 ∨ j = 9) with rfl | rfl | rfl | rfl | rfl | rfl | rfl | rfl | rfl | rfl <;> first | rfl | (simp; exact (bs_self t).symm)
      · subst hy6
        simp [DataW.weights, DataW.weightsEach, Try.underlying48]
theorem mem_weightsAll {P : Program} {e : TypeId} {y : Nat} {a : DataW H} : ∀ {l : List (DataW H)}, a ∈ l → y ∈ a.weights P e → y ∈ DataW.weightsAll P e l
  | [], h, _ => by cases h
  | b :: l, h, hy => by
    unfold DataW.weightsAll
    rcases List.mem_cons.1 h with rfl | h
    · exact List.mem_append_left _ hy
    · exact List.mem_append_right _ (mem_weightsAll h hy)
theorem open_desc (hv : Value.okWide Try.prog W .any base 24 v) (h : DataW.Trod enc Try.prog W 0 (fun _ => true) true 24 v d p) (hw : ∀ x ∈ d.weights Try.prog 24, x ≤ reachBytes) :
    ∃ (l : List Nd) (A : Option Addr) (C : Nat), v = .agg #[.slice A l.length C] ∧ NRow W A l ∧ l.length ≤ C ∧ l.length ≤ 9223372036854775807 ∧ Txt l := by
  obtain ⟨cs, rfl, hsz⟩ := okWide_struct Try.underlying24 hv
  rw [cellsDesc] at hsz
  obtain ⟨c, rfl⟩ : ∃ c, cs = #[c] := by
    obtain ⟨l⟩ := cs
    match l, hsz with
    | [c], _ => exact ⟨c, rfl⟩
  obtain ⟨fuel, hf⟩ := h
  obtain ⟨y0, n, hx, _, hy⟩ := trod_struct1 Try.underlying24 hf
  simp only [Prod.mk.injEq] at hx
  obtain ⟨rfl, _⟩ := hx
  simp only [cellsNds] at hy
  rcases Go.Deep.open_slice Try.underlying22 hy with ⟨hcs, _⟩ | ⟨x, ln, cp, m, n', D, Pl, hcs, hb, hl, hm, hmm, hx, hi⟩
  · simp [Value.cells] at hcs
    subst hcs
    exact ⟨[], none, 0, rfl, NRow.nil _ _, Nat.le_refl _, by simp, fun n hn => by cases hn⟩
  · simp [Value.cells] at hcs
    subst hcs
    simp only [if_true] at hmm
    subst hmm
    unfold maxLen at hm
    have key : ∀ i, i < ln → ∃ nd : Nd, (∀ j, j < 10 → W.cell? (x.add (i * 10 + j)) = (ndC nd)[j]?) ∧ nd.text.length ∈ (D i).weights Try.prog 48 := by
      intro i hil
      obtain ⟨cs', hc, ht⟩ := hi i (by omega)
      rw [cellsNd] at hc
      obtain ⟨_, hcl, hat⟩ := World.cells?_some hc
      obtain ⟨nd, h1, h2⟩ := node_words hcl ht
      exact ⟨nd, fun j hj => by rw [← Go.Deep.add_add, hat j hj, h1 j hj], h2⟩
    let f : Nat → Nd := fun i => if h : i < ln then Classical.choose (key i h) else nd0
    have hfs : ∀ i (hil : i < ln), (∀ j, j < 10 → W.cell? (x.add (i * 10 + j)) = (ndC (f i))[j]?) ∧ (f i).text.length ∈ (D i).weights Try.prog 48 := fun i hil => by
      have hfi : f i = Classical.choose (key i hil) := by simp [f, hil]
      rw [hfi]; exact Classical.choose_spec (key i hil)
    have hfl : ((List.range ln).map f).length = ln := by simp
    refine ⟨(List.range ln).map f, some x, m, by rw [hfl], fun i hil => ?_, by rw [hfl]; exact hl, by rw [hfl]; omega, fun nd hnd => ?_⟩
    · rw [hfl] at hil
      have hgd : ((List.range ln).map f).getD i nd0 = f i := by simp [hil]
      have hs := (hfs i hil).1
      obtain ⟨b, off, spot⟩ := x
      have hc00 := (hfs 0 (by omega)).1 0 (by omega)
      have hspot : spot = none := by
        have hc : (ndC (f 0))[0]? = some (.int .i64 (f 0).kind) := rfl
        rw [hc] at hc00
        simpa [Addr.add] using World.cell?_spot hc00
      subst hspot
      have hadd : ∀ k, (⟨b, off, none⟩ : Addr).add k = ⟨b, off + k, none⟩ := fun k => by cases k <;> simp [Addr.add]
      refine ⟨b, off, rfl, ?_, fun j hj => ?_⟩
      · have hc : (ndC (f i))[0]? = some (.int .i64 (f i).kind) := rfl
        have := hs 0 (by omega)
        rw [hc] at this
        have := World.block_lt_of_cell? W _ this
        rw [hadd] at this; exact this
      · have := hs j hj
        rw [hadd] at this
        rw [hgd, Nat.add_assoc]; exact this
    · obtain ⟨i, hi2, rfl⟩ := List.mem_map.1 hnd
      have hil := List.mem_range.1 hi2
      have hmem := (hfs i hil).2
      have : (f i).text.length ≤ reachBytes := by
        apply hw
        subst hx
        unfold DataW.weights
        simp only [Try.underlying24]
        simp only [DataW.weightsEach, DataW.weights, Try.underlying22, List.map_cons, List.map_nil, List.append_nil]
        refine List.mem_cons_of_mem _ (List.mem_append_left _ (mem_weightsAll (List.mem_map.2 ⟨i, hi2, rfl⟩) hmem))
      unfold reachBytes at this
      omega
end
set_option linter.unusedVariables false
set_option linter.unusedSimpArgs false

section
variable {H : Type} {enc : TypeId × Value → H} {W : World} {base : Nat} {v : Value} {d : DataW H} {p : List MemPlace}
end
/-- A world for a witness. -/
noncomputable def laidWorld0 (os : Os) : World := World.holding Try.prog os ⟨#[], #[], []⟩
end Go.Proofs.Ytgabifebcfgngaa
