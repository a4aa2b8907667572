/- A fault of the parser is one. -/
import Derived.Test.YtcgjmnhmhiddkaaGreatDoorM12
import Derived.Test.YtcgjmnhmhiddkaaGreatDoorM23
import Derived.Test.YtcgjmnhmhiddkaaGreatDoorM24
import Derived.Test.YtcgjmnhmhiddkaaGreatDoorProg
import Derived.WalkKit
import Derived.Carry
import Derived.Below
namespace Go.Proofs.YtcgjmnhmhiddkaaGreatDoor
open Go
set_option linter.unusedVariables false
set_option linter.unusedSimpArgs false

theorem fault_err {l : List Tk} {s : PS} {e p : Int} (h : faultP l s = .bad e p) : e = 6 ∨ e = 7 := by
  unfold faultP at h
  split at h <;> (cases h; simp)
theorem run_err {l : List Tk} : ∀ (n : Nat) (m : Md) (s : PS) (e p : Int), run l n m s = .bad e p → e = 6 ∨ e = 7 ∨ e = 8
  | 0, _, _, _, _, h => by cases h
  | n + 1, m, s, e, p, h => by
    have go : ∀ {m1 : Md} {s1 : PS} {f : Int → PS → PR}, (run l n m1 s1).bind f = .bad e p → (∀ a u, f a u = .bad e p → e = 6 ∨ e = 7 ∨ e = 8) → e = 6 ∨ e = 7 ∨ e = 8 := fun {m1 s1 f} h1 h2 => by
      rcases bind_bad h1 with h3 | ⟨a, u, _, h4⟩
      · exact run_err n _ _ _ _ h3
      · exact h2 a u h4
    have fe : ∀ {s : PS}, faultP l s = .bad e p → e = 6 ∨ e = 7 ∨ e = 8 := fun h => by rcases fault_err h with h | h <;> simp [h]
    cases m with
    | or => exact go h fun a u h2 => run_err n _ _ _ _ h2
    | orL a =>
      simp only [run] at h
      split at h
      · exact go h fun a u h2 => run_err n _ _ _ _ h2
      · cases h
    | row => exact go h fun a u h2 => run_err n _ _ _ _ h2
    | rowL a =>
      simp only [run] at h
      split at h
      · exact go h fun a u h2 => run_err n _ _ _ _ h2
      · cases h
    | post => exact go h fun a u h2 => run_err n _ _ _ _ h2
    | postL a =>
      simp only [run] at h
      split at h
      · exact run_err n _ _ _ _ h
      · split at h
        · exact run_err n _ _ _ _ h
        · cases h
    | atom =>
      simp only [run] at h
      split at h
      · cases h
      · split at h
        · cases h
        · split at h
          · exact run_err n _ _ _ _ h
          · split at h
            · exact go h fun a u h2 => by cases h2
            · split at h
              · exact go h fun a u h2 => by cases h2
              · exact fe h
    | group =>
      simp only [run] at h
      split at h
      · split at h
        · cases h; simp
        · refine go h fun a u h2 => ?_
          split at h2
          · cases h2
          · exact fe h2
      · exact fe h
    | inside =>
      simp only [run] at h
      split at h
      · cases h
      · exact run_err n _ _ _ _ h
theorem parse_err {l : List Tk} {e p : Int} (h : parseP l = .bad e p) : e = 6 ∨ e = 7 ∨ e = 8 ∨ e = 9 := by
  unfold parseP at h
  rcases bind_bad h with h1 | ⟨k, s, _, h2⟩
  · rcases run_err _ _ _ _ _ h1 with h | h | h <;> simp [h]
  · split at h2
    · split at h2
      · cases h2; simp
      · cases h2
    · rcases fault_err h2 with h | h <;> simp [h]
end Go.Proofs.YtcgjmnhmhiddkaaGreatDoor
/- Texts of descriptions: what Read answers of a text: plain mathematics. -/
namespace Go.Proofs.YtcgjmnhmhiddkaaGreatDoor
open Go
set_option linter.unusedVariables false
set_option linter.unusedSimpArgs false

inductive VR where
  | ok (D : List Nd)
  | bad (e p : Int)
def nullR (t : PS) : VR := if (fstW t.nodes).2 = true then .bad 10 (t.ats.getD (fstW t.nodes).1 0) else .ok t.nodes
def toksR (l : List Tk) : VR := match parseP l with
  | .ok _ t => nullR t
  | .bad e p => .bad e p
  | .out => .bad 0 0
def validL (l : List UInt8) : VR := match readL l 0 0 with
  | .error (e, p) => .bad e p
  | .ok r => toksR (r.map tkOfT)
theorem validL_err {l : List UInt8} {e p : Nat} (h : readL l 0 0 = .error (e, p)) : validL l = .bad e p := by unfold validL; rw [h]
theorem validL_tok {l : List UInt8} {r : List Tok} (h : readL l 0 0 = .ok r) : validL l = toksR (r.map tkOfT) := by unfold validL; rw [h]
theorem toksR_ok {l : List Tk} {k : Int} {t : PS} (h : parseP l = .ok k t) : toksR l = nullR t := by unfold toksR; rw [h]
theorem toksR_bad {l : List Tk} {e p : Int} (h : parseP l = .bad e p) : toksR l = .bad e p := by unfold toksR; rw [h]
theorem fst_hit {l : List Nd} (h : (fstW l).2 = true) : (fstW l).1 < l.length ∧ isSt (atN l (fstW l).1).kind = true ∧ badW l (fstW l).1 = true := by
  unfold fstW at *
  cases hf : (List.range l.length).find? (badW l) with
  | none => rw [hf] at h; cases h
  | some i =>
    simp only
    rw [List.find?_range_eq_some] at hf
    obtain ⟨h1, h2, _⟩ := hf
    refine ⟨List.mem_range.1 h2, ?_, h1⟩
    unfold badW at h1
    rw [decide_eq_true_iff] at h1
    unfold isSt
    simpa using h1.1
/-- The place of a star, or a repeat. -/
theorem ats_star {l : List Tk} (he : TEnds l) {k : Int} {t : PS} (h : parseP l = .ok k t) : t.ats.length = t.nodes.length ∧ ∀ i, i < t.nodes.length → isSt (atN t.nodes i).kind = true → ∃ q, q < l.length ∧ t.ats.getD i 0 = (tkAt l q).at_ ∧ isSt (tkAt l q).kind = true := by
  obtain ⟨P, h1, h2, _, h4⟩ := parse_marks he h
  refine ⟨by rw [h1, h2, List.length_map, List.length_map], fun i hi hs => ?_⟩
  have hP : i < P.length := by rw [h1, List.length_map] at hi; exact hi
  have e1 : atN t.nodes i = (P[i]'hP).1 := by unfold atN; rw [h1, List.getD_eq_getElem?_getD]; simp [hP]
  have e2 : t.ats.getD i 0 = (P[i]'hP).2 := by rw [h2, List.getD_eq_getElem?_getD]; simp [hP]
  rw [e1] at hs
  have hm : ((P[i]'hP).1.kind, (P[i]'hP).2) ∈ P.filterMap mkN := by
    rw [List.mem_filterMap]
    exact ⟨_, List.getElem_mem hP, by unfold mkN; rw [if_pos hs]⟩
  rw [h4, List.mem_filterMap] at hm
  obtain ⟨x, hx, ex⟩ := hm
  unfold stT at ex
  split at ex
  · rename_i hk
    obtain ⟨q, hq, e⟩ := List.getElem_of_mem hx
    have e3 : tkAt l q = x := by unfold tkAt; rw [List.getD_eq_getElem?_getD, List.getElem?_eq_getElem hq]; exact e
    refine ⟨q, hq, ?_, by rw [e3]; exact hk⟩
    rw [e2, e3]
    injection ex with ex
    exact (Prod.mk.inj ex).2.symm
  · cases ex
theorem tkT_at {r : List Tok} {q : Nat} (h : q < r.length) : tkAt (r.map tkOfT) q = tkOfT (r[q]'h) := by unfold tkAt; rw [List.getD_eq_getElem?_getD]; simp [h]
/-- What is told of a text that isn't valid. -/
theorem valid_bad {l : List UInt8} {e p : Int} (h : validL l = .bad e p) : 1 ≤ e ∧ e ≤ 10 ∧ 0 ≤ p ∧ p ≤ l.length := by
  cases hr : readL l 0 0 with
  | error z =>
    obtain ⟨e1, p1⟩ := z
    rw [validL_err hr] at h
    injection h with h1 h2
    obtain ⟨_, g2, _, ⟨g3, g4⟩, _⟩ := readL_fault l 0 0 e1 p1 (Nat.zero_le _) hr
    omega
  | ok r =>
    rw [validL_tok hr] at h
    have hm : ∀ t ∈ r.map tkOfT, 0 ≤ t.at_ ∧ t.at_ ≤ l.length := fun t ht => by
      obtain ⟨u, hu, rfl⟩ := List.mem_map.1 ht
      have := readL_in hr hu
      show 0 ≤ (u.at_ : Int) ∧ (u.at_ : Int) ≤ _
      omega
    cases hp : parseP (r.map tkOfT) with
    | out => exact absurd hp (parse_not_out _)
    | bad e1 p1 =>
      rw [toksR_bad hp] at h
      injection h with h1 h2
      obtain ⟨t, ht, e2⟩ := parse_at (readL_ends hr) hp
      have := hm t ht
      have hc : e1 = 6 ∨ e1 = 7 ∨ e1 = 8 ∨ e1 = 9 := by
        unfold parseP at hp
        rcases bind_bad hp with h3 | ⟨k, u, h3, h4⟩
        · have := run_err _ _ _ _ _ h3; omega
        · split at h4
          · split at h4
            · injection h4 with h5 h6; omega
            · cases h4
          · have := fault_err h4; omega
      omega
    | ok k t =>
      rw [toksR_ok hp] at h
      unfold nullR at h
      split at h
      · rename_i hf
        injection h with h1 h2
        obtain ⟨i1, i2, _⟩ := fst_hit hf
        obtain ⟨q, hq, e1, _⟩ := (ats_star (readL_ends hr) hp).2 _ i1 i2
        have := hm _ (tk_mem hq)
        omega
      · cases h
/-- A valid text's description. -/
structure VOk (l : List UInt8) (D : List Nd) : Prop where
  form : Form D
  len : D.length ≤ 4096
  few : D.length ≤ 2 * (l.length + 1)
  txt : ∀ n ∈ D, n.text.length ≤ l.length
  fst : (fstW D).2 = false
theorem parse_vok {l : List UInt8} {r : List Tok} (hr : readL l 0 0 = .ok r) {k : Int} {t : PS} (hp : parseP (r.map tkOfT) = .ok k t) : Form t.nodes ∧ t.nodes.length ≤ 4096 ∧ t.nodes.length ≤ 2 * (l.length + 1) ∧ ∀ n ∈ t.nodes, n.text.length ≤ l.length := by
  have hk := readL_tkok hr
  obtain ⟨h1, h2⟩ := parse_form hk hp
  have hM : ∀ p, (tkAt (r.map tkOfT) p).text.length ≤ l.length := fun p => by
    rcases Nat.lt_or_ge p r.length with hq | hq
    · rw [tkT_at hq]; exact readL_text l 0 0 r hr _ (List.getElem_mem hq)
    · have e1 : tkAt (r.map tkOfT) p = tkEnd := by unfold tkAt; rw [List.getD_eq_getElem?_getD, List.getElem?_eq_none (by rw [List.length_map]; exact hq)]; rfl
      rw [e1]; exact Nat.zero_le _
  obtain ⟨h3, h4⟩ := parse_big hk hM hp
  have := readL_len hr
  rw [List.length_map] at h3
  exact ⟨h1, h2, by omega, h4⟩
theorem valid_tok_ok {l : List UInt8} {D : List Nd} (h : validL l = .ok D) : ∃ r k t, readL l 0 0 = .ok r ∧ parseP (r.map tkOfT) = .ok k t ∧ t.nodes = D ∧ (fstW D).2 = false := by
  cases hr : readL l 0 0 with
  | error z => obtain ⟨e1, p1⟩ := z; rw [validL_err hr] at h; cases h
  | ok r =>
    rw [validL_tok hr] at h
    cases hp : parseP (r.map tkOfT) with
    | out => exact absurd hp (parse_not_out _)
    | bad e1 p1 => rw [toksR_bad hp] at h; cases h
    | ok k t =>
      rw [toksR_ok hp] at h
      unfold nullR at h
      split at h
      · cases h
      · rename_i hf
        injection h with h
        exact ⟨r, k, t, rfl, hp, h, by rw [← h]; simpa using hf⟩
theorem valid_ok {l : List UInt8} {D : List Nd} (h : validL l = .ok D) : VOk l D := by
  obtain ⟨r, k, t, hr, hp, rfl, hf⟩ := valid_tok_ok h
  obtain ⟨h1, h2, h3, h4⟩ := parse_vok hr hp
  exact ⟨h1, h2, h3, h4, hf⟩
end Go.Proofs.YtcgjmnhmhiddkaaGreatDoor
/- The anchor of layer 9: what its texts are: plain mathematics. -/
namespace Go.Proofs.YtcgjmnhmhiddkaaGreatDoor
open Go
set_option linter.unusedVariables false
set_option linter.unusedSimpArgs false
set_option maxRecDepth 100000

def vrBad (r : VR) (e p : Int) : Bool := match r with
  | .ok _ => false
  | .bad e2 p2 => decide (e2 = e) && decide (p2 = p)
def vrOk (r : VR) : Bool := match r with
  | .ok _ => true
  | .bad _ _ => false
theorem vrBad_eq {r : VR} {e p : Int} (h : vrBad r e p = true) : r = .bad e p := by
  unfold vrBad at h
  cases r with
  | ok D => cases h
  | bad e2 p2 => simp only [Bool.and_eq_true, decide_eq_true_eq] at h; rw [h.1, h.2]
theorem aw9_a : (match validL [60, 54, 49, 62, 42, 98, 40, 46, 41] with | .ok D => decide (D.length = 5) && decide ((atN D 4).kind = 4) | _ => false) = true := by decide +kernel
theorem aw9_b : validL [40, 46, 42, 41, 42] = .bad 10 4 := vrBad_eq (by decide +kernel)
theorem aw9_c : validL [46, 32, 97] = .bad 1 2 := vrBad_eq (by decide +kernel)
theorem aw9_d : validL [40, 46, 32] = .bad 6 0 := vrBad_eq (by decide +kernel)
theorem aw9_e : vrOk (validL [46]) = true := by decide +kernel
theorem aw9_f : vrOk (validL []) = false := by decide +kernel
theorem aw9_g : vrOk (validL [40, 41, 123, 49, 44, 50, 125]) = false := by decide +kernel
theorem aw9_ok : ∃ D, validL [60, 54, 49, 62, 42, 98, 40, 46, 41] = .ok D ∧ D.length = 5 ∧ (atN D 4).kind = 4 := by
  have h := aw9_a
  cases hv : validL [60, 54, 49, 62, 42, 98, 40, 46, 41] with
  | bad e p => rw [hv] at h; cases h
  | ok D =>
    rw [hv] at h
    simp only [Bool.and_eq_true, decide_eq_true_eq] at h
    exact ⟨D, rfl, h⟩
end Go.Proofs.YtcgjmnhmhiddkaaGreatDoor
/- A map whose keys are runes: what a look-up finds, what a new key leaves. -/
namespace Go.Proofs.YtcgjmnhmhiddkaaGreatDoor
open Go Go.RowKit
set_option linter.unusedVariables false
set_option linter.unusedSimpArgs false

def mapEs : List (Int × Value) → Nat → List MapEntry
  | [], _ => []
  | p :: l, i => { key := .int .i32 p.1, val := p.2, born := i } :: mapEs l (i + 1)
theorem mapEs_append : ∀ (l : List (Int × Value)) (k : Int) (v : Value) (i : Nat), mapEs (l ++ [(k, v)]) i = mapEs l i ++ [{ key := .int .i32 k, val := v, born := i + l.length }]
  | [], k, v, i => rfl
  | p :: l, k, v, i => by
    show _ :: mapEs (l ++ [(k, v)]) (i + 1) = _
    rw [mapEs_append l k v (i + 1)]
    simp [mapEs]; omega
/-- What a map holds, in the order in which it was put in. -/
def IsMap (w : World) (m : Nat) (l : List (Int × Value)) : Prop := w.heap[m]? = some (.map (mapEs l 0).toArray l.length)
theorem IsMap.lt {w : World} {m : Nat} {l : List (Int × Value)} (h : IsMap w m l) : m < w.heap.size := (Array.getElem?_eq_some_iff.1 h).1
theorem IsMap.later {w w' : World} {m : Nat} {l : List (Int × Value)} (h : IsMap w m l) (hb : Below w.heap.size w w') : IsMap w' m l := (hb.block m h.lt).trans h
/-- The world with a map's block turned. -/
def putMap (w : World) (m : Nat) (l : List (Int × Value)) : World := { w with heap := w.heap.setIfInBounds m (.map (mapEs l 0).toArray l.length) }
theorem putMap_is {w : World} {m : Nat} (h : m < w.heap.size) (l' : List (Int × Value)) : IsMap (putMap w m l') m l' := by
  unfold IsMap putMap; simp [h]
theorem putMap_other {w : World} {m b : Nat} (hb : b ≠ m) (l : List (Int × Value)) : (putMap w m l).heap[b]? = w.heap[b]? := by
  unfold putMap; simp [Ne.symm hb]
theorem putMap_size (w : World) (m : Nat) (l : List (Int × Value)) : (putMap w m l).heap.size = w.heap.size := by simp [putMap]
theorem putMap_below {B : Nat} {a w : World} {m : Nat} (h : Below B a w) (hm : B ≤ m) (l : List (Int × Value)) : Below B a (putMap w m l) :=
  h.trans ⟨rfl, rfl, rfl, by rw [putMap_size]; exact Nat.le_refl _, fun i hi => putMap_other (by omega) l⟩
/-- What a look-up finds. -/
def findE : List (Int × Value) → Int → Nat → Option (Nat × Value)
  | [], _, _ => none
  | p :: l, k, i => if p.1 = k then some (i, p.2) else findE l k (i + 1)
theorem findNow_mapEs (k : Int) : ∀ (l : List (Int × Value)) (i : Nat), Instr.findNow (.int .i32) (.int .i32 k) (mapEs l i) i = some (findE l k i)
  | [], i => rfl
  | p :: l, i => by
    unfold mapEs Instr.findNow findE
    simp only [Instr.sameNow, if_true]
    by_cases h : p.1 = k
    · have : (k == p.1) = true := by rw [beq_iff_eq]; exact h.symm
      rw [this, if_pos h]
    · have : (k == p.1) = false := by rw [beq_eq_false_iff_ne]; exact fun e => h e.symm
      rw [this, if_neg h]
      exact findNow_mapEs k l (i + 1)
theorem keys_free {e : Bool} {k : Int} (w : World) : (Instr.checkKey e 10000 21 (.int .i32 k)).run Tryz.prog w = .ok () w := by
  rw [show (10000 : Nat) = 9999 + 1 from rfl]
  unfold Instr.checkKey
  simp [run_underlying Tryz.underlying21, Result.andThen]
theorem run_lookup_rune (w : World) (m : Nat) (l : List (Int × Value)) (k : Int) (hm : IsMap w m l) :
    (Instr.lookup 142 (.map (some m)) (.int .i32 k) true).run Tryz.prog w = .ok (match findE l k 0 with | some (_, v) => .tuple #[v, .bool true] | none => .tuple #[.agg #[.string ⟨#[]⟩, .int .i64 0, .nilFunc], .bool false]) w := by
  unfold IsMap at hm
  have hf := findNow_mapEs k l 0
  have hz := Tryz.zeroValue146
  simp only [Instr.lookup, Sem.run_bind, run_underlying Tryz.underlying142, Result.andThen, getObj, Sem.run, hm, keys_free, Instr.findKey, run_underlying Tryz.underlying21, hf]
  rw [show (Sem.run Tryz.prog (pure (mapEs l 0).toArray) w) = .ok (mapEs l 0).toArray w from rfl]
  simp only [hf]
  cases h : findE l k 0 with
  | none => simp [Sem.run_bind, hz, Result.andThen]
  | some p => obtain ⟨i, v⟩ := p; rfl
theorem run_update_rune (w : World) (m : Nat) (l : List (Int × Value)) (k : Int) (v : Value) (hm : IsMap w m l) (hk : findE l k 0 = none) :
    (Instr.mapUpdate 142 (.map (some m)) (.int .i32 k) v).run Tryz.prog w = .ok () (putMap w m (l ++ [(k, v)])) := by
  have hlt := hm.lt
  unfold IsMap at hm
  have hf := findNow_mapEs k l 0
  rw [hk] at hf
  simp only [Instr.mapUpdate, Sem.run_bind, run_underlying Tryz.underlying142, Result.andThen, getObj, Sem.run, hm, keys_free, Instr.findKey, run_underlying Tryz.underlying21, hf]
  simp only [setObj, Sem.run, hm]
  unfold putMap
  rw [mapEs_append]
  simp [Sem.run, hm]
end Go.Proofs.YtcgjmnhmhiddkaaGreatDoor
