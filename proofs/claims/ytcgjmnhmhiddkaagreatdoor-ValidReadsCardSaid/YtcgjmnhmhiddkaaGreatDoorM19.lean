/- A class' text: read as one token, and how long it is: plain mathematics. -/
import Derived.Test.YtcgjmnhmhiddkaaGreatDoorM17
import Derived.Test.YtcgjmnhmhiddkaaGreatDoorM18
import Derived.Test.YtcgjmnhmhiddkaaGreatDoorM06
import Derived.Test.YtcgjmnhmhiddkaaGreatDoorM15
import Derived.Test.YtcgjmnhmhiddkaaGreatDoorM16
import Derived.Test.YtcgjmnhmhiddkaaGreatDoorM12
namespace Go.Proofs.YtcgjmnhmhiddkaaGreatDoor
open Go
set_option linter.unusedVariables false
set_option linter.unusedSimpArgs false
def insM : Md → Nat
  | .inside => 1
  | _ => 0
def TxP (M : Nat) (s : PS) : Prop := ∀ n ∈ s.nodes, n.text.length ≤ M
theorem TxP.lay {M : Nat} {s : PS} (h : TxP M s) {n : Nd} (hn : n.text.length ≤ M) (p : Int) : TxP M (s.lay n p) := fun m hm => by
  unfold PS.lay at hm
  split at hm
  · rcases List.mem_append.1 hm with h1 | h1
    · exact h m h1
    · rw [List.mem_singleton.1 h1]; exact hn
  · exact h m hm
structure Big (l : List Tk) (M : Nat) (m : Md) (s t : PS) : Prop where
  cnt : t.count + eats m + 2 * s.read ≤ s.count + 2 * t.read + insM m
  le : s.read ≤ t.read
  rd : s.read ≤ l.length → t.read ≤ l.length
  tx : TxP M s → TxP M t
theorem run_big {l : List Tk} {M : Nat} (hM : ∀ p, (tkAt l p).text.length ≤ M) : ∀ (n : Nat) (m : Md) (s : PS) (k : Int) (t : PS), run l n m s = .ok k t → Big l M m s t
  | 0, _, _, _, _, h => by cases h
  | n + 1, .or, s, k, t, h => by
    obtain ⟨a, u, h1, h2⟩ := bind_ok h
    have q1 := run_big hM n _ _ _ _ h1
    have q2 := run_big hM n _ _ _ _ h2
    have c1 := q1.cnt
    have c2 := q2.cnt
    simp only [eats, insM] at c1 c2
    exact ⟨by simp only [eats, insM]; omega, Nat.le_trans q1.le q2.le, fun h => q2.rd (q1.rd h), fun h => q2.tx (q1.tx h)⟩
  | n + 1, .orL a, s, k, t, h => by
    simp only [run] at h
    split at h
    · rename_i hk
      have hin : s.read < l.length := tk_in (by rw [hk]; decide)
      obtain ⟨b, u, h1, h2⟩ := bind_ok h
      have q1 := run_big hM n _ _ _ _ h1
      have q2 := run_big hM n _ _ _ _ h2
      have q3 := lay_read u { kind := 5, a := a, b := b } (-1)
      have c1 := q1.cnt
      have c2 := q2.cnt
      have l1 := q1.le
      have l2 := q2.le
      simp only [eats, insM, PS.next] at c1 c2 l1
      rw [q3.2.2, q3.1] at c2
      rw [q3.1] at l2
      exact ⟨by simp only [eats, insM]; omega, by omega, fun h => q2.rd (by rw [q3.1]; exact q1.rd hin), fun h => q2.tx ((q1.tx h).lay (Nat.zero_le _) _)⟩
    · cases h; exact ⟨by simp only [eats, insM]; omega, Nat.le_refl _, id, id⟩
  | n + 1, .row, s, k, t, h => by
    obtain ⟨a, u, h1, h2⟩ := bind_ok h
    have q1 := run_big hM n _ _ _ _ h1
    have q2 := run_big hM n _ _ _ _ h2
    have c1 := q1.cnt
    have c2 := q2.cnt
    simp only [eats, insM] at c1 c2
    exact ⟨by simp only [eats, insM]; omega, Nat.le_trans q1.le q2.le, fun h => q2.rd (q1.rd h), fun h => q2.tx (q1.tx h)⟩
  | n + 1, .rowL a, s, k, t, h => by
    simp only [run] at h
    split at h
    · obtain ⟨b, u, h1, h2⟩ := bind_ok h
      have q1 := run_big hM n _ _ _ _ h1
      have q2 := run_big hM n _ _ _ _ h2
      have q3 := lay_read u { kind := 4, a := a, b := b } (-1)
      have c1 := q1.cnt
      have c2 := q2.cnt
      have l1 := q1.le
      have l2 := q2.le
      simp only [eats, insM] at c1 c2
      rw [q3.2.2, q3.1] at c2
      rw [q3.1] at l2
      exact ⟨by simp only [eats, insM]; omega, by omega, fun h => q2.rd (by rw [q3.1]; exact q1.rd h), fun h => q2.tx ((q1.tx h).lay (Nat.zero_le _) _)⟩
    · cases h; exact ⟨by simp only [eats, insM]; omega, Nat.le_refl _, id, id⟩
  | n + 1, .post, s, k, t, h => by
    obtain ⟨a, u, h1, h2⟩ := bind_ok h
    have q1 := run_big hM n _ _ _ _ h1
    have q2 := run_big hM n _ _ _ _ h2
    have c1 := q1.cnt
    have c2 := q2.cnt
    simp only [eats, insM] at c1 c2
    exact ⟨by simp only [eats, insM]; omega, Nat.le_trans q1.le q2.le, fun h => q2.rd (q1.rd h), fun h => q2.tx (q1.tx h)⟩
  | n + 1, .postL a, s, k, t, h => by
    simp only [run] at h
    split at h
    · rename_i hk
      have hin : s.read < l.length := tk_in (by rw [hk]; decide)
      have q2 := run_big hM n _ _ _ _ h
      have q3 := lay_read s { kind := 6, a := a } (tkAt l s.read).at_
      have c2 := q2.cnt
      have l2 := q2.le
      simp only [eats, insM, PS.next] at c2 l2
      rw [q3.2.2, q3.1] at c2
      rw [q3.1] at l2
      exact ⟨by simp only [eats, insM]; omega, by omega, fun h => q2.rd (by simp only [PS.next]; rw [q3.1]; exact hin), fun h => q2.tx (show TxP M _ from (h.lay (n := { kind := 6, a := a }) (Nat.zero_le _) _))⟩
    · split at h
      · rename_i hk
        have hin : s.read < l.length := tk_in (by rw [hk]; decide)
        have q2 := run_big hM n _ _ _ _ h
        have q3 := lay_read s { kind := 7, a := a, lo := (tkAt l s.read).lo, hi := (tkAt l s.read).hi } (tkAt l s.read).at_
        have c2 := q2.cnt
        have l2 := q2.le
        simp only [eats, insM, PS.next] at c2 l2
        rw [q3.2.2, q3.1] at c2
        rw [q3.1] at l2
        exact ⟨by simp only [eats, insM]; omega, by omega, fun h => q2.rd (by simp only [PS.next]; rw [q3.1]; exact hin), fun h => q2.tx (show TxP M _ from (h.lay (n := { kind := 7, a := a, lo := (tkAt l s.read).lo, hi := (tkAt l s.read).hi }) (Nat.zero_le _) _))⟩
      · cases h; exact ⟨by simp only [eats, insM]; omega, Nat.le_refl _, id, id⟩
  | n + 1, .atom, s, k, t, h => by
    simp only [run] at h
    have leafC : ∀ {nd : Nd}, nd.text.length ≤ M → s.read < l.length → layK s.next nd (-1) = .ok k t → Big l M .atom s t := fun {nd} hx hin e => by
      cases e
      have q3 := lay_read s.next nd (-1)
      have e2 : s.next.count = s.count := rfl
      have e3 : s.next.read = s.read + 1 := rfl
      exact ⟨by rw [q3.2.2, q3.1, e2, e3]; simp only [eats, insM]; omega, by rw [q3.1, e3]; omega, fun _ => by rw [q3.1, e3]; omega, fun h => TxP.lay (s := s.next) h hx _⟩
    split at h
    · rename_i hk
      exact leafC (Nat.zero_le _) (tk_in (by rw [hk]; decide)) h
    · split at h
      · rename_i hk
        exact leafC (hM _) (tk_in (by rw [hk]; decide)) h
      · split at h
        · have q := run_big hM n _ _ _ _ h
          have c1 := q.cnt
          simp only [eats, insM] at c1
          exact ⟨by simp only [eats, insM]; omega, q.le, q.rd, q.tx⟩
        · split at h
          · rename_i hk
            have hin : s.read < l.length := tk_in (by rw [hk]; decide)
            obtain ⟨b, u, h1, h2⟩ := bind_ok h
            cases h2
            have q3 := lay_read u { kind := 8, a := b } (-1)
            have q := run_big hM n _ _ _ _ h1
            have c1 := q.cnt
            have l1 := q.le
            simp only [eats, insM, PS.next] at c1 l1
            exact ⟨by rw [q3.2.2, q3.1]; simp only [eats, insM]; omega, by rw [q3.1]; omega, fun _ => by rw [q3.1]; exact q.rd hin, fun h => (q.tx h).lay (Nat.zero_le _) _⟩
          · split at h
            · rename_i hk
              have hin : s.read < l.length := tk_in (by rw [hk]; decide)
              obtain ⟨b, u, h1, h2⟩ := bind_ok h
              cases h2
              have q3 := lay_read u { kind := 9, a := b } (-1)
              have q := run_big hM n _ _ _ _ h1
              have c1 := q.cnt
              have l1 := q.le
              simp only [eats, insM, PS.next] at c1 l1
              exact ⟨by rw [q3.2.2, q3.1]; simp only [eats, insM]; omega, by rw [q3.1]; omega, fun _ => by rw [q3.1]; exact q.rd hin, fun h => (q.tx h).lay (Nat.zero_le _) _⟩
            · exact absurd h fault_not_ok
  | n + 1, .group, s, k, t, h => by
    simp only [run] at h
    split at h
    · rename_i hk
      have hin : s.read < l.length := tk_in (by rw [hk]; decide)
      split at h
      · cases h
      · obtain ⟨b, u, h1, h2⟩ := bind_ok h
        split at h2
        · rename_i hk2
          have hin2 : u.read < l.length := tk_in (by rw [hk2]; decide)
          cases h2
          have q := run_big hM n _ _ _ _ h1
          have c1 := q.cnt
          have l1 := q.le
          simp only [eats, insM, PS.next] at c1 l1
          exact ⟨by simp only [eats, insM, PS.next]; omega, by simp only [PS.next]; omega, fun _ => by simp only [PS.next]; omega, fun h => q.tx h⟩
        · exact absurd h2 fault_not_ok
    · exact absurd h fault_not_ok
  | n + 1, .inside, s, k, t, h => by
    simp only [run] at h
    split at h
    · cases h
      have q3 := lay_read s { kind := 1 } (-1)
      exact ⟨by rw [q3.2.2, q3.1]; simp only [eats, insM]; omega, by rw [q3.1]; exact Nat.le_refl _, fun h => by rw [q3.1]; exact h, fun h => h.lay (Nat.zero_le _) _⟩
    · have q := run_big hM n _ _ _ _ h
      have c1 := q.cnt
      simp only [eats, insM] at c1
      exact ⟨by simp only [eats, insM]; omega, q.le, q.rd, q.tx⟩
theorem parse_big {l : List Tk} (hl : TkOk l) {M : Nat} (hM : ∀ p, (tkAt l p).text.length ≤ M) {k : Int} {t : PS} (h : parseP l = .ok k t) : t.nodes.length ≤ 2 * l.length ∧ ∀ n ∈ t.nodes, n.text.length ≤ M := by
  obtain ⟨a, u, h1, h2⟩ := bind_ok h
  split at h2
  · split at h2
    · cases h2
    · rename_i hcnt
      cases h2
      have r := run_form hl _ .or {} 0 k u h1 (by omega) ⟨rfl, fun i hi => by simp at hi⟩ rfl
      have hlen := r.lay.len
      have q := run_big hM _ _ _ _ _ h1
      have c := q.cnt
      have rd := q.rd (Nat.zero_le _)
      simp only [eats, insM] at c
      refine ⟨?_, q.tx (fun n hn => by cases hn)⟩
      show u.nodes.length ≤ _
      have e1 : ({} : PS).count = 0 := rfl
      have e2 : ({} : PS).read = 0 := rfl
      omega
  · exact absurd h2 fault_not_ok
theorem fault_err {l : List Tk} {s : PS} {e p : Int} (h : faultP l s = .bad e p) : e = 6 ∨ e = 7 := by
  unfold faultP at h
  split at h <;> (cases h; simp)
theorem run_err {l : List Tk} : ∀ (n : Nat) (m : Md) (s : PS) (e p : Int), run l n m s = .bad e p → e = 6 ∨ e = 7 ∨ e = 8
  | 0, _, _, _, _, h => by cases h
  | n + 1, m, s, e, p, h => by
    have go : ∀ {m1 : Md} {s1 : PS} {f : Int → PS → PR}, (run l n m1 s1).bind f = .bad e p → (∀ a u, f a u = .bad e p → e = 6 ∨ e = 7 ∨ e = 8) → e = 6 ∨ e = 7 ∨ e = 8 := fun {m1 s1 f} h1 h2 => by
      rcases bind_bad h1 with h3 | ⟨a, u, _, h4⟩
      · exact run_err n _ _ _ _ h3
      · exact h2 a u h4
    have fe : ∀ {s : PS}, faultP l s = .bad e p → e = 6 ∨ e = 7 ∨ e = 8 := fun h => by rcases fault_err h with h | h <;> simp [h]
    cases m with
    | or => exact go h fun a u h2 => run_err n _ _ _ _ h2
    | orL a =>
      simp only [run] at h
      split at h
      · exact go h fun a u h2 => run_err n _ _ _ _ h2
      · cases h
    | row => exact go h fun a u h2 => run_err n _ _ _ _ h2
    | rowL a =>
      simp only [run] at h
      split at h
      · exact go h fun a u h2 => run_err n _ _ _ _ h2
      · cases h
    | post => exact go h fun a u h2 => run_err n _ _ _ _ h2
    | postL a =>
      simp only [run] at h
      split at h
      · exact run_err n _ _ _ _ h
      · split at h
        · exact run_err n _ _ _ _ h
        · cases h
    | atom =>
      simp only [run] at h
      split at h
      · cases h
      · split at h
        · cases h
        · split at h
          · exact run_err n _ _ _ _ h
          · split at h
            · exact go h fun a u h2 => by cases h2
            · split at h
              · exact go h fun a u h2 => by cases h2
              · exact fe h
    | group =>
      simp only [run] at h
      split at h
      · split at h
        · cases h; simp
        · refine go h fun a u h2 => ?_
          split at h2
          · cases h2
          · exact fe h2
      · exact fe h
    | inside =>
      simp only [run] at h
      split at h
      · cases h
      · exact run_err n _ _ _ _ h
theorem parse_err {l : List Tk} {e p : Int} (h : parseP l = .bad e p) : e = 6 ∨ e = 7 ∨ e = 8 ∨ e = 9 := by
  unfold parseP at h
  rcases bind_bad h with h1 | ⟨k, s, _, h2⟩
  · rcases run_err _ _ _ _ _ h1 with h | h | h <;> simp [h]
  · split at h2
    · split at h2
      · cases h2; simp
      · cases h2
    · rcases fault_err h2 with h | h <;> simp [h]
inductive VR where
  | ok (D : List Nd)
  | bad (e p : Int)
def nullR (t : PS) : VR := if (fstW t.nodes).2 = true then .bad 10 (t.ats.getD (fstW t.nodes).1 0) else .ok t.nodes
def toksR (l : List Tk) : VR := match parseP l with
  | .ok _ t => nullR t
  | .bad e p => .bad e p
  | .out => .bad 0 0
def validL (l : List UInt8) : VR := match readL l 0 0 with
  | .error (e, p) => .bad e p
  | .ok r => toksR (r.map tkOfT)
theorem validL_err {l : List UInt8} {e p : Nat} (h : readL l 0 0 = .error (e, p)) : validL l = .bad e p := by unfold validL; rw [h]
theorem validL_tok {l : List UInt8} {r : List Tok} (h : readL l 0 0 = .ok r) : validL l = toksR (r.map tkOfT) := by unfold validL; rw [h]
theorem toksR_ok {l : List Tk} {k : Int} {t : PS} (h : parseP l = .ok k t) : toksR l = nullR t := by unfold toksR; rw [h]
theorem toksR_bad {l : List Tk} {e p : Int} (h : parseP l = .bad e p) : toksR l = .bad e p := by unfold toksR; rw [h]
theorem fst_hit {l : List Nd} (h : (fstW l).2 = true) : (fstW l).1 < l.length ∧ isSt (atN l (fstW l).1).kind = true ∧ badW l (fstW l).1 = true := by
  unfold fstW at *
  cases hf : (List.range l.length).find? (badW l) with
  | none => rw [hf] at h; cases h
  | some i =>
    simp only
    rw [List.find?_range_eq_some] at hf
    obtain ⟨h1, h2, _⟩ := hf
    refine ⟨List.mem_range.1 h2, ?_, h1⟩
    unfold badW at h1
    rw [decide_eq_true_iff] at h1
    unfold isSt
    simpa using h1.1
theorem ats_star {l : List Tk} (he : TEnds l) {k : Int} {t : PS} (h : parseP l = .ok k t) : t.ats.length = t.nodes.length ∧ ∀ i, i < t.nodes.length → isSt (atN t.nodes i).kind = true → ∃ q, q < l.length ∧ t.ats.getD i 0 = (tkAt l q).at_ ∧ isSt (tkAt l q).kind = true := by
  obtain ⟨P, h1, h2, _, h4⟩ := parse_marks he h
  refine ⟨by rw [h1, h2, List.length_map, List.length_map], fun i hi hs => ?_⟩
  have hP : i < P.length := by rw [h1, List.length_map] at hi; exact hi
  have e1 : atN t.nodes i = (P[i]'hP).1 := by unfold atN; rw [h1, List.getD_eq_getElem?_getD]; simp [hP]
  have e2 : t.ats.getD i 0 = (P[i]'hP).2 := by rw [h2, List.getD_eq_getElem?_getD]; simp [hP]
  rw [e1] at hs
  have hm : ((P[i]'hP).1.kind, (P[i]'hP).2) ∈ P.filterMap mkN := by
    rw [List.mem_filterMap]
    exact ⟨_, List.getElem_mem hP, by unfold mkN; rw [if_pos hs]⟩
  rw [h4, List.mem_filterMap] at hm
  obtain ⟨x, hx, ex⟩ := hm
  unfold stT at ex
  split at ex
  · rename_i hk
    obtain ⟨q, hq, e⟩ := List.getElem_of_mem hx
    have e3 : tkAt l q = x := by unfold tkAt; rw [List.getD_eq_getElem?_getD, List.getElem?_eq_getElem hq]; exact e
    refine ⟨q, hq, ?_, by rw [e3]; exact hk⟩
    rw [e2, e3]
    injection ex with ex
    exact (Prod.mk.inj ex).2.symm
  · cases ex
theorem tkT_at {r : List Tok} {q : Nat} (h : q < r.length) : tkAt (r.map tkOfT) q = tkOfT (r[q]'h) := by unfold tkAt; rw [List.getD_eq_getElem?_getD]; simp [h]
theorem tkT_pos {r : List Tok} : ∀ q, q < (r.map tkOfT).length → 0 ≤ (tkAt (r.map tkOfT) q).at_ := fun q hq => by
  rw [List.length_map] at hq
  rw [tkT_at hq]
  show (0 : Int) ≤ ((r[q]'hq).at_ : Int)
  omega
theorem valid_bad {l : List UInt8} {e p : Int} (h : validL l = .bad e p) : 1 ≤ e ∧ e ≤ 10 ∧ 0 ≤ p ∧ p ≤ l.length := by
  cases hr : readL l 0 0 with
  | error z =>
    obtain ⟨e1, p1⟩ := z
    rw [validL_err hr] at h
    injection h with h1 h2
    obtain ⟨_, g2, _, ⟨g3, g4⟩, _⟩ := readL_fault l 0 0 e1 p1 (Nat.zero_le _) hr
    omega
  | ok r =>
    rw [validL_tok hr] at h
    have hm : ∀ t ∈ r.map tkOfT, 0 ≤ t.at_ ∧ t.at_ ≤ l.length := fun t ht => by
      obtain ⟨u, hu, rfl⟩ := List.mem_map.1 ht
      have := readL_in hr hu
      show 0 ≤ (u.at_ : Int) ∧ (u.at_ : Int) ≤ _
      omega
    cases hp : parseP (r.map tkOfT) with
    | out => exact absurd hp (parse_not_out _)
    | bad e1 p1 =>
      rw [toksR_bad hp] at h
      injection h with h1 h2
      obtain ⟨t, ht, e2⟩ := parse_at (readL_ends hr) hp
      have := hm t ht
      have hc : e1 = 6 ∨ e1 = 7 ∨ e1 = 8 ∨ e1 = 9 := by
        unfold parseP at hp
        rcases bind_bad hp with h3 | ⟨k, u, h3, h4⟩
        · have := run_err _ _ _ _ _ h3; omega
        · split at h4
          · split at h4
            · injection h4 with h5 h6; omega
            · cases h4
          · have := fault_err h4; omega
      omega
    | ok k t =>
      rw [toksR_ok hp] at h
      unfold nullR at h
      split at h
      · rename_i hf
        injection h with h1 h2
        obtain ⟨i1, i2, _⟩ := fst_hit hf
        obtain ⟨q, hq, e1, _⟩ := (ats_star (readL_ends hr) hp).2 _ i1 i2
        have := hm _ (tk_mem hq)
        omega
      · cases h
structure VOk (l : List UInt8) (D : List Nd) : Prop where
  form : Form D
  len : D.length ≤ 4096
  few : D.length ≤ 2 * (l.length + 1)
  txt : ∀ n ∈ D, n.text.length ≤ l.length
  fst : (fstW D).2 = false
theorem parse_vok {l : List UInt8} {r : List Tok} (hr : readL l 0 0 = .ok r) {k : Int} {t : PS} (hp : parseP (r.map tkOfT) = .ok k t) : Form t.nodes ∧ t.nodes.length ≤ 4096 ∧ t.nodes.length ≤ 2 * (l.length + 1) ∧ ∀ n ∈ t.nodes, n.text.length ≤ l.length := by
  have hk := readL_tkok hr
  obtain ⟨h1, h2⟩ := parse_form hk hp
  have hM : ∀ p, (tkAt (r.map tkOfT) p).text.length ≤ l.length := fun p => by
    rcases Nat.lt_or_ge p r.length with hq | hq
    · rw [tkT_at hq]; exact readL_text l 0 0 r hr _ (List.getElem_mem hq)
    · have e1 : tkAt (r.map tkOfT) p = tkEnd := by unfold tkAt; rw [List.getD_eq_getElem?_getD, List.getElem?_eq_none (by rw [List.length_map]; exact hq)]; rfl
      rw [e1]; exact Nat.zero_le _
  obtain ⟨h3, h4⟩ := parse_big hk hM hp
  have := readL_len hr
  rw [List.length_map] at h3
  exact ⟨h1, h2, by omega, h4⟩
theorem valid_tok_ok {l : List UInt8} {D : List Nd} (h : validL l = .ok D) : ∃ r k t, readL l 0 0 = .ok r ∧ parseP (r.map tkOfT) = .ok k t ∧ t.nodes = D ∧ (fstW D).2 = false := by
  cases hr : readL l 0 0 with
  | error z => obtain ⟨e1, p1⟩ := z; rw [validL_err hr] at h; cases h
  | ok r =>
    rw [validL_tok hr] at h
    cases hp : parseP (r.map tkOfT) with
    | out => exact absurd hp (parse_not_out _)
    | bad e1 p1 => rw [toksR_bad hp] at h; cases h
    | ok k t =>
      rw [toksR_ok hp] at h
      unfold nullR at h
      split at h
      · cases h
      · rename_i hf
        injection h with h
        exact ⟨r, k, t, rfl, hp, h, by rw [← h]; simpa using hf⟩
theorem valid_ok {l : List UInt8} {D : List Nd} (h : validL l = .ok D) : VOk l D := by
  obtain ⟨r, k, t, hr, hp, rfl, hf⟩ := valid_tok_ok h
  obtain ⟨h1, h2, h3, h4⟩ := parse_vok hr hp
  exact ⟨h1, h2, h3, h4, hf⟩
theorem opsL_cnt (l : List Tk) : ∀ p, (opsL l p).length = cntO l 0 p
  | 0 => rfl
  | p + 1 => by
    rw [opsL, cntO, ← opsL_cnt l p]
    unfold stepO
    split
    · rw [List.length_append]; rfl
    · split
      · rw [List.length_dropLast]
      · rfl
end Go.Proofs.YtcgjmnhmhiddkaaGreatDoor
