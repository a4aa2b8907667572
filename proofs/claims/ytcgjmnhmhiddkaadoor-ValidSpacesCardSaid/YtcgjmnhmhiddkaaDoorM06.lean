/- Descriptions out of tokens: the plain mathematics of the parser. -/
import Derived.Test.YtcgjmnhmhiddkaaDoorM05
namespace Go.Proofs.YtcgjmnhmhiddkaaDoor
open Go
set_option linter.unusedVariables false
set_option linter.unusedSimpArgs false

/-- A token whose numbers may be any. -/
structure Tk where
  kind : Int
  at_ : Int := 0
  lo : Int := 0
  hi : Int := 0
  cls : BitVec 256 := 0#256
  text : List UInt8 := []
deriving DecidableEq
def tkEnd : Tk := { kind := 10 }
def tkAt (l : List Tk) (p : Nat) : Tk := l.getD p tkEnd
/-- What the parser holds. -/
structure PS where
  read : Nat := 0
  opn : List Int := []
  nodes : List Nd := []
  ats : List Int := []
  count : Nat := 0
inductive PR where
  | ok (k : Int) (s : PS)
  | bad (e : Int) (p : Int)
  | out
def PR.bind (r : PR) (f : Int → PS → PR) : PR := match r with
  | .ok k s => f k s
  | .bad e p => .bad e p
  | .out => .out
def PS.lay (s : PS) (n : Nd) (p : Int) : PS := if s.count < 4096 then { s with nodes := s.nodes ++ [n], ats := s.ats ++ [p], count := s.count + 1 } else { s with count := s.count + 1 }
def PS.next (s : PS) : PS := { s with read := s.read + 1 }
def begK (k : Int) : Bool := decide (k = 1) || decide (k = 2) || decide (k = 3) || decide (k = 8) || decide (k = 9)
/-- The fault that the token to be read is. -/
def faultP (l : List Tk) (s : PS) : PR := match (tkAt l s.read).kind, s.opn.getLast? with
  | 10, some p => .bad 6 p
  | _, _ => .bad 7 (tkAt l s.read).at_
inductive Md where
  | or | orL (a : Int) | row | rowL (a : Int) | post | postL (a : Int) | atom | group | inside
def layK (s : PS) (n : Nd) (p : Int) : PR := .ok (s.count : Int) (s.lay n p)
def run (l : List Tk) : Nat → Md → PS → PR
  | 0, _, _ => .out
  | n + 1, .or, s => (run l n .row s).bind fun a s => run l n (.orL a) s
  | n + 1, .orL a, s => if (tkAt l s.read).kind = 5 then (run l n .row s.next).bind fun b s => run l n (.orL (s.count : Int)) (s.lay { kind := 5, a := a, b := b } (-1)) else .ok a s
  | n + 1, .row, s => (run l n .post s).bind fun a s => run l n (.rowL a) s
  | n + 1, .rowL a, s => if begK (tkAt l s.read).kind = true then (run l n .post s).bind fun b s => run l n (.rowL (s.count : Int)) (s.lay { kind := 4, a := a, b := b } (-1)) else .ok a s
  | n + 1, .post, s => (run l n .atom s).bind fun a s => run l n (.postL a) s
  | n + 1, .postL a, s =>
    if (tkAt l s.read).kind = 6 then run l n (.postL (s.count : Int)) (s.lay { kind := 6, a := a } (tkAt l s.read).at_).next
    else if (tkAt l s.read).kind = 7 then run l n (.postL (s.count : Int)) (s.lay { kind := 7, a := a, lo := (tkAt l s.read).lo, hi := (tkAt l s.read).hi } (tkAt l s.read).at_).next
    else .ok a s
  | n + 1, .atom, s =>
    if (tkAt l s.read).kind = 1 then layK s.next { kind := 2, cls := (tkAt l s.read).cls } (-1)
    else if (tkAt l s.read).kind = 2 then layK s.next { kind := 3, text := (tkAt l s.read).text } (-1)
    else if (tkAt l s.read).kind = 3 then run l n .group s
    else if (tkAt l s.read).kind = 8 then (run l n .group s.next).bind fun g s => layK s { kind := 8, a := g } (-1)
    else if (tkAt l s.read).kind = 9 then (run l n .group s.next).bind fun g s => layK s { kind := 9, a := g } (-1)
    else faultP l s
  | n + 1, .group, s =>
    if (tkAt l s.read).kind = 3 then
      if 64 < s.opn.length + 1 then .bad 8 (tkAt l s.read).at_
      else (run l n .inside { s.next with opn := s.opn ++ [(tkAt l s.read).at_] }).bind fun g s => if (tkAt l s.read).kind = 4 then .ok g { s.next with opn := s.opn.dropLast } else faultP l s
    else faultP l s
  | n + 1, .inside, s => if (tkAt l s.read).kind = 4 then layK s { kind := 1 } (-1) else run l n .or s
/-- The whole of it. -/
def parseP (l : List Tk) : PR := (run l (10 * l.length + 10) .or {}).bind fun k s =>
  if (tkAt l s.read).kind = 10 then (if 4096 < s.count then .bad 9 (tkAt l s.read).at_ else .ok k s.next) else faultP l s
/-- How much there is to do. -/
def rankM : Md → Nat
  | .or => 7 | .orL _ => 1 | .row => 6 | .rowL _ => 5 | .post => 4 | .postL _ => 1 | .atom => 3 | .group => 2 | .inside => 8
def fuelP (l : List Tk) (m : Md) (s : PS) : Nat := 10 * (l.length - s.read) + rankM m
theorem tk_in {l : List Tk} {p : Nat} (h : (tkAt l p).kind ≠ 10) : p < l.length := by
  rcases Nat.lt_or_ge p l.length with h2 | h2
  · exact h2
  · exfalso; apply h; unfold tkAt; rw [List.getD_eq_getElem?_getD, List.getElem?_eq_none h2]; rfl
theorem bind_ok {r : PR} {f : Int → PS → PR} {k : Int} {s : PS} (h : r.bind f = .ok k s) : ∃ k0 s0, r = .ok k0 s0 ∧ f k0 s0 = .ok k s := by
  cases r with
  | ok k0 s0 => exact ⟨k0, s0, rfl, h⟩
  | bad e p => cases h
  | out => cases h
theorem bind_out {r : PR} {f : Int → PS → PR} (h : r.bind f = .out) : r = .out ∨ ∃ k0 s0, r = .ok k0 s0 ∧ f k0 s0 = .out := by
  cases r with
  | ok k0 s0 => exact .inr ⟨k0, s0, rfl, h⟩
  | bad e p => cases h
  | out => exact .inl rfl
theorem bind_bad {r : PR} {f : Int → PS → PR} {e p : Int} (h : r.bind f = .bad e p) : r = .bad e p ∨ ∃ k0 s0, r = .ok k0 s0 ∧ f k0 s0 = .bad e p := by
  cases r with
  | ok k0 s0 => exact .inr ⟨k0, s0, rfl, h⟩
  | bad e p => exact .inl h
  | out => cases h
theorem lay_read (s : PS) (n : Nd) (p : Int) : (s.lay n p).read = s.read ∧ (s.lay n p).opn = s.opn ∧ (s.lay n p).count = s.count + 1 := by unfold PS.lay; split <;> exact ⟨rfl, rfl, rfl⟩
theorem fault_not_ok {l : List Tk} {s : PS} {k : Int} {t : PS} : faultP l s ≠ .ok k t := by unfold faultP; split <;> (intro h; cases h)
theorem fault_not_out {l : List Tk} {s : PS} : faultP l s ≠ .out := by unfold faultP; split <;> (intro h; cases h)
/-- Must at least one token be read? -/
def eats : Md → Nat
  | .or => 1 | .row => 1 | .post => 1 | .atom => 1 | .group => 1 | _ => 0
/-- What is read goes on, and what is open stays. -/
theorem run_read {l : List Tk} : ∀ (n : Nat) (m : Md) (s : PS) (k : Int) (t : PS), run l n m s = .ok k t → s.read + eats m ≤ t.read ∧ t.opn = s.opn ∧ s.count ≤ t.count
  | 0, _, _, _, _, h => by cases h
  | n + 1, .or, s, k, t, h => by
    obtain ⟨a, u, h1, h2⟩ := bind_ok h
    have q1 := run_read n _ _ _ _ h1
    have q2 := run_read n _ _ _ _ h2
    simp only [eats] at q1 q2 ⊢
    exact ⟨by omega, q2.2.1.trans q1.2.1, by omega⟩
  | n + 1, .orL a, s, k, t, h => by
    simp only [run] at h
    split at h
    · obtain ⟨b, u, h1, h2⟩ := bind_ok h
      have q1 := run_read n _ _ _ _ h1
      have q2 := run_read n _ _ _ _ h2
      have q3 := lay_read u { kind := 5, a := a, b := b } (-1)
      simp only [eats, PS.next] at q1 q2 ⊢
      exact ⟨by omega, by rw [q2.2.1, q3.2.1, q1.2.1], by omega⟩
    · cases h; exact ⟨Nat.le_refl _, rfl, Nat.le_refl _⟩
  | n + 1, .row, s, k, t, h => by
    obtain ⟨a, u, h1, h2⟩ := bind_ok h
    have q1 := run_read n _ _ _ _ h1
    have q2 := run_read n _ _ _ _ h2
    simp only [eats] at q1 q2 ⊢
    exact ⟨by omega, q2.2.1.trans q1.2.1, by omega⟩
  | n + 1, .rowL a, s, k, t, h => by
    simp only [run] at h
    split at h
    · obtain ⟨b, u, h1, h2⟩ := bind_ok h
      have q1 := run_read n _ _ _ _ h1
      have q2 := run_read n _ _ _ _ h2
      have q3 := lay_read u { kind := 4, a := a, b := b } (-1)
      simp only [eats] at q1 q2 ⊢
      exact ⟨by omega, by rw [q2.2.1, q3.2.1, q1.2.1], by omega⟩
    · cases h; exact ⟨Nat.le_refl _, rfl, Nat.le_refl _⟩
  | n + 1, .post, s, k, t, h => by
    obtain ⟨a, u, h1, h2⟩ := bind_ok h
    have q1 := run_read n _ _ _ _ h1
    have q2 := run_read n _ _ _ _ h2
    simp only [eats] at q1 q2 ⊢
    exact ⟨by omega, q2.2.1.trans q1.2.1, by omega⟩
  | n + 1, .postL a, s, k, t, h => by
    simp only [run] at h
    split at h
    · have q2 := run_read n _ _ _ _ h
      have q3 := lay_read s { kind := 6, a := a } (tkAt l s.read).at_
      simp only [eats, PS.next] at q2 ⊢
      exact ⟨by omega, by rw [q2.2.1, q3.2.1], by omega⟩
    · split at h
      · have q2 := run_read n _ _ _ _ h
        have q3 := lay_read s { kind := 7, a := a, lo := (tkAt l s.read).lo, hi := (tkAt l s.read).hi } (tkAt l s.read).at_
        simp only [eats, PS.next] at q2 ⊢
        exact ⟨by omega, by rw [q2.2.1, q3.2.1], by omega⟩
      · cases h; exact ⟨Nat.le_refl _, rfl, Nat.le_refl _⟩
  | n + 1, .atom, s, k, t, h => by
    simp only [run] at h
    split at h
    · cases h
      have q3 := lay_read s.next { kind := 2, cls := (tkAt l s.read).cls } (-1)
      simp only [eats, PS.next] at q3 ⊢
      exact ⟨by omega, q3.2.1, by omega⟩
    · split at h
      · cases h
        have q3 := lay_read s.next { kind := 3, text := (tkAt l s.read).text } (-1)
        simp only [eats, PS.next] at q3 ⊢
        exact ⟨by omega, q3.2.1, by omega⟩
      · split at h
        · have q2 := run_read n _ _ _ _ h
          simp only [eats] at q2 ⊢
          exact q2
        · split at h
          · obtain ⟨b, u, h1, h2⟩ := bind_ok h
            cases h2
            have q1 := run_read n _ _ _ _ h1
            have q3 := lay_read u { kind := 8, a := b } (-1)
            simp only [eats, PS.next] at q1 ⊢
            exact ⟨by omega, by rw [q3.2.1, q1.2.1], by omega⟩
          · split at h
            · obtain ⟨b, u, h1, h2⟩ := bind_ok h
              cases h2
              have q1 := run_read n _ _ _ _ h1
              have q3 := lay_read u { kind := 9, a := b } (-1)
              simp only [eats, PS.next] at q1 ⊢
              exact ⟨by omega, by rw [q3.2.1, q1.2.1], by omega⟩
            · exact absurd h fault_not_ok
  | n + 1, .group, s, k, t, h => by
    simp only [run] at h
    split at h
    · split at h
      · cases h
      · obtain ⟨b, u, h1, h2⟩ := bind_ok h
        have q1 := run_read n _ _ _ _ h1
        split at h2
        · cases h2
          simp only [eats, PS.next] at q1 ⊢
          refine ⟨by omega, ?_, by omega⟩
          rw [q1.2.1]; simp
        · exact absurd h2 fault_not_ok
    · exact absurd h fault_not_ok
  | n + 1, .inside, s, k, t, h => by
    simp only [run] at h
    split at h
    · cases h
      have q3 := lay_read s { kind := 1 } (-1)
      simp only [eats]
      exact ⟨by omega, q3.2.1, by omega⟩
    · have q2 := run_read n _ _ _ _ h
      simp only [eats] at q2 ⊢
      exact ⟨by omega, q2.2⟩
/-- Enough is enough. -/
theorem run_fuel {l : List Tk} : ∀ (n : Nat) (m : Md) (s : PS), fuelP l m s ≤ n → run l n m s ≠ .out
  | 0, m, s, h, _ => by unfold fuelP rankM at h; cases m <;> simp at h
  | n + 1, .or, s, h, ho => by
    simp only [fuelP, rankM] at h
    rcases bind_out ho with h1 | ⟨a, u, h1, h2⟩
    · exact run_fuel n .row s (by simp only [fuelP, rankM]; omega) h1
    · have q := run_read n _ _ _ _ h1
      simp only [eats] at q
      exact run_fuel n (.orL a) u (by simp only [fuelP, rankM]; omega) h2
  | n + 1, .orL a, s, h, ho => by
    simp only [fuelP, rankM] at h
    simp only [run] at ho
    split at ho
    · rename_i hk
      have hin := tk_in (l := l) (p := s.read) (by rw [hk]; decide)
      rcases bind_out ho with h1 | ⟨b, u, h1, h2⟩
      · exact run_fuel n .row s.next (by simp only [fuelP, rankM, PS.next]; omega) h1
      · have q := run_read n _ _ _ _ h1
        have q3 := lay_read u { kind := 5, a := a, b := b } (-1)
        simp only [eats, PS.next] at q
        exact run_fuel n (.orL _) _ (by simp only [fuelP, rankM]; omega) h2
    · cases ho
  | n + 1, .row, s, h, ho => by
    simp only [fuelP, rankM] at h
    rcases bind_out ho with h1 | ⟨a, u, h1, h2⟩
    · exact run_fuel n .post s (by simp only [fuelP, rankM]; omega) h1
    · have q := run_read n _ _ _ _ h1
      simp only [eats] at q
      exact run_fuel n (.rowL a) u (by simp only [fuelP, rankM]; omega) h2
  | n + 1, .rowL a, s, h, ho => by
    simp only [fuelP, rankM] at h
    simp only [run] at ho
    split at ho
    · rename_i hk
      have hin := tk_in (l := l) (p := s.read) (by intro e; rw [e] at hk; revert hk; decide)
      rcases bind_out ho with h1 | ⟨b, u, h1, h2⟩
      · exact run_fuel n .post s (by simp only [fuelP, rankM]; omega) h1
      · have q := run_read n _ _ _ _ h1
        have q3 := lay_read u { kind := 4, a := a, b := b } (-1)
        simp only [eats] at q
        exact run_fuel n (.rowL _) _ (by simp only [fuelP, rankM]; omega) h2
    · cases ho
  | n + 1, .post, s, h, ho => by
    simp only [fuelP, rankM] at h
    rcases bind_out ho with h1 | ⟨a, u, h1, h2⟩
    · exact run_fuel n .atom s (by simp only [fuelP, rankM]; omega) h1
    · have q := run_read n _ _ _ _ h1
      simp only [eats] at q
      exact run_fuel n (.postL a) u (by simp only [fuelP, rankM]; omega) h2
  | n + 1, .postL a, s, h, ho => by
    simp only [fuelP, rankM] at h
    simp only [run] at ho
    split at ho
    · rename_i hk
      have hin := tk_in (l := l) (p := s.read) (by rw [hk]; decide)
      have q3 := lay_read s { kind := 6, a := a } (tkAt l s.read).at_
      exact run_fuel n (.postL _) _ (by simp only [fuelP, rankM, PS.next]; omega) ho
    · split at ho
      · rename_i hk
        have hin := tk_in (l := l) (p := s.read) (by rw [hk]; decide)
        have q3 := lay_read s { kind := 7, a := a, lo := (tkAt l s.read).lo, hi := (tkAt l s.read).hi } (tkAt l s.read).at_
        exact run_fuel n (.postL _) _ (by simp only [fuelP, rankM, PS.next]; omega) ho
      · cases ho
  | n + 1, .atom, s, h, ho => by
    simp only [fuelP, rankM] at h
    simp only [run] at ho
    split at ho
    · cases ho
    · split at ho
      · cases ho
      · split at ho
        · exact run_fuel n .group s (by simp only [fuelP, rankM]; omega) ho
        · split at ho
          · rename_i hk
            have hin := tk_in (l := l) (p := s.read) (by rw [hk]; decide)
            rcases bind_out ho with h1 | ⟨b, u, h1, h2⟩
            · exact run_fuel n .group s.next (by simp only [fuelP, rankM, PS.next]; omega) h1
            · cases h2
          · split at ho
            · rename_i hk
              have hin := tk_in (l := l) (p := s.read) (by rw [hk]; decide)
              rcases bind_out ho with h1 | ⟨b, u, h1, h2⟩
              · exact run_fuel n .group s.next (by simp only [fuelP, rankM, PS.next]; omega) h1
              · cases h2
            · exact fault_not_out ho
  | n + 1, .group, s, h, ho => by
    simp only [fuelP, rankM] at h
    simp only [run] at ho
    split at ho
    · rename_i hk
      have hin := tk_in (l := l) (p := s.read) (by rw [hk]; decide)
      split at ho
      · cases ho
      · rcases bind_out ho with h1 | ⟨b, u, h1, h2⟩
        · exact run_fuel n .inside _ (by simp only [fuelP, rankM, PS.next]; omega) h1
        · split at h2
          · cases h2
          · exact fault_not_out h2
    · exact fault_not_out ho
  | n + 1, .inside, s, h, ho => by
    simp only [fuelP, rankM] at h
    simp only [run] at ho
    split at ho
    · cases ho
    · exact run_fuel n .or s (by simp only [fuelP, rankM]; omega) ho
end Go.Proofs.YtcgjmnhmhiddkaaDoor
/- What the parser lays has its form: the plain mathematics. -/
namespace Go.Proofs.YtcgjmnhmhiddkaaDoor
open Go
set_option linter.unusedVariables false
set_option linter.unusedSimpArgs false

theorem grow_ok {l : List Nd} {n : Nd} (h : ∀ i, i < l.length → okN l i (atN l i)) (hn : okN (l ++ [n]) l.length n) : ∀ i, i < (l ++ [n]).length → okN (l ++ [n]) i (atN (l ++ [n]) i) := fun i hi => by
  by_cases hil : i < l.length
  · rw [atN_left hil]
    exact (okN_congr (fun j hj => atN_left (by omega)) _).2 (h i hil)
  · obtain rfl : i = l.length := by simp at hi; omega
    rw [atN_right (Nat.le_refl _), Nat.sub_self]; exact hn
theorem first_grow {l m : List Nd} {i : Nat} (h : i < l.length) : firstP (l ++ m) i = firstP l i := firstP_congr fun j hj => atN_left (by omega)
theorem at_new (l : List Nd) (n : Nd) : atN (l ++ [n]) l.length = n := by rw [atN_right (Nat.le_refl _), Nat.sub_self]; rfl
theorem grow_leaf {l : List Nd} {n : Nd} (hk : leafK n.kind) (hb : backN n = n) (ht : n.kind = 3 → textOk n.text = true) : okN (l ++ [n]) l.length n ∧ firstP (l ++ [n]) l.length = l.length := by
  have hf : firstP (l ++ [n]) l.length = l.length := firstP_stop (by rw [at_new]; unfold leafK at hk; unfold partK; omega)
  exact ⟨(Cs.leaf hk hf).ok fun _ => ⟨hb, ht⟩, hf⟩
theorem grow_one {l : List Nd} (hl : 0 < l.length) {kind lo hi : Int} (hk : 6 ≤ kind ∧ kind ≤ 9) (h0 : kind ≠ 7 → lo = 0 ∧ hi = 0) (h7 : kind = 7 → 0 ≤ lo ∧ lo ≤ hi ∧ hi ≤ 255) {a : Int} (ha : a = (l.length : Int) - 1) :
    okN (l ++ [({ kind := kind, a := a, lo := lo, hi := hi } : Nd)]) l.length { kind := kind, a := a, lo := lo, hi := hi } ∧ firstP (l ++ [({ kind := kind, a := a, lo := lo, hi := hi } : Nd)]) l.length = firstP l (l.length - 1) := by
  have hf : firstP (l ++ [({ kind := kind, a := a, lo := lo, hi := hi } : Nd)]) l.length = firstP (l ++ [({ kind := kind, a := a, lo := lo, hi := hi } : Nd)]) (l.length - 1) := by
    rw [firstP_go (by rw [at_new]; unfold partK; simp only; omega) (by rw [at_new]; simp only; omega) (by rw [at_new]; simp only; omega), at_new]
    congr 1; simp only; omega
  refine ⟨(Cs.one hk hl ha rfl h0 h7 ⟨rfl, rfl⟩ hf).ok (fun hh => by unfold leafK at hh; simp only at hh; omega), ?_⟩
  rw [hf]; exact first_grow (by omega)
theorem grow_two {l : List Nd} (hl : 0 < l.length) {kind a b : Int} {g : Nat} (hk : kind = 4 ∨ kind = 5) (hg : 0 < g) (hf : firstP l (l.length - 1) = g) (ha : a = (g : Int) - 1) (hb : b = (l.length : Int) - 1) :
    okN (l ++ [({ kind := kind, a := a, b := b } : Nd)]) l.length { kind := kind, a := a, b := b } ∧ firstP (l ++ [({ kind := kind, a := a, b := b } : Nd)]) l.length = firstP l (g - 1) := by
  have hgl : g ≤ l.length - 1 := by have := firstP_le l (l.length - 1); omega
  have hf1 : firstP (l ++ [({ kind := kind, a := a, b := b } : Nd)]) (l.length - 1) = g := by rw [first_grow (by omega)]; exact hf
  have hf2 : firstP (l ++ [({ kind := kind, a := a, b := b } : Nd)]) l.length = firstP (l ++ [({ kind := kind, a := a, b := b } : Nd)]) (g - 1) := by
    rw [firstP_go (by rw [at_new]; unfold partK; simp only; omega) (by rw [at_new]; simp only; omega) (by rw [at_new]; simp only; omega), at_new]
    congr 1; simp only; omega
  refine ⟨(Cs.two hk hl hb (by rw [hf1]; exact ha) (by omega) ⟨rfl, rfl⟩ ⟨rfl, rfl⟩ (by rw [hf1]; exact hf2)).ok (fun hh => by unfold leafK at hh; simp only at hh; omega), ?_⟩
  rw [hf2]; exact first_grow (by omega)
/-- Tokens as promised. -/
def TkOk (l : List Tk) : Prop := ∀ t ∈ l, (t.kind = 2 → textOk t.text = true) ∧ (t.kind = 7 → 0 ≤ t.lo ∧ t.lo ≤ t.hi ∧ t.hi ≤ 255)
theorem TkOk.at {l : List Tk} (h : TkOk l) (p : Nat) : ((tkAt l p).kind = 2 → textOk (tkAt l p).text = true) ∧ ((tkAt l p).kind = 7 → 0 ≤ (tkAt l p).lo ∧ (tkAt l p).lo ≤ (tkAt l p).hi ∧ (tkAt l p).hi ≤ 255) := by
  by_cases hp : p < l.length
  · have : tkAt l p ∈ l := by unfold tkAt; rw [List.getD_eq_getElem?_getD, List.getElem?_eq_getElem hp]; exact List.getElem_mem _
    exact h _ this
  · have e : tkAt l p = tkEnd := by unfold tkAt; rw [List.getD_eq_getElem?_getD, List.getElem?_eq_none (by omega)]; rfl
    rw [e]; exact ⟨fun h => by revert h; decide, fun h => by revert h; decide⟩
/-- All nodes laid are as they must be, and all are kept. -/
structure Lay (s : PS) : Prop where
  len : s.nodes.length = s.count
  ok : ∀ i, i < s.nodes.length → okN s.nodes i (atN s.nodes i)
theorem Lay.next {s : PS} (h : Lay s) : Lay s.next := ⟨h.len, h.ok⟩
theorem lay_nodes {s : PS} (h : s.count < 4096) (n : Nd) (p : Int) : (s.lay n p).nodes = s.nodes ++ [n] := by unfold PS.lay; rw [if_pos h]
theorem Lay.lay {s : PS} (h : Lay s) (hc : s.count < 4096) {n : Nd} (hn : okN (s.nodes ++ [n]) s.nodes.length n) (p : Int) : Lay (s.lay n p) := by
  constructor
  · rw [lay_nodes hc, (lay_read s n p).2.2, List.length_append, h.len]; rfl
  · rw [lay_nodes hc]; exact grow_ok h.ok hn
def preM (m : Md) (s : PS) (f : Nat) : Prop := match m with
  | .orL a | .rowL a | .postL a => 0 < s.count ∧ a = (s.count : Int) - 1 ∧ firstP s.nodes (s.count - 1) = f
  | _ => f = s.count
structure Laid (s : PS) (f : Nat) (k : Int) (t : PS) : Prop where
  lay : Lay t
  more : ∃ new, t.nodes = s.nodes ++ new
  pos : 0 < t.count
  k : k = (t.count : Int) - 1
  first : firstP t.nodes (t.count - 1) = f
theorem Laid.trans {s u t : PS} {f g : Nat} {j k : Int} (h : Laid s f j u) (h2 : Laid u g k t) : Laid s g k t := by
  obtain ⟨a, ha⟩ := h.more
  obtain ⟨b, hb⟩ := h2.more
  exact ⟨h2.lay, ⟨a ++ b, by rw [hb, ha, List.append_assoc]⟩, h2.pos, h2.k, h2.first⟩
theorem laid_leaf {s : PS} (h : Lay s) (hc : s.count < 4096) {n : Nd} (hk : leafK n.kind) (hb : backN n = n) (ht : n.kind = 3 → textOk n.text = true) (p : Int) : Laid s s.count (s.count : Int) (s.lay n p) := by
  obtain ⟨h1, h2⟩ := grow_leaf (l := s.nodes) hk hb ht
  refine ⟨h.lay hc h1 p, ⟨[n], lay_nodes hc n p⟩, by rw [(lay_read s n p).2.2]; omega, by rw [(lay_read s n p).2.2]; omega, ?_⟩
  rw [(lay_read s n p).2.2, lay_nodes hc, Nat.add_sub_cancel, ← h.len]; exact h2
theorem laid_one {s : PS} {f : Nat} (h : Lay s) (hp : 0 < s.count) (hc : s.count < 4096) (hf : firstP s.nodes (s.count - 1) = f) {kind lo hi a : Int} (hk : 6 ≤ kind ∧ kind ≤ 9) (h0 : kind ≠ 7 → lo = 0 ∧ hi = 0) (h7 : kind = 7 → 0 ≤ lo ∧ lo ≤ hi ∧ hi ≤ 255) (ha : a = (s.count : Int) - 1) (p : Int) :
    Laid s f (s.count : Int) (s.lay { kind := kind, a := a, lo := lo, hi := hi } p) := by
  obtain ⟨h1, h2⟩ := grow_one (l := s.nodes) (by rw [h.len]; exact hp) hk h0 h7 (a := a) (by rw [h.len]; exact ha)
  refine ⟨h.lay hc h1 p, ⟨_, lay_nodes hc _ p⟩, by rw [(lay_read s _ p).2.2]; omega, by rw [(lay_read s _ p).2.2]; omega, ?_⟩
  rw [(lay_read s _ p).2.2, lay_nodes hc, Nat.add_sub_cancel, ← h.len, h2, h.len]; exact hf
theorem laid_two {s : PS} {f g : Nat} (h : Lay s) (hp : 0 < s.count) (hc : s.count < 4096) (hg : 0 < g) (hf : firstP s.nodes (s.count - 1) = g) (hf2 : firstP s.nodes (g - 1) = f) {kind a b : Int} (hk : kind = 4 ∨ kind = 5) (ha : a = (g : Int) - 1) (hb : b = (s.count : Int) - 1) (p : Int) :
    Laid s f (s.count : Int) (s.lay { kind := kind, a := a, b := b } p) := by
  obtain ⟨h1, h2⟩ := grow_two (l := s.nodes) (by rw [h.len]; exact hp) (a := a) (b := b) hk hg (by rw [h.len]; exact hf) ha (by rw [h.len]; exact hb)
  refine ⟨h.lay hc h1 p, ⟨_, lay_nodes hc _ p⟩, by rw [(lay_read s _ p).2.2]; omega, by rw [(lay_read s _ p).2.2]; omega, ?_⟩
  rw [(lay_read s _ p).2.2, lay_nodes hc, Nat.add_sub_cancel, ← h.len, h2]; exact hf2
theorem run_form {l : List Tk} (hl : TkOk l) : ∀ (n : Nat) (m : Md) (s : PS) (f : Nat) (k : Int) (t : PS), run l n m s = .ok k t → t.count ≤ 4096 → Lay s → preM m s f → Laid s f k t
  | 0, _, _, _, _, _, h, _, _, _ => by cases h
  | n + 1, .or, s, f, k, t, h, hc, hs, hp => by
    obtain ⟨a, u, h1, h2⟩ := bind_ok h
    have q2 := run_read n _ _ _ _ h2
    have r1 := run_form hl n .row s f a u h1 (by omega) hs hp
    exact r1.trans (run_form hl n (.orL a) u f k t h2 hc r1.lay ⟨r1.pos, r1.k, r1.first⟩)
  | n + 1, .orL a, s, f, k, t, h, hc, hs, hp => by
    simp only [run] at h
    obtain ⟨hp1, hp2, hp3⟩ := hp
    split at h
    · obtain ⟨b, u, h1, h2⟩ := bind_ok h
      have q1 := run_read n _ _ _ _ h1
      have q2 := run_read n _ _ _ _ h2
      rw [(lay_read u _ _).2.2] at q2
      have r1 := run_form hl n .row s.next s.count b u h1 (by omega) hs.next rfl
      obtain ⟨new, hnew⟩ := r1.more
      have r2 := laid_two (f := f) (kind := 5) (a := a) (b := b) r1.lay r1.pos (by omega) hp1 r1.first (by rw [hnew]; show firstP (s.nodes ++ new) (s.count - 1) = f; rw [first_grow (by rw [hs.len]; omega)]; exact hp3) (.inr rfl) hp2 r1.k (-1)
      have r3 := run_form hl n _ _ f k t h2 hc r2.lay ⟨r2.pos, r2.k, r2.first⟩
      exact (show Laid s s.count b u from ⟨r1.lay, ⟨new, hnew⟩, r1.pos, r1.k, r1.first⟩).trans (r2.trans r3)
    · cases h; exact ⟨hs, ⟨[], by simp⟩, hp1, hp2, hp3⟩
  | n + 1, .row, s, f, k, t, h, hc, hs, hp => by
    obtain ⟨a, u, h1, h2⟩ := bind_ok h
    have q2 := run_read n _ _ _ _ h2
    have r1 := run_form hl n .post s f a u h1 (by omega) hs hp
    exact r1.trans (run_form hl n (.rowL a) u f k t h2 hc r1.lay ⟨r1.pos, r1.k, r1.first⟩)
  | n + 1, .rowL a, s, f, k, t, h, hc, hs, hp => by
    simp only [run] at h
    obtain ⟨hp1, hp2, hp3⟩ := hp
    split at h
    · obtain ⟨b, u, h1, h2⟩ := bind_ok h
      have q1 := run_read n _ _ _ _ h1
      have q2 := run_read n _ _ _ _ h2
      rw [(lay_read u _ _).2.2] at q2
      have r1 := run_form hl n .post s s.count b u h1 (by omega) hs rfl
      obtain ⟨new, hnew⟩ := r1.more
      have r2 := laid_two (f := f) (kind := 4) (a := a) (b := b) r1.lay r1.pos (by omega) hp1 r1.first (by rw [hnew, first_grow (by rw [hs.len]; omega)]; exact hp3) (.inl rfl) hp2 r1.k (-1)
      have r3 := run_form hl n _ _ f k t h2 hc r2.lay ⟨r2.pos, r2.k, r2.first⟩
      exact r1.trans (r2.trans r3)
    · cases h; exact ⟨hs, ⟨[], by simp⟩, hp1, hp2, hp3⟩
  | n + 1, .post, s, f, k, t, h, hc, hs, hp => by
    obtain ⟨a, u, h1, h2⟩ := bind_ok h
    have q2 := run_read n _ _ _ _ h2
    have r1 := run_form hl n .atom s f a u h1 (by omega) hs hp
    exact r1.trans (run_form hl n (.postL a) u f k t h2 hc r1.lay ⟨r1.pos, r1.k, r1.first⟩)
  | n + 1, .postL a, s, f, k, t, h, hc, hs, hp => by
    simp only [run] at h
    obtain ⟨hp1, hp2, hp3⟩ := hp
    split at h
    · have q2 := run_read n _ _ _ _ h
      have q3 := (lay_read s { kind := 6, a := a } (tkAt l s.read).at_).2.2
      have q4 : s.count + 1 ≤ t.count := by have := q2.2.2; simp only [PS.next] at this; omega
      have r2 := laid_one (f := f) (kind := 6) (lo := 0) (hi := 0) (a := a) hs hp1 (by omega) hp3 (by omega) (fun _ => ⟨rfl, rfl⟩) (fun h => by omega) hp2 (tkAt l s.read).at_
      have r3 := run_form hl n _ _ f k t h hc r2.lay.next ⟨r2.pos, r2.k, r2.first⟩
      exact r2.trans ⟨r3.lay, r3.more, r3.pos, r3.k, r3.first⟩
    · split at h
      · rename_i hk7
        have q2 := run_read n _ _ _ _ h
        have q3 := (lay_read s { kind := 7, a := a, lo := (tkAt l s.read).lo, hi := (tkAt l s.read).hi } (tkAt l s.read).at_).2.2
        have q4 : s.count + 1 ≤ t.count := by have := q2.2.2; simp only [PS.next] at this; omega
        have r2 := laid_one (f := f) (kind := 7) (lo := (tkAt l s.read).lo) (hi := (tkAt l s.read).hi) (a := a) hs hp1 (by omega) hp3 (by omega) (fun h => absurd rfl h) (fun _ => (hl.at s.read).2 hk7) hp2 (tkAt l s.read).at_
        have r3 := run_form hl n _ _ f k t h hc r2.lay.next ⟨r2.pos, r2.k, r2.first⟩
        exact r2.trans ⟨r3.lay, r3.more, r3.pos, r3.k, r3.first⟩
      · cases h; exact ⟨hs, ⟨[], by simp⟩, hp1, hp2, hp3⟩
  | n + 1, .atom, s, f, k, t, h, hc, hs, hp => by
    simp only [run] at h
    have hp : f = s.count := hp
    subst hp
    have leafC : ∀ {nd : Nd}, layK s.next nd (-1) = .ok k t → s.count < 4096 ∧ k = (s.count : Int) ∧ t = s.next.lay nd (-1) := fun {nd} e => by
      cases e
      have := (lay_read s.next nd (-1)).2.2
      have e2 : s.next.count = s.count := rfl
      exact ⟨by omega, rfl, rfl⟩
    split at h
    · obtain ⟨c1, rfl, rfl⟩ := leafC h
      have := laid_leaf (s := s.next) hs.next c1 (n := { kind := 2, cls := (tkAt l s.read).cls }) (.inr (.inl rfl)) (by simp [backN]) (fun h => by have h : (2 : Int) = 3 := h; omega) (-1)
      exact ⟨this.lay, this.more, this.pos, this.k, this.first⟩
    · split at h
      · rename_i hk2
        obtain ⟨c1, rfl, rfl⟩ := leafC h
        have := laid_leaf (s := s.next) hs.next c1 (n := { kind := 3, text := (tkAt l s.read).text }) (.inr (.inr rfl)) (by simp [backN]) (fun _ => (hl.at s.read).1 hk2) (-1)
        exact ⟨this.lay, this.more, this.pos, this.k, this.first⟩
      · split at h
        · exact run_form hl n .group s _ k t h hc hs rfl
        · split at h
          · obtain ⟨b, u, h1, h2⟩ := bind_ok h
            cases h2
            have q3 := (lay_read u { kind := 8, a := b } (-1)).2.2
            have r1 := run_form hl n .group s.next s.count b u h1 (by omega) hs.next rfl
            have r2 := laid_one (f := s.count) (kind := 8) (lo := 0) (hi := 0) (a := b) r1.lay r1.pos (by omega) r1.first (by omega) (fun _ => ⟨rfl, rfl⟩) (fun h => by omega) r1.k (-1)
            exact (show Laid s s.count b u from ⟨r1.lay, r1.more, r1.pos, r1.k, r1.first⟩).trans r2
          · split at h
            · obtain ⟨b, u, h1, h2⟩ := bind_ok h
              cases h2
              have q3 := (lay_read u { kind := 9, a := b } (-1)).2.2
              have r1 := run_form hl n .group s.next s.count b u h1 (by omega) hs.next rfl
              have r2 := laid_one (f := s.count) (kind := 9) (lo := 0) (hi := 0) (a := b) r1.lay r1.pos (by omega) r1.first (by omega) (fun _ => ⟨rfl, rfl⟩) (fun h => by omega) r1.k (-1)
              exact (show Laid s s.count b u from ⟨r1.lay, r1.more, r1.pos, r1.k, r1.first⟩).trans r2
            · exact absurd h fault_not_ok
  | n + 1, .group, s, f, k, t, h, hc, hs, hp => by
    simp only [run] at h
    have hp : f = s.count := hp
    subst hp
    split at h
    · split at h
      · cases h
      · obtain ⟨b, u, h1, h2⟩ := bind_ok h
        split at h2
        · cases h2
          have r1 := run_form hl n .inside _ s.count k u h1 hc ⟨hs.len, hs.ok⟩ rfl
          exact ⟨⟨r1.lay.len, r1.lay.ok⟩, r1.more, r1.pos, r1.k, r1.first⟩
        · exact absurd h2 fault_not_ok
    · exact absurd h fault_not_ok
  | n + 1, .inside, s, f, k, t, h, hc, hs, hp => by
    simp only [run] at h
    have hp : f = s.count := hp
    subst hp
    split at h
    · cases h
      have q3 := (lay_read s { kind := 1 } (-1)).2.2
      exact laid_leaf hs (by omega) (.inl rfl) (by simp [backN]) (fun h => by revert h; decide) (-1)
    · exact run_form hl n .or s _ k t h hc hs rfl
/-- What is parsed has its form. -/
theorem parse_form {l : List Tk} (hl : TkOk l) {k : Int} {t : PS} (h : parseP l = .ok k t) : Form t.nodes ∧ t.nodes.length ≤ 4096 := by
  obtain ⟨a, u, h1, h2⟩ := bind_ok h
  split at h2
  · split at h2
    · cases h2
    · rename_i hcnt
      cases h2
      have r := run_form hl _ .or {} 0 k u h1 (by omega) ⟨rfl, fun i hi => by simp at hi⟩ rfl
      have hlen := r.lay.len
      exact ⟨⟨by show 0 < u.nodes.length; rw [hlen]; exact r.pos, r.lay.ok, by show firstP u.nodes (u.nodes.length - 1) = 0; rw [hlen]; exact r.first⟩, by show u.nodes.length ≤ 4096; omega⟩
  · exact absurd h2 fault_not_ok
end Go.Proofs.YtcgjmnhmhiddkaaDoor
/- Where stars and repeats stand, and faults: the plain mathematics of the parser. -/
namespace Go.Proofs.YtcgjmnhmhiddkaaDoor
open Go
set_option linter.unusedVariables false
set_option linter.unusedSimpArgs false

def isSt (k : Int) : Bool := decide (k = 6) || decide (k = 7)
def stT (t : Tk) : Option (Int × Int) := if isSt t.kind = true then some (t.kind, t.at_) else none
def sts (l : List Tk) (i j : Nat) : List (Int × Int) := ((l.drop i).take (j - i)).filterMap stT
def mkN (x : Nd × Int) : Option (Int × Int) := if isSt x.1.kind = true then some (x.1.kind, x.2) else none
theorem sts_nil (l : List Tk) (i : Nat) : sts l i i = [] := by unfold sts; rw [Nat.sub_self]; rfl
theorem sts_add {l : List Tk} {i j k : Nat} (h1 : i ≤ j) (h2 : j ≤ k) : sts l i k = sts l i j ++ sts l j k := by
  unfold sts
  rw [show k - i = (j - i) + (k - j) by omega, List.take_add, List.filterMap_append, List.drop_drop, show i + (j - i) = j by omega]
theorem sts_one {l : List Tk} {p : Nat} (h : p < l.length) : sts l p (p + 1) = (stT (tkAt l p)).toList := by
  unfold sts tkAt
  rw [Nat.add_sub_cancel_left, List.drop_eq_getElem_cons h, List.getD_eq_getElem?_getD, List.getElem?_eq_getElem h]
  simp only [List.take_succ_cons, List.take_zero, Option.getD_some]
  cases hs : stT l[p] with
  | none => simp [List.filterMap_cons, hs]
  | some x => simp [List.filterMap_cons, hs]
structure Mks (l : List Tk) (s t : PS) : Prop where
  le : s.read ≤ t.read
  ex : ∃ P : List (Nd × Int), t.nodes = s.nodes ++ P.map (·.1) ∧ t.ats = s.ats ++ P.map (·.2) ∧ (∀ x ∈ P, isSt x.1.kind = false → x.2 = -1) ∧ P.filterMap mkN = sts l s.read t.read
theorem Mks.refl (l : List Tk) (s : PS) : Mks l s s := ⟨Nat.le_refl _, [], by simp, by simp, by simp, by rw [sts_nil]; rfl⟩
theorem Mks.trans {l : List Tk} {s t u : PS} (h : Mks l s t) (k : Mks l t u) : Mks l s u := by
  obtain ⟨h1, P, p1, p2, p3, p4⟩ := h
  obtain ⟨k1, Q, q1, q2, q3, q4⟩ := k
  refine ⟨Nat.le_trans h1 k1, P ++ Q, by rw [q1, p1, List.map_append, List.append_assoc], by rw [q2, p2, List.map_append, List.append_assoc], fun x hx => ?_, by rw [List.filterMap_append, p4, q4, ← sts_add h1 k1]⟩
  rcases List.mem_append.1 hx with h | h
  · exact p3 x h
  · exact q3 x h
theorem Mks.next {l : List Tk} {s : PS} (h : s.read < l.length) (hk : isSt (tkAt l s.read).kind = false) : Mks l s s.next := by
  refine ⟨Nat.le_succ _, [], by simp [PS.next], by simp [PS.next], by simp, ?_⟩
  show _ = sts l s.read (s.read + 1)
  rw [sts_one h]; unfold stT; rw [hk]; rfl
theorem lay_ats {s : PS} (h : s.count < 4096) (n : Nd) (p : Int) : (s.lay n p).ats = s.ats ++ [p] := by unfold PS.lay; rw [if_pos h]
theorem Mks.lay {l : List Tk} {s : PS} (h : s.count < 4096) {n : Nd} (hk : isSt n.kind = false) : Mks l s (s.lay n (-1)) := by
  refine ⟨by rw [(lay_read s n _).1]; exact Nat.le_refl _, [(n, -1)], lay_nodes h n _, lay_ats h n _, fun x hx _ => by simp at hx; rw [hx], ?_⟩
  rw [(lay_read s n _).1, sts_nil]
  simp [mkN, hk]
theorem Mks.star {l : List Tk} {s : PS} (h : s.count < 4096) (hin : s.read < l.length) {n : Nd} (hk : isSt (tkAt l s.read).kind = true) (hn : n.kind = (tkAt l s.read).kind) : Mks l s (s.lay n (tkAt l s.read).at_).next := by
  have hm : ∀ x ∈ [(n, (tkAt l s.read).at_)], isSt x.1.kind = false → x.2 = -1 := by
    intro x hx hx2
    rw [List.mem_singleton] at hx
    rw [hx] at hx2
    rw [hn, hk] at hx2; cases hx2
  have hf : [(n, (tkAt l s.read).at_)].filterMap mkN = sts l s.read (s.read + 1) := by
    rw [sts_one hin]; simp [mkN, stT, hk, hn]
  refine ⟨by show s.read ≤ (s.lay n _).read + 1; rw [(lay_read s n _).1]; omega, [(n, (tkAt l s.read).at_)], lay_nodes h n _, lay_ats h n _, hm, ?_⟩
  show _ = sts l s.read ((s.lay n _).read + 1)
  rw [(lay_read s n _).1]; exact hf
theorem Mks.opn {l : List Tk} {s t : PS} (h : Mks l s t) (o : List Int) : Mks l s { t with opn := o } := ⟨h.le, h.ex⟩
theorem run_marks {l : List Tk} : ∀ (n : Nat) (m : Md) (s : PS) (k : Int) (t : PS), run l n m s = .ok k t → t.count ≤ 4096 → Mks l s t
  | 0, _, _, _, _, h, _ => by cases h
  | n + 1, .or, s, k, t, h, hc => by
    obtain ⟨a, u, h1, h2⟩ := bind_ok h
    have q2 := run_read n _ _ _ _ h2
    exact (run_marks n .row s a u h1 (by omega)).trans (run_marks n (.orL a) u k t h2 hc)
  | n + 1, .orL a, s, k, t, h, hc => by
    simp only [run] at h
    split at h
    · rename_i hk
      have hin := tk_in (l := l) (p := s.read) (by rw [hk]; decide)
      obtain ⟨b, u, h1, h2⟩ := bind_ok h
      have q2 := run_read n _ _ _ _ h2
      rw [(lay_read u _ _).2.2] at q2
      exact (Mks.next hin (by rw [hk]; decide)).trans ((run_marks n .row s.next b u h1 (by omega)).trans ((Mks.lay (by omega) (by decide : isSt (5 : Int) = false)).trans (run_marks n _ _ k t h2 hc)))
    · cases h; exact Mks.refl l s
  | n + 1, .row, s, k, t, h, hc => by
    obtain ⟨a, u, h1, h2⟩ := bind_ok h
    have q2 := run_read n _ _ _ _ h2
    exact (run_marks n .post s a u h1 (by omega)).trans (run_marks n (.rowL a) u k t h2 hc)
  | n + 1, .rowL a, s, k, t, h, hc => by
    simp only [run] at h
    split at h
    · obtain ⟨b, u, h1, h2⟩ := bind_ok h
      have q2 := run_read n _ _ _ _ h2
      rw [(lay_read u _ _).2.2] at q2
      exact (run_marks n .post s b u h1 (by omega)).trans ((Mks.lay (by omega) (by decide : isSt (4 : Int) = false)).trans (run_marks n _ _ k t h2 hc))
    · cases h; exact Mks.refl l s
  | n + 1, .post, s, k, t, h, hc => by
    obtain ⟨a, u, h1, h2⟩ := bind_ok h
    have q2 := run_read n _ _ _ _ h2
    exact (run_marks n .atom s a u h1 (by omega)).trans (run_marks n (.postL a) u k t h2 hc)
  | n + 1, .postL a, s, k, t, h, hc => by
    simp only [run] at h
    split at h
    · rename_i hk
      have hin := tk_in (l := l) (p := s.read) (by rw [hk]; decide)
      have q2 := run_read n _ _ _ _ h
      have q3 := (lay_read s { kind := 6, a := a } (tkAt l s.read).at_).2.2
      have q4 : s.count + 1 ≤ t.count := by have := q2.2.2; simp only [PS.next] at this; omega
      exact (Mks.star (by omega) hin (by rw [hk]; decide) hk.symm).trans (run_marks n _ _ k t h hc)
    · split at h
      · rename_i hk
        have hin := tk_in (l := l) (p := s.read) (by rw [hk]; decide)
        have q2 := run_read n _ _ _ _ h
        have q3 := (lay_read s { kind := 7, a := a, lo := (tkAt l s.read).lo, hi := (tkAt l s.read).hi } (tkAt l s.read).at_).2.2
        have q4 : s.count + 1 ≤ t.count := by have := q2.2.2; simp only [PS.next] at this; omega
        exact (Mks.star (by omega) hin (by rw [hk]; decide) hk.symm).trans (run_marks n _ _ k t h hc)
      · cases h; exact Mks.refl l s
  | n + 1, .atom, s, k, t, h, hc => by
    simp only [run] at h
    have leafC : ∀ {nd : Nd}, layK s.next nd (-1) = .ok k t → s.next.count < 4096 ∧ t = s.next.lay nd (-1) := fun {nd} e => by
      cases e
      have := (lay_read s.next nd (-1)).2.2
      exact ⟨by omega, rfl⟩
    split at h
    · rename_i hk
      have hin := tk_in (l := l) (p := s.read) (by rw [hk]; decide)
      obtain ⟨c1, rfl⟩ := leafC h
      exact (Mks.next hin (by rw [hk]; decide)).trans (Mks.lay c1 (by decide : isSt (2 : Int) = false))
    · split at h
      · rename_i hk
        have hin := tk_in (l := l) (p := s.read) (by rw [hk]; decide)
        obtain ⟨c1, rfl⟩ := leafC h
        exact (Mks.next hin (by rw [hk]; decide)).trans (Mks.lay c1 (by decide : isSt (3 : Int) = false))
      · split at h
        · exact run_marks n .group s k t h hc
        · split at h
          · rename_i hk
            have hin := tk_in (l := l) (p := s.read) (by rw [hk]; decide)
            obtain ⟨b, u, h1, h2⟩ := bind_ok h
            cases h2
            have q3 := (lay_read u { kind := 8, a := b } (-1)).2.2
            exact (Mks.next hin (by rw [hk]; decide)).trans ((run_marks n .group s.next b u h1 (by omega)).trans (Mks.lay (by omega) (by decide : isSt (8 : Int) = false)))
          · split at h
            · rename_i hk
              have hin := tk_in (l := l) (p := s.read) (by rw [hk]; decide)
              obtain ⟨b, u, h1, h2⟩ := bind_ok h
              cases h2
              have q3 := (lay_read u { kind := 9, a := b } (-1)).2.2
              exact (Mks.next hin (by rw [hk]; decide)).trans ((run_marks n .group s.next b u h1 (by omega)).trans (Mks.lay (by omega) (by decide : isSt (9 : Int) = false)))
            · exact absurd h fault_not_ok
  | n + 1, .group, s, k, t, h, hc => by
    simp only [run] at h
    split at h
    · rename_i hk
      have hin := tk_in (l := l) (p := s.read) (by rw [hk]; decide)
      split at h
      · cases h
      · obtain ⟨b, u, h1, h2⟩ := bind_ok h
        split at h2
        · rename_i hk2
          have hin2 := tk_in (l := l) (p := u.read) (by rw [hk2]; decide)
          cases h2
          have r := run_marks n .inside _ k u h1 hc
          exact ((Mks.next hin (by rw [hk]; decide)).trans ⟨r.le, r.ex⟩).trans ((Mks.next hin2 (by rw [hk2]; decide)).opn _)
        · exact absurd h2 fault_not_ok
    · exact absurd h fault_not_ok
  | n + 1, .inside, s, k, t, h, hc => by
    simp only [run] at h
    split at h
    · cases h
      have q3 := (lay_read s { kind := 1 } (-1)).2.2
      exact Mks.lay (by omega) (by decide : isSt (1 : Int) = false)
    · exact run_marks n .or s k t h hc
/-- A row that ends with its one TkEnd. -/
structure TEnds (l : List Tk) : Prop where
  pos : 0 < l.length
  last : (tkAt l (l.length - 1)).kind = 10
  only : ∀ p, p < l.length - 1 → (tkAt l p).kind ≠ 10
theorem TEnds.step {l : List Tk} (h : TEnds l) {p : Nat} (hk : (tkAt l p).kind ≠ 10) : p + 1 < l.length := by
  have h1 := tk_in hk
  have : p ≠ l.length - 1 := fun e => hk (by rw [e]; exact h.last)
  omega
theorem tk_mem {l : List Tk} {p : Nat} (h : p < l.length) : tkAt l p ∈ l := by unfold tkAt; rw [List.getD_eq_getElem?_getD, List.getElem?_eq_getElem h]; exact List.getElem_mem _
theorem run_range {l : List Tk} (hl : TEnds l) : ∀ (n : Nat) (m : Md) (s : PS) (k : Int) (t : PS), run l n m s = .ok k t → s.read < l.length → t.read < l.length
  | 0, _, _, _, _, h, _ => by cases h
  | n + 1, .or, s, k, t, h, hr => by
    obtain ⟨a, u, h1, h2⟩ := bind_ok h
    exact run_range hl n _ u k t h2 (run_range hl n _ s a u h1 hr)
  | n + 1, .orL a, s, k, t, h, hr => by
    simp only [run] at h
    split at h
    · rename_i hk
      obtain ⟨b, u, h1, h2⟩ := bind_ok h
      have r := run_range hl n _ s.next b u h1 (hl.step (by rw [hk]; decide))
      exact run_range hl n _ _ k t h2 (by rw [(lay_read u _ _).1]; exact r)
    · cases h; exact hr
  | n + 1, .row, s, k, t, h, hr => by
    obtain ⟨a, u, h1, h2⟩ := bind_ok h
    exact run_range hl n _ u k t h2 (run_range hl n _ s a u h1 hr)
  | n + 1, .rowL a, s, k, t, h, hr => by
    simp only [run] at h
    split at h
    · obtain ⟨b, u, h1, h2⟩ := bind_ok h
      have r := run_range hl n _ s b u h1 hr
      exact run_range hl n _ _ k t h2 (by rw [(lay_read u _ _).1]; exact r)
    · cases h; exact hr
  | n + 1, .post, s, k, t, h, hr => by
    obtain ⟨a, u, h1, h2⟩ := bind_ok h
    exact run_range hl n _ u k t h2 (run_range hl n _ s a u h1 hr)
  | n + 1, .postL a, s, k, t, h, hr => by
    simp only [run] at h
    split at h
    · rename_i hk
      exact run_range hl n _ _ k t h (by show (s.lay _ _).read + 1 < _; rw [(lay_read s _ _).1]; exact hl.step (by rw [hk]; decide))
    · split at h
      · rename_i hk
        exact run_range hl n _ _ k t h (by show (s.lay _ _).read + 1 < _; rw [(lay_read s _ _).1]; exact hl.step (by rw [hk]; decide))
      · cases h; exact hr
  | n + 1, .atom, s, k, t, h, hr => by
    simp only [run] at h
    split at h
    · rename_i hk
      cases h
      rw [(lay_read s.next _ _).1]; exact hl.step (by rw [hk]; decide)
    · split at h
      · rename_i hk
        cases h
        rw [(lay_read s.next _ _).1]; exact hl.step (by rw [hk]; decide)
      · split at h
        · exact run_range hl n _ s k t h hr
        · split at h
          · rename_i hk
            obtain ⟨b, u, h1, h2⟩ := bind_ok h
            cases h2
            rw [(lay_read u _ _).1]; exact run_range hl n _ s.next b u h1 (hl.step (by rw [hk]; decide))
          · split at h
            · rename_i hk
              obtain ⟨b, u, h1, h2⟩ := bind_ok h
              cases h2
              rw [(lay_read u _ _).1]; exact run_range hl n _ s.next b u h1 (hl.step (by rw [hk]; decide))
            · exact absurd h fault_not_ok
  | n + 1, .group, s, k, t, h, hr => by
    simp only [run] at h
    split at h
    · split at h
      · cases h
      · obtain ⟨b, u, h1, h2⟩ := bind_ok h
        split at h2
        · rename_i hk2
          cases h2
          exact hl.step (p := u.read) (by rw [hk2]; decide)
        · exact absurd h2 fault_not_ok
    · exact absurd h fault_not_ok
  | n + 1, .inside, s, k, t, h, hr => by
    simp only [run] at h
    split at h
    · cases h; rw [(lay_read s _ _).1]; exact hr
    · exact run_range hl n _ s k t h hr
def OpnOk (l : List Tk) (s : PS) : Prop := ∀ x ∈ s.opn, ∃ t ∈ l, t.at_ = x
theorem fault_at {l : List Tk} {s : PS} (hr : s.read < l.length) (ho : OpnOk l s) {e p : Int} (h : faultP l s = .bad e p) : ∃ t ∈ l, t.at_ = p := by
  unfold faultP at h
  split at h
  · rename_i q hk hq
    cases h
    exact ho p (List.mem_of_getLast? hq)
  · cases h; exact ⟨_, tk_mem hr, rfl⟩
/-- A fault's place is a token's. -/
theorem run_at {l : List Tk} (hl : TEnds l) : ∀ (n : Nat) (m : Md) (s : PS) (e p : Int), run l n m s = .bad e p → s.read < l.length → OpnOk l s → ∃ t ∈ l, t.at_ = p
  | 0, _, _, _, _, h, _, _ => by cases h
  | n + 1, .or, s, e, p, h, hr, ho => by
    rcases bind_bad h with h1 | ⟨a, u, h1, h2⟩
    · exact run_at hl n _ s e p h1 hr ho
    · exact run_at hl n _ u e p h2 (run_range hl n _ s a u h1 hr) (by have := (run_read n _ _ _ _ h1).2.1; unfold OpnOk; rw [this]; exact ho)
  | n + 1, .orL a, s, e, p, h, hr, ho => by
    simp only [run] at h
    split at h
    · rename_i hk
      rcases bind_bad h with h1 | ⟨b, u, h1, h2⟩
      · exact run_at hl n _ s.next e p h1 (hl.step (by rw [hk]; decide)) ho
      · have r := run_range hl n _ s.next b u h1 (hl.step (by rw [hk]; decide))
        have o : u.opn = s.opn := (run_read n _ _ _ _ h1).2.1
        exact run_at hl n _ _ e p h2 (by rw [(lay_read u _ _).1]; exact r) (by unfold OpnOk; rw [(lay_read u _ _).2.1, o]; exact ho)
    · cases h
  | n + 1, .row, s, e, p, h, hr, ho => by
    rcases bind_bad h with h1 | ⟨a, u, h1, h2⟩
    · exact run_at hl n _ s e p h1 hr ho
    · exact run_at hl n _ u e p h2 (run_range hl n _ s a u h1 hr) (by have := (run_read n _ _ _ _ h1).2.1; unfold OpnOk; rw [this]; exact ho)
  | n + 1, .rowL a, s, e, p, h, hr, ho => by
    simp only [run] at h
    split at h
    · rcases bind_bad h with h1 | ⟨b, u, h1, h2⟩
      · exact run_at hl n _ s e p h1 hr ho
      · have r := run_range hl n _ s b u h1 hr
        have o : u.opn = s.opn := (run_read n _ _ _ _ h1).2.1
        exact run_at hl n _ _ e p h2 (by rw [(lay_read u _ _).1]; exact r) (by unfold OpnOk; rw [(lay_read u _ _).2.1, o]; exact ho)
    · cases h
  | n + 1, .post, s, e, p, h, hr, ho => by
    rcases bind_bad h with h1 | ⟨a, u, h1, h2⟩
    · exact run_at hl n _ s e p h1 hr ho
    · exact run_at hl n _ u e p h2 (run_range hl n _ s a u h1 hr) (by have := (run_read n _ _ _ _ h1).2.1; unfold OpnOk; rw [this]; exact ho)
  | n + 1, .postL a, s, e, p, h, hr, ho => by
    simp only [run] at h
    split at h
    · rename_i hk
      exact run_at hl n _ _ e p h (by show (s.lay _ _).read + 1 < _; rw [(lay_read s _ _).1]; exact hl.step (by rw [hk]; decide)) (by unfold OpnOk; show ∀ x ∈ (s.lay _ _).opn, _; rw [(lay_read s _ _).2.1]; exact ho)
    · split at h
      · rename_i hk
        exact run_at hl n _ _ e p h (by show (s.lay _ _).read + 1 < _; rw [(lay_read s _ _).1]; exact hl.step (by rw [hk]; decide)) (by unfold OpnOk; show ∀ x ∈ (s.lay _ _).opn, _; rw [(lay_read s _ _).2.1]; exact ho)
      · cases h
  | n + 1, .atom, s, e, p, h, hr, ho => by
    simp only [run] at h
    split at h
    · cases h
    · split at h
      · cases h
      · split at h
        · exact run_at hl n _ s e p h hr ho
        · split at h
          · rename_i hk
            rcases bind_bad h with h1 | ⟨b, u, h1, h2⟩
            · exact run_at hl n _ s.next e p h1 (hl.step (by rw [hk]; decide)) ho
            · cases h2
          · split at h
            · rename_i hk
              rcases bind_bad h with h1 | ⟨b, u, h1, h2⟩
              · exact run_at hl n _ s.next e p h1 (hl.step (by rw [hk]; decide)) ho
              · cases h2
            · exact fault_at hr ho h
  | n + 1, .group, s, e, p, h, hr, ho => by
    simp only [run] at h
    split at h
    · rename_i hk
      have ho2 : OpnOk l { s.next with opn := s.opn ++ [(tkAt l s.read).at_] } := fun x hx => by
        rcases List.mem_append.1 hx with h | h
        · exact ho x h
        · rw [List.mem_singleton] at h; exact ⟨_, tk_mem hr, h.symm⟩
      split at h
      · cases h; exact ⟨_, tk_mem hr, rfl⟩
      · rcases bind_bad h with h1 | ⟨b, u, h1, h2⟩
        · exact run_at hl n _ _ e p h1 (hl.step (p := s.read) (by rw [hk]; decide)) ho2
        · have r := run_range hl n _ _ b u h1 (hl.step (p := s.read) (by rw [hk]; decide))
          have o : u.opn = _ := (run_read n _ _ _ _ h1).2.1
          split at h2
          · cases h2
          · exact fault_at r (by unfold OpnOk; rw [o]; exact ho2) h2
    · exact fault_at hr ho h
  | n + 1, .inside, s, e, p, h, hr, ho => by
    simp only [run] at h
    split at h
    · cases h
    · exact run_at hl n _ s e p h hr ho
theorem parse_at {l : List Tk} (hl : TEnds l) {e p : Int} (h : parseP l = .bad e p) : ∃ t ∈ l, t.at_ = p := by
  rcases bind_bad h with h1 | ⟨a, u, h1, h2⟩
  · exact run_at hl _ _ {} e p h1 hl.pos (fun x hx => by simp at hx)
  · have r := run_range hl _ _ {} a u h1 hl.pos
    have o : u.opn = [] := (run_read _ _ _ _ _ h1).2.1
    split at h2
    · split at h2
      · cases h2; exact ⟨_, tk_mem r, rfl⟩
      · cases h2
    · exact fault_at r (fun x hx => by rw [o] at hx; simp at hx) h2
/-- The stars and repeats of what is parsed are the tokens', in their order. -/
theorem parse_marks {l : List Tk} (hl : TEnds l) {k : Int} {t : PS} (h : parseP l = .ok k t) : ∃ P : List (Nd × Int), t.nodes = P.map (·.1) ∧ t.ats = P.map (·.2) ∧ (∀ x ∈ P, isSt x.1.kind = false → x.2 = -1) ∧ P.filterMap mkN = l.filterMap stT := by
  obtain ⟨a, u, h1, h2⟩ := bind_ok h
  have r := run_range hl _ _ {} a u h1 hl.pos
  split at h2
  · rename_i hk
    split at h2
    · cases h2
    · cases h2
      obtain ⟨-, P, p1, p2, p3, p4⟩ := run_marks _ _ {} k u h1 (by omega)
      refine ⟨P, by show u.nodes = _; simpa using p1, by show u.ats = _; simpa using p2, p3, ?_⟩
      rw [p4]
      show sts l 0 u.read = _
      have hlast : u.read = l.length - 1 := by
        rcases Nat.lt_or_ge u.read (l.length - 1) with h | h
        · exact absurd hk (hl.only _ h)
        · omega
      have e1 : l.filterMap stT = sts l 0 l.length := by unfold sts; rw [List.drop_zero, Nat.sub_zero, List.take_length]
      have e2 : sts l (l.length - 1) l.length = [] := by
        have hp := hl.pos
        have := sts_one (l := l) (p := l.length - 1) (by omega)
        rw [show l.length - 1 + 1 = l.length by omega] at this
        rw [this]; unfold stT; rw [hl.last]; rfl
      rw [hlast, e1, sts_add (l := l) (i := 0) (j := l.length - 1) (k := l.length) (Nat.zero_le _) (by omega), e2, List.append_nil]
  · exact absurd h2 fault_not_ok
theorem parse_not_out (l : List Tk) : parseP l ≠ .out := by
  intro h
  rcases bind_out h with h1 | ⟨a, u, h1, h2⟩
  · exact run_fuel _ _ {} (by unfold fuelP rankM; simp) h1
  · split at h2
    · split at h2 <;> cases h2
    · exact fault_not_out h2
end Go.Proofs.YtcgjmnhmhiddkaaDoor
/- Descriptions out of tokens: what the parser answers hangs on what it has read. -/
namespace Go.Proofs.YtcgjmnhmhiddkaaDoor
open Go
set_option linter.unusedVariables false
set_option linter.unusedSimpArgs false

end Go.Proofs.YtcgjmnhmhiddkaaDoor
