/- Form, Same, Leaf, Sub: walked. -/
import Derived.Test.YtcgjmnhmhiddkaaGreatDoorM11
import Derived.Test.YtcgjmnhmhiddkaaGreatDoorM08
import Derived.Test.YtcgjmnhmhiddkaaGreatDoorM03
import Derived.Test.YtcgjmnhmhiddkaaGreatDoorRows
import Derived.ProofKit
import Derived.OpenShut
import Derived.ChangeOld
import Derived.Below
import Derived.Deep.DeepHandedRow
import Derived.Lib.LaidTab
import Derived.Lib.SmallJoins
import Derived.Deep.Slices
import Derived.ChangeSame
namespace Go.Proofs.YtcgjmnhmhiddkaaGreatDoor
open Go Go.RowKit
set_option linter.unusedVariables false
set_option linter.unusedSimpArgs false

def Txt (l : List Nd) : Prop := ∀ n ∈ l, n.text.length ≤ 281474976710656
/-- The form, as a bool. -/
def formB (l : List Nd) : Bool := decide (0 < l.length) && ((List.range l.length).all fun i => fmd l i) && decide (firstP l (l.length - 1) = 0)
theorem formB_iff (l : List Nd) : formB l = true ↔ Form l := by
  unfold formB Form fmd
  simp only [Bool.and_eq_true, decide_eq_true_iff, List.all_eq_true, List.mem_range]
  exact ⟨fun ⟨⟨a, b⟩, c⟩ => ⟨a, b, c⟩, fun ⟨a, b, c⟩ => ⟨⟨a, b⟩, c⟩⟩
def FormL (w0 : World) (A : Option Addr) (l : List Nd) (c : Nat) (i : Value) (w : World) : Prop :=
  ∃ k : Nat, k ≤ l.length ∧ i = .int .i64 (k : Int) ∧ (∀ j, j < k → fmd l j = true) ∧ FmS w0 A l c w
set_option maxHeartbeats 8000000 in
set_option maxRecDepth 100000 in
theorem form_any (l : List Nd) (A : Option Addr) (c : Nat) (hlen : l.length ≤ 1073741824) (htx : Txt l) (w : World) (hrow : NRow w A l) (hT : U8T w) :
    Calls Tryz.prog 26 #[.agg #[.slice A l.length c]] w (Ans w (.bool (formB l))) := by
  have HB := (Below.refl w.heap.size w).alloc (Nat.le_refl _) (.cells #[.slice A l.length c] 25)
  have HS0 : Hid (FmS w A l c (w.alloc (.cells #[.slice A l.length c] 25))) := ⟨⟨HB, hrow.later HB, Blk.new _ _ _⟩, hT.later HB⟩
  have HTX := Lib.hid htx
  clear hrow hT HB htx
  go_enter Tryz.func26, Tryz.ntmps26
  go_upto_region 1 with (fail)
  generalize w.alloc (.cells #[.slice A l.length c] 25) = w1 at *
  have e0 := HS0.out.fst.box.cell 0
  simp at e0
  go_wp2
  clear e0
  go_loopw [8] (FormL w A l c) (fun i _ => l.length - (intOf i).toNat)
  case atStart => exact ⟨0, Nat.zero_le _, rfl, fun j hj => by omega, HS0.out⟩
  case round =>
    obtain ⟨k, hk, rfl, hf, hs⟩ := hrel
    have HS := Lib.hid hs
    have HF := Lib.hid hf
    have e0 := hs.fst.box.cell 0
    simp at e0
    by_cases hlt : k < l.length
    · have hltz : (k : Int) < (l.length : Int) := by omega
      have HC := Lib.hid (fun (w' : World) (h : FmS w A l c w') => formed_any l A c k hlt hlen HTX.out w' h.fst.row h.u8)
      clear hs hf
      cases hq : fmd l k with
      | true =>
        have HF2 : Hid (∀ j, j < k + 1 → fmd l j = true) := fun j hj => by
          by_cases h : j = k
          · rw [h]; exact hq
          · exact HF.out j (by omega)
        rw [hq] at HC
        clear hq
        go_wp2_with fail
        refine (HC.out _ HS.out).mono ?_; rintro e w2 ⟨rfl, hb2⟩
        have HS2 := Lib.hid (HS.out.later hb2)
        clear hb2 e0
        go_wp2
        go_roundw
        case rel => exact ⟨k + 1, by omega, by go_num, HF2.out, HS2.out⟩
        case measure => simp [intOf]; omega
      | false =>
        have HR : Hid (formB l = false) := by
          unfold Hid formB
          have : ((List.range l.length).all fun i => fmd l i) = false := by rw [List.all_eq_false]; exact ⟨k, List.mem_range.2 hlt, by simp [hq]⟩
          rw [this]; simp
        rw [hq] at HC
        clear hq
        go_wp2_with fail
        refine (HC.out _ HS.out).mono ?_; rintro e w2 ⟨rfl, hb2⟩
        have HS2 := Lib.hid (HS.out.later hb2)
        clear hb2 e0
        go_wp2
        go_ret
        exact ⟨by rw [HR.out]; rfl, HS2.out.fst.bel⟩
    · obtain rfl : k = l.length := by omega
      have HALL : Hid (((List.range l.length).all fun i => fmd l i) = true) := by unfold Hid; rw [List.all_eq_true]; intro j hj; exact hf j (List.mem_range.1 hj)
      clear hs hf
      by_cases h0 : l.length = 0
      · have HR : Hid (formB l = false) := by unfold Hid formB; simp [h0]
        have hz : (l.length : Int) = 0 := by omega
        obtain ⟨n0, hn0⟩ : ∃ n0, n0 = l.length := ⟨_, rfl⟩
        rw [← hn0] at h0
        subst h0
        rw [← hn0] at *
        go_wp2
        go_ret
        exact ⟨by rw [HR.out]; rfl, HS.out.fst.bel⟩
      · obtain ⟨n, hn⟩ : ∃ n, l.length = n + 1 := ⟨l.length - 1, by omega⟩
        have hni : (l.length : Int) - 1 = (n : Int) := by omega
        have HR : Hid (formB l = decide ((firstP l n : Int) = 0)) := by
          unfold Hid formB
          rw [HALL.out, hn, Nat.add_sub_cancel]
          simp
        have HC := Lib.hid (fun (w' : World) (h : FmS w A l c w') => first_any l A c n (by omega) w' h.fst.row)
        have HNI := Lib.hid hni
        have hge : (l.length : Int) - 1 ≥ 0 := by omega
        rw [← hni] at HC
        clear hn hni h0
        go_wp2_with fail
        refine (HC.out _ HS.out).mono ?_; rintro e w2 ⟨rfl, hb2⟩
        have HS2 := Lib.hid (HS.out.later hb2)
        clear hb2 e0
        go_wp2
        go_ret
        exact ⟨by rw [HR.out]; rfl, HS2.out.fst.bel⟩
/-- A description's value, and its row. -/
def IsD (l : List Nd) (v : Value) (w : World) : Prop := ∃ A c, l.length ≤ c ∧ v = .agg #[.slice A l.length c] ∧ NRow w A l
theorem IsD.later (l : List Nd) (v : Value) (w w' : World) (h : IsD l v w) (hb : Below w.heap.size w w') : IsD l v w' := by
  obtain ⟨A, c, h1, h2, h3⟩ := h
  exact ⟨A, c, h1, h2, h3.later hb⟩
theorem OwnN.isD {w : World} {base : Nat} {s : Value} {l : List Nd} (h : OwnN w base s l) : IsD l (.agg #[s]) w := by
  obtain ⟨_, ⟨hv, hn⟩ | ⟨g, cap, cur, hv, hb, hg, hc, hm, hs, ht⟩⟩ := h
  · have : l = [] := List.length_eq_zero_iff.1 hn
    subst this
    exact ⟨none, 0, Nat.le_refl _, by rw [hv]; rfl, NRow.nil _ _⟩
  · obtain ⟨A, c, h1, h2⟩ := OwnN.row (w := w) (base := base) (v := s) (l := l) ⟨by assumption, .inr ⟨g, cap, cur, hv, hb, hg, hc, hm, hs, ht⟩⟩
    rw [hv] at h1
    cases h1
    exact ⟨_, cap, hc, by rw [hv], h2⟩
def DPost (w : World) (l : List Nd) (e : Ending) (w' : World) : Prop := ∃ s, e = .returned (.agg #[s]) ∧ OwnN w' w.heap.size s l ∧ Below w.heap.size w w'
theorem OwnN.setCell_ne {w : World} {base : Nat} {s : Value} {l : List Nd} (h : OwnN w base s l) {a : Addr} (ha : a.block < base) (v : Value) : OwnN (w.setCell a v) base s l := by
  obtain ⟨h0, ⟨hv, hn⟩ | ⟨g, cap, cur, hv, hb, hg, hr⟩⟩ := h
  · exact ⟨h0, .inl ⟨hv, hn⟩⟩
  · refine ⟨h0, .inr ⟨g, cap, cur, hv, hb, ?_, hr⟩⟩
    have : Blk w g cur 44 := hg
    exact this.setCell_ne (a := a) (by omega) v
theorem OwnN.weaken {w : World} {base base' : Nat} {s : Value} {l : List Nd} (h : OwnN w base s l) (hb : base' ≤ base) : OwnN w base' s l := by
  obtain ⟨h0, ⟨hv, hn⟩ | ⟨g, cap, cur, hv, hbg, hr⟩⟩ := h
  · exact ⟨h0, .inl ⟨hv, hn⟩⟩
  · exact ⟨h0, .inr ⟨g, cap, cur, hv, Nat.le_trans hb hbg, hr⟩⟩
theorem NRow.part {w : World} {b o : Nat} {l : List Nd} (h : NRow w (some ⟨b, o, none⟩) l) {f k : Nat} (hk : f + k ≤ l.length) : NRow w (some ⟨b, o + f * 10, none⟩) (seg l f k) := fun i hi => by
  rw [seg_length hk] at hi
  obtain ⟨b', o', h1, h2, h3⟩ := h (f + i) (by omega)
  cases h1
  refine ⟨b, o + f * 10, rfl, h2, fun j hj => ?_⟩
  have := h3 j hj
  rw [show (seg l f k).getD i nd0 = l.getD (f + i) nd0 from seg_at hi]
  rw [← this]; congr 2; omega
theorem wrap_in {x : Int} (h1 : -9223372036854775808 ≤ x) (h2 : x ≤ 9223372036854775807) : IntKind.i64.wrap x = x := IntWalk.i64_in _ (by omega)
theorem okN.mvOk {l : List Nd} {i : Nat} (h : okN l i (atN l i)) (hi : i < 1073741824) (ht : (atN l i).text.length ≤ 281474976710656) {d : Int} (h1 : -1073741824 ≤ d) (h2 : d ≤ 1073741824) : MvOk d (atN l i) := by
  have hle := firstP_le l (i - 1)
  refine ⟨ht, fun hp => ?_, fun hk => ?_⟩
  · cases h.cs rfl with
    | leaf hk hf => unfold leafK at hk; unfold partK at hp; omega
    | one hk hi ha => exact wrap_in (by omega) (by omega)
    | two hk hi hb ha => exact wrap_in (by omega) (by omega)
  · cases h.cs rfl with
    | leaf hk2 hf => unfold leafK at hk2; omega
    | one hk2 hi ha => omega
    | two hk hi hb ha => exact wrap_in (by omega) (by omega)
theorem txt_at {l : List Nd} (h : Txt l) (j : Nat) : (atN l j).text.length ≤ 281474976710656 := by
  unfold atN
  rw [List.getD_eq_getElem?_getD]
  cases hj : l[j]? with
  | none => simp [nd0]
  | some n => exact h n (List.mem_of_getElem? hj)
end Go.Proofs.YtcgjmnhmhiddkaaGreatDoor
/- Descriptions out of tokens: the plain mathematics of the parser. -/
namespace Go.Proofs.YtcgjmnhmhiddkaaGreatDoor
open Go
set_option linter.unusedVariables false
set_option linter.unusedSimpArgs false

/-- A token whose numbers may be any. -/
structure Tk where
  kind : Int
  at_ : Int := 0
  lo : Int := 0
  hi : Int := 0
  cls : BitVec 256 := 0#256
  text : List UInt8 := []
deriving DecidableEq
def tkEnd : Tk := { kind := 10 }
def tkAt (l : List Tk) (p : Nat) : Tk := l.getD p tkEnd
/-- What the parser holds. -/
structure PS where
  read : Nat := 0
  opn : List Int := []
  nodes : List Nd := []
  ats : List Int := []
  count : Nat := 0
inductive PR where
  | ok (k : Int) (s : PS)
  | bad (e : Int) (p : Int)
  | out
def PR.bind (r : PR) (f : Int → PS → PR) : PR := match r with
  | .ok k s => f k s
  | .bad e p => .bad e p
  | .out => .out
def PS.lay (s : PS) (n : Nd) (p : Int) : PS := if s.count < 4096 then { s with nodes := s.nodes ++ [n], ats := s.ats ++ [p], count := s.count + 1 } else { s with count := s.count + 1 }
def PS.next (s : PS) : PS := { s with read := s.read + 1 }
def begK (k : Int) : Bool := decide (k = 1) || decide (k = 2) || decide (k = 3) || decide (k = 8) || decide (k = 9)
/-- The fault that the token to be read is. -/
def faultP (l : List Tk) (s : PS) : PR := match (tkAt l s.read).kind, s.opn.getLast? with
  | 10, some p => .bad 6 p
  | _, _ => .bad 7 (tkAt l s.read).at_
inductive Md where
  | or | orL (a : Int) | row | rowL (a : Int) | post | postL (a : Int) | atom | group | inside
def layK (s : PS) (n : Nd) (p : Int) : PR := .ok (s.count : Int) (s.lay n p)
def run (l : List Tk) : Nat → Md → PS → PR
  | 0, _, _ => .out
  | n + 1, .or, s => (run l n .row s).bind fun a s => run l n (.orL a) s
  | n + 1, .orL a, s => if (tkAt l s.read).kind = 5 then (run l n .row s.next).bind fun b s => run l n (.orL (s.count : Int)) (s.lay { kind := 5, a := a, b := b } (-1)) else .ok a s
  | n + 1, .row, s => (run l n .post s).bind fun a s => run l n (.rowL a) s
  | n + 1, .rowL a, s => if begK (tkAt l s.read).kind = true then (run l n .post s).bind fun b s => run l n (.rowL (s.count : Int)) (s.lay { kind := 4, a := a, b := b } (-1)) else .ok a s
  | n + 1, .post, s => (run l n .atom s).bind fun a s => run l n (.postL a) s
  | n + 1, .postL a, s =>
    if (tkAt l s.read).kind = 6 then run l n (.postL (s.count : Int)) (s.lay { kind := 6, a := a } (tkAt l s.read).at_).next
    else if (tkAt l s.read).kind = 7 then run l n (.postL (s.count : Int)) (s.lay { kind := 7, a := a, lo := (tkAt l s.read).lo, hi := (tkAt l s.read).hi } (tkAt l s.read).at_).next
    else .ok a s
  | n + 1, .atom, s =>
    if (tkAt l s.read).kind = 1 then layK s.next { kind := 2, cls := (tkAt l s.read).cls } (-1)
    else if (tkAt l s.read).kind = 2 then layK s.next { kind := 3, text := (tkAt l s.read).text } (-1)
    else if (tkAt l s.read).kind = 3 then run l n .group s
    else if (tkAt l s.read).kind = 8 then (run l n .group s.next).bind fun g s => layK s { kind := 8, a := g } (-1)
    else if (tkAt l s.read).kind = 9 then (run l n .group s.next).bind fun g s => layK s { kind := 9, a := g } (-1)
    else faultP l s
  | n + 1, .group, s =>
    if (tkAt l s.read).kind = 3 then
      if 64 < s.opn.length + 1 then .bad 8 (tkAt l s.read).at_
      else (run l n .inside { s.next with opn := s.opn ++ [(tkAt l s.read).at_] }).bind fun g s => if (tkAt l s.read).kind = 4 then .ok g { s.next with opn := s.opn.dropLast } else faultP l s
    else faultP l s
  | n + 1, .inside, s => if (tkAt l s.read).kind = 4 then layK s { kind := 1 } (-1) else run l n .or s
/-- The whole of it. -/
def parseP (l : List Tk) : PR := (run l (10 * l.length + 10) .or {}).bind fun k s =>
  if (tkAt l s.read).kind = 10 then (if 4096 < s.count then .bad 9 (tkAt l s.read).at_ else .ok k s.next) else faultP l s
/-- How much there is to do. -/
def rankM : Md → Nat
  | .or => 7 | .orL _ => 1 | .row => 6 | .rowL _ => 5 | .post => 4 | .postL _ => 1 | .atom => 3 | .group => 2 | .inside => 8
def fuelP (l : List Tk) (m : Md) (s : PS) : Nat := 10 * (l.length - s.read) + rankM m
theorem tk_in {l : List Tk} {p : Nat} (h : (tkAt l p).kind ≠ 10) : p < l.length := by
  rcases Nat.lt_or_ge p l.length with h2 | h2
  · exact h2
  · exfalso; apply h; unfold tkAt; rw [List.getD_eq_getElem?_getD, List.getElem?_eq_none h2]; rfl
theorem bind_ok {r : PR} {f : Int → PS → PR} {k : Int} {s : PS} (h : r.bind f = .ok k s) : ∃ k0 s0, r = .ok k0 s0 ∧ f k0 s0 = .ok k s := by
  cases r with
  | ok k0 s0 => exact ⟨k0, s0, rfl, h⟩
  | bad e p => cases h
  | out => cases h
theorem bind_out {r : PR} {f : Int → PS → PR} (h : r.bind f = .out) : r = .out ∨ ∃ k0 s0, r = .ok k0 s0 ∧ f k0 s0 = .out := by
  cases r with
  | ok k0 s0 => exact .inr ⟨k0, s0, rfl, h⟩
  | bad e p => cases h
  | out => exact .inl rfl
theorem bind_bad {r : PR} {f : Int → PS → PR} {e p : Int} (h : r.bind f = .bad e p) : r = .bad e p ∨ ∃ k0 s0, r = .ok k0 s0 ∧ f k0 s0 = .bad e p := by
  cases r with
  | ok k0 s0 => exact .inr ⟨k0, s0, rfl, h⟩
  | bad e p => exact .inl h
  | out => cases h
theorem lay_read (s : PS) (n : Nd) (p : Int) : (s.lay n p).read = s.read ∧ (s.lay n p).opn = s.opn ∧ (s.lay n p).count = s.count + 1 := by unfold PS.lay; split <;> exact ⟨rfl, rfl, rfl⟩
theorem fault_not_ok {l : List Tk} {s : PS} {k : Int} {t : PS} : faultP l s ≠ .ok k t := by unfold faultP; split <;> (intro h; cases h)
theorem fault_not_out {l : List Tk} {s : PS} : faultP l s ≠ .out := by unfold faultP; split <;> (intro h; cases h)
/-- Must at least one token be read? -/
def eats : Md → Nat
  | .or => 1 | .row => 1 | .post => 1 | .atom => 1 | .group => 1 | _ => 0
/-- What is read goes on, and what is open stays. -/
theorem run_read {l : List Tk} : ∀ (n : Nat) (m : Md) (s : PS) (k : Int) (t : PS), run l n m s = .ok k t → s.read + eats m ≤ t.read ∧ t.opn = s.opn ∧ s.count ≤ t.count
  | 0, _, _, _, _, h => by cases h
  | n + 1, .or, s, k, t, h => by
    obtain ⟨a, u, h1, h2⟩ := bind_ok h
    have q1 := run_read n _ _ _ _ h1
    have q2 := run_read n _ _ _ _ h2
    simp only [eats] at q1 q2 ⊢
    exact ⟨by omega, q2.2.1.trans q1.2.1, by omega⟩
  | n + 1, .orL a, s, k, t, h => by
    simp only [run] at h
    split at h
    · obtain ⟨b, u, h1, h2⟩ := bind_ok h
      have q1 := run_read n _ _ _ _ h1
      have q2 := run_read n _ _ _ _ h2
      have q3 := lay_read u { kind := 5, a := a, b := b } (-1)
      simp only [eats, PS.next] at q1 q2 ⊢
      exact ⟨by omega, by rw [q2.2.1, q3.2.1, q1.2.1], by omega⟩
    · cases h; exact ⟨Nat.le_refl _, rfl, Nat.le_refl _⟩
  | n + 1, .row, s, k, t, h => by
    obtain ⟨a, u, h1, h2⟩ := bind_ok h
    have q1 := run_read n _ _ _ _ h1
    have q2 := run_read n _ _ _ _ h2
    simp only [eats] at q1 q2 ⊢
    exact ⟨by omega, q2.2.1.trans q1.2.1, by omega⟩
  | n + 1, .rowL a, s, k, t, h => by
    simp only [run] at h
    split at h
    · obtain ⟨b, u, h1, h2⟩ := bind_ok h
      have q1 := run_read n _ _ _ _ h1
      have q2 := run_read n _ _ _ _ h2
      have q3 := lay_read u { kind := 4, a := a, b := b } (-1)
      simp only [eats] at q1 q2 ⊢
      exact ⟨by omega, by rw [q2.2.1, q3.2.1, q1.2.1], by omega⟩
    · cases h; exact ⟨Nat.le_refl _, rfl, Nat.le_refl _⟩
  | n + 1, .post, s, k, t, h => by
    obtain ⟨a, u, h1, h2⟩ := bind_ok h
    have q1 := run_read n _ _ _ _ h1
    have q2 := run_read n _ _ _ _ h2
    simp only [eats] at q1 q2 ⊢
    exact ⟨by omega, q2.2.1.trans q1.2.1, by omega⟩
  | n + 1, .postL a, s, k, t, h => by
    simp only [run] at h
    split at h
    · have q2 := run_read n _ _ _ _ h
      have q3 := lay_read s { kind := 6, a := a } (tkAt l s.read).at_
      simp only [eats, PS.next] at q2 ⊢
      exact ⟨by omega, by rw [q2.2.1, q3.2.1], by omega⟩
    · split at h
      · have q2 := run_read n _ _ _ _ h
        have q3 := lay_read s { kind := 7, a := a, lo := (tkAt l s.read).lo, hi := (tkAt l s.read).hi } (tkAt l s.read).at_
        simp only [eats, PS.next] at q2 ⊢
        exact ⟨by omega, by rw [q2.2.1, q3.2.1], by omega⟩
      · cases h; exact ⟨Nat.le_refl _, rfl, Nat.le_refl _⟩
  | n + 1, .atom, s, k, t, h => by
    simp only [run] at h
    split at h
    · cases h
      have q3 := lay_read s.next { kind := 2, cls := (tkAt l s.read).cls } (-1)
      simp only [eats, PS.next] at q3 ⊢
      exact ⟨by omega, q3.2.1, by omega⟩
    · split at h
      · cases h
        have q3 := lay_read s.next { kind := 3, text := (tkAt l s.read).text } (-1)
        simp only [eats, PS.next] at q3 ⊢
        exact ⟨by omega, q3.2.1, by omega⟩
      · split at h
        · have q2 := run_read n _ _ _ _ h
          simp only [eats] at q2 ⊢
          exact q2
        · split at h
          · obtain ⟨b, u, h1, h2⟩ := bind_ok h
            cases h2
            have q1 := run_read n _ _ _ _ h1
            have q3 := lay_read u { kind := 8, a := b } (-1)
            simp only [eats, PS.next] at q1 ⊢
            exact ⟨by omega, by rw [q3.2.1, q1.2.1], by omega⟩
          · split at h
            · obtain ⟨b, u, h1, h2⟩ := bind_ok h
              cases h2
              have q1 := run_read n _ _ _ _ h1
              have q3 := lay_read u { kind := 9, a := b } (-1)
              simp only [eats, PS.next] at q1 ⊢
              exact ⟨by omega, by rw [q3.2.1, q1.2.1], by omega⟩
            · exact absurd h fault_not_ok
  | n + 1, .group, s, k, t, h => by
    simp only [run] at h
    split at h
    · split at h
      · cases h
      · obtain ⟨b, u, h1, h2⟩ := bind_ok h
        have q1 := run_read n _ _ _ _ h1
        split at h2
        · cases h2
          simp only [eats, PS.next] at q1 ⊢
          refine ⟨by omega, ?_, by omega⟩
          rw [q1.2.1]; simp
        · exact absurd h2 fault_not_ok
    · exact absurd h fault_not_ok
  | n + 1, .inside, s, k, t, h => by
    simp only [run] at h
    split at h
    · cases h
      have q3 := lay_read s { kind := 1 } (-1)
      simp only [eats]
      exact ⟨by omega, q3.2.1, by omega⟩
    · have q2 := run_read n _ _ _ _ h
      simp only [eats] at q2 ⊢
      exact ⟨by omega, q2.2⟩
/-- Enough is enough. -/
theorem run_fuel {l : List Tk} : ∀ (n : Nat) (m : Md) (s : PS), fuelP l m s ≤ n → run l n m s ≠ .out
  | 0, m, s, h, _ => by unfold fuelP rankM at h; cases m <;> simp at h
  | n + 1, .or, s, h, ho => by
    simp only [fuelP, rankM] at h
    rcases bind_out ho with h1 | ⟨a, u, h1, h2⟩
    · exact run_fuel n .row s (by simp only [fuelP, rankM]; omega) h1
    · have q := run_read n _ _ _ _ h1
      simp only [eats] at q
      exact run_fuel n (.orL a) u (by simp only [fuelP, rankM]; omega) h2
  | n + 1, .orL a, s, h, ho => by
    simp only [fuelP, rankM] at h
    simp only [run] at ho
    split at ho
    · rename_i hk
      have hin := tk_in (l := l) (p := s.read) (by rw [hk]; decide)
      rcases bind_out ho with h1 | ⟨b, u, h1, h2⟩
      · exact run_fuel n .row s.next (by simp only [fuelP, rankM, PS.next]; omega) h1
      · have q := run_read n _ _ _ _ h1
        have q3 := lay_read u { kind := 5, a := a, b := b } (-1)
        simp only [eats, PS.next] at q
        exact run_fuel n (.orL _) _ (by simp only [fuelP, rankM]; omega) h2
    · cases ho
  | n + 1, .row, s, h, ho => by
    simp only [fuelP, rankM] at h
    rcases bind_out ho with h1 | ⟨a, u, h1, h2⟩
    · exact run_fuel n .post s (by simp only [fuelP, rankM]; omega) h1
    · have q := run_read n _ _ _ _ h1
      simp only [eats] at q
      exact run_fuel n (.rowL a) u (by simp only [fuelP, rankM]; omega) h2
  | n + 1, .rowL a, s, h, ho => by
    simp only [fuelP, rankM] at h
    simp only [run] at ho
    split at ho
    · rename_i hk
      have hin := tk_in (l := l) (p := s.read) (by intro e; rw [e] at hk; revert hk; decide)
      rcases bind_out ho with h1 | ⟨b, u, h1, h2⟩
      · exact run_fuel n .post s (by simp only [fuelP, rankM]; omega) h1
      · have q := run_read n _ _ _ _ h1
        have q3 := lay_read u { kind := 4, a := a, b := b } (-1)
        simp only [eats] at q
        exact run_fuel n (.rowL _) _ (by simp only [fuelP, rankM]; omega) h2
    · cases ho
  | n + 1, .post, s, h, ho => by
    simp only [fuelP, rankM] at h
    rcases bind_out ho with h1 | ⟨a, u, h1, h2⟩
    · exact run_fuel n .atom s (by simp only [fuelP, rankM]; omega) h1
    · have q := run_read n _ _ _ _ h1
      simp only [eats] at q
      exact run_fuel n (.postL a) u (by simp only [fuelP, rankM]; omega) h2
  | n + 1, .postL a, s, h, ho => by
    simp only [fuelP, rankM] at h
    simp only [run] at ho
    split at ho
    · rename_i hk
      have hin := tk_in (l := l) (p := s.read) (by rw [hk]; decide)
      have q3 := lay_read s { kind := 6, a := a } (tkAt l s.read).at_
      exact run_fuel n (.postL _) _ (by simp only [fuelP, rankM, PS.next]; omega) ho
    · split at ho
      · rename_i hk
        have hin := tk_in (l := l) (p := s.read) (by rw [hk]; decide)
        have q3 := lay_read s { kind := 7, a := a, lo := (tkAt l s.read).lo, hi := (tkAt l s.read).hi } (tkAt l s.read).at_
        exact run_fuel n (.postL _) _ (by simp only [fuelP, rankM, PS.next]; omega) ho
      · cases ho
  | n + 1, .atom, s, h, ho => by
    simp only [fuelP, rankM] at h
    simp only [run] at ho
    split at ho
    · cases ho
    · split at ho
      · cases ho
      · split at ho
        · exact run_fuel n .group s (by simp only [fuelP, rankM]; omega) ho
        · split at ho
          · rename_i hk
            have hin := tk_in (l := l) (p := s.read) (by rw [hk]; decide)
            rcases bind_out ho with h1 | ⟨b, u, h1, h2⟩
            · exact run_fuel n .group s.next (by simp only [fuelP, rankM, PS.next]; omega) h1
            · cases h2
          · split at ho
            · rename_i hk
              have hin := tk_in (l := l) (p := s.read) (by rw [hk]; decide)
              rcases bind_out ho with h1 | ⟨b, u, h1, h2⟩
              · exact run_fuel n .group s.next (by simp only [fuelP, rankM, PS.next]; omega) h1
              · cases h2
            · exact fault_not_out ho
  | n + 1, .group, s, h, ho => by
    simp only [fuelP, rankM] at h
    simp only [run] at ho
    split at ho
    · rename_i hk
      have hin := tk_in (l := l) (p := s.read) (by rw [hk]; decide)
      split at ho
      · cases ho
      · rcases bind_out ho with h1 | ⟨b, u, h1, h2⟩
        · exact run_fuel n .inside _ (by simp only [fuelP, rankM, PS.next]; omega) h1
        · split at h2
          · cases h2
          · exact fault_not_out h2
    · exact fault_not_out ho
  | n + 1, .inside, s, h, ho => by
    simp only [fuelP, rankM] at h
    simp only [run] at ho
    split at ho
    · cases ho
    · exact run_fuel n .or s (by simp only [fuelP, rankM]; omega) ho
/-- More is the same. -/
theorem run_more {l : List Tk} : ∀ (n : Nat) (m : Md) (s : PS), run l n m s ≠ .out → run l (n + 1) m s = run l n m s
  | 0, m, s, h => absurd rfl h
  | n + 1, m, s, h => by
    have B : ∀ {m1 : Md} {s1 : PS} {f g : Int → PS → PR}, (run l n m1 s1).bind f ≠ .out → (∀ k t, f k t ≠ .out → g k t = f k t) → (run l (n + 1) m1 s1).bind g = (run l n m1 s1).bind f := by
      intro m1 s1 f g h hfg
      have h1 : run l n m1 s1 ≠ .out := fun e => h (by rw [e]; rfl)
      rw [run_more n m1 s1 h1]
      cases hr : run l n m1 s1 with
      | ok k t => rw [hr] at h; exact hfg k t h
      | bad e p => rfl
      | out => rfl
    cases m with
    | or => exact B h fun k t ht => run_more n _ _ ht
    | orL a =>
      simp only [run] at h ⊢
      split
      · rename_i hk; rw [if_pos hk] at h; exact B h fun k t ht => run_more n _ _ ht
      · rfl
    | row => exact B h fun k t ht => run_more n _ _ ht
    | rowL a =>
      simp only [run] at h ⊢
      split
      · rename_i hk; rw [if_pos hk] at h; exact B h fun k t ht => run_more n _ _ ht
      · rfl
    | post => exact B h fun k t ht => run_more n _ _ ht
    | postL a =>
      simp only [run] at h ⊢
      split
      · rename_i hk; rw [if_pos hk] at h; exact run_more n _ _ h
      · rename_i hk; rw [if_neg hk] at h
        split
        · rename_i hk2; rw [if_pos hk2] at h; exact run_more n _ _ h
        · rfl
    | atom =>
      simp only [run] at h ⊢
      split
      · rfl
      · rename_i hk; rw [if_neg hk] at h
        split
        · rfl
        · rename_i hk2; rw [if_neg hk2] at h
          split
          · rename_i hk3; rw [if_pos hk3] at h; have := run_more n _ _ h; simp only [run] at this; rw [if_pos hk3] at this; exact this
          · rename_i hk3; rw [if_neg hk3] at h
            split
            · rename_i hk4; rw [if_pos hk4] at h; exact B h fun k t ht => rfl
            · rename_i hk4; rw [if_neg hk4] at h
              split
              · rename_i hk5; rw [if_pos hk5] at h; exact B h fun k t ht => rfl
              · rfl
    | group =>
      simp only [run] at h ⊢
      split
      · rename_i hk; rw [if_pos hk] at h
        split
        · rfl
        · rename_i hk2; rw [if_neg hk2] at h; exact B h fun k t ht => rfl
      · rfl
    | inside =>
      simp only [run] at h ⊢
      split
      · rfl
      · rename_i hk; rw [if_neg hk] at h; exact run_more n _ _ h
end Go.Proofs.YtcgjmnhmhiddkaaGreatDoor
/- Rows of tokens in memory, whose numbers may be any. -/
namespace Go.Proofs.YtcgjmnhmhiddkaaGreatDoor
open Go Go.RowKit
set_option linter.unusedVariables false

def tkC (t : Tk) : Array Value := #[.int .i64 t.kind, .int .i64 t.at_, .int .u64 (wd t.cls 0), .int .u64 (wd t.cls 1), .int .u64 (wd t.cls 2), .int .u64 (wd t.cls 3), .string (bs t.text), .int .i64 t.lo, .int .i64 t.hi]
/-- A token that lex answers. -/
def Tok.tk (t : Tok) : Tk := { kind := (t.kind : Int), at_ := (t.at_ : Int), lo := (t.lo : Int), hi := (t.hi : Int), cls := t.cls, text := t.text }
theorem tk_tok (t : Tok) : tkC t.tk = tokC t := rfl
def flatK : List Tk → List Value
  | [] => []
  | t :: l => (tkC t).toList ++ flatK l
/-- A row of tokens that is read. -/
def TkRow (w : World) (a : Option Addr) (l : List Tk) : Prop :=
  ∀ i, i < l.length → ∃ b off, a = some ⟨b, off, none⟩ ∧ b < w.heap.size ∧ ∀ j, j < 9 → w.cell? ⟨b, off + i * 9 + j, none⟩ = (tkC (l.getD i tkEnd))[j]?
theorem TkRow.later {w w' : World} {a : Option Addr} {l : List Tk} (h : TkRow w a l) (hb : Below w.heap.size w w') : TkRow w' a l := fun i hi => by
  obtain ⟨b, off, ha, hlt, hc⟩ := h i hi
  exact ⟨b, off, ha, Nat.lt_of_lt_of_le hlt hb.size, fun j hj => (hb.cell (p := ⟨b, off + i * 9 + j, none⟩) hlt).trans (hc j hj)⟩
theorem TkRow.nil (w : World) (a : Option Addr) : TkRow w a [] := fun i hi => by simp at hi
theorem TRow.tk {w : World} {a : Option Addr} {l : List Tok} (h : TRow w a l) : TkRow w a (l.map Tok.tk) := fun i hi => by
  rw [List.length_map] at hi
  obtain ⟨b, off, ha, hlt, hc⟩ := h i hi
  refine ⟨b, off, ha, hlt, fun j hj => (hc j hj).trans ?_⟩
  have : (l.map Tok.tk).getD i tkEnd = (l.getD i tok0).tk := by simp [hi]
  rw [this, tk_tok]
theorem tk_zero : tkC tkEnd = #[.int .i64 10, .int .i64 0, .int .u64 0, .int .u64 0, .int .u64 0, .int .u64 0, .string ⟨#[]⟩, .int .i64 0, .int .i64 0] := by kernel_rfl
end Go.Proofs.YtcgjmnhmhiddkaaGreatDoor
/- What a proof of a plain row needs around its walk: arguments opened (classes, bytes, rows of tokens, descriptions), a world for the witness. -/
namespace Go.Proofs.YtcgjmnhmhiddkaaGreatDoor
open Go Go.RowKit Go.ChangeShapes Go.WideShapes Go.ChangeAt Go.Joins
set_option maxRecDepth 100000
set_option linter.unusedVariables false
set_option linter.unusedSimpArgs false

theorem own : ownKnob Tryz.prog.godebug = none := by kernel_rfl
theorem laidOut : laidOutB Tryz.prog = true := by kernel_rfl
theorem cellsU64 : Tryz.prog.cellsOf 40 = 1 := by kernel_rfl

section
variable {H : Type} {enc : TypeId × Value → H} {W : World} {base : Nat} {t : TypeId} {v : Value} {d : DataW H} {p : List MemPlace}
theorem places_lt (h : DataW.Trod enc Tryz.prog W 0 (fun _ => true) true t v d p) : ∀ x ∈ p, x.block < W.heap.size := by
  obtain ⟨m, hm⟩ := h
  exact DataW.trod_lt m _ _ _ hm
end

set_option linter.unusedVariables false

section
variable {H : Type} {enc : TypeId × Value → H} {W : World} {base : Nat} {v : Value} {d : DataW H} {p : List MemPlace}
end
set_option linter.unusedVariables false
set_option linter.unusedSimpArgs false

section
variable {H : Type} {enc : TypeId × Value → H} {W : World} {base : Nat} {v : Value} {d : DataW H} {p : List MemPlace}
end
set_option linter.unusedVariables false
set_option linter.unusedSimpArgs false

section
variable {H : Type} {enc : TypeId × Value → H} {W : World} {base : Nat} {v : Value} {d : DataW H} {p : List MemPlace}
end
end Go.Proofs.YtcgjmnhmhiddkaaGreatDoor
