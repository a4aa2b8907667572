/- Nodes laid where there is room: walked. -/
import Derived.Test.YtidoofdofdhjpaaM09
import Derived.Test.YtidoofdofdhjpaaM10
import Derived.Test.YtidoofdofdhjpaaM07
import Derived.OwnWalk
namespace Go.Proofs.Ytidoofdofdhjpaa
open Go Go.RowKit
set_option linter.unusedVariables false
set_option linter.unusedSimpArgs false

theorem OwnN.gb {w w' : World} {base g cap : Nat} {L : List Nd} (h : OwnN w base (.slice (some ⟨g, 0, none⟩) L.length cap) L) (hb : Below w.heap.size w w') : OwnN w' base (.slice (some ⟨g, 0, none⟩) L.length cap) L := h.later hb
theorem NRow.gb {w w' : World} {a : Option Addr} {l : List Nd} {g : Nat} (h : NRow w a l) (ha : ∀ b o, a = some ⟨b, o, none⟩ → b ≠ g) (hb : w.grownBy w' (some g)) : NRow w' a l := fun i hi => by
  obtain ⟨b, off, h1, hlt, hc⟩ := h i hi
  exact ⟨b, off, h1, Nat.lt_of_lt_of_le hlt hb.size, fun j hj => (World.cell?_of_block (a := ⟨b, off + i * 10 + j, none⟩) (hb.block b hlt (fun e => ha b off h1 (Option.some.inj e)))).trans (hc j hj)⟩
end Go.Proofs.Ytidoofdofdhjpaa
/- Form, Same, Leaf, Sub: walked. -/
namespace Go.Proofs.Ytidoofdofdhjpaa
open Go Go.RowKit
set_option linter.unusedVariables false
set_option linter.unusedSimpArgs false

def Txt (l : List Nd) : Prop := ∀ n ∈ l, n.text.length ≤ 281474976710656
/-- The form, as a bool. -/
def formB (l : List Nd) : Bool := decide (0 < l.length) && ((List.range l.length).all fun i => fmd l i) && decide (firstP l (l.length - 1) = 0)
theorem formB_iff (l : List Nd) : formB l = true ↔ Form l := by
  unfold formB Form fmd
  simp only [Bool.and_eq_true, decide_eq_true_iff, List.all_eq_true, List.mem_range]
  exact ⟨fun ⟨⟨a, b⟩, c⟩ => ⟨a, b, c⟩, fun ⟨a, b, c⟩ => ⟨⟨a, b⟩, c⟩⟩
theorem formB_not {l : List Nd} (h : ¬ Form l) : formB l = false := by
  cases hb : formB l with
  | false => rfl
  | true => exact absurd ((formB_iff l).1 hb) h
/-- A description's value, and its row. -/
def IsD (l : List Nd) (v : Value) (w : World) : Prop := ∃ A c, l.length ≤ c ∧ v = .agg #[.slice A l.length c] ∧ NRow w A l
theorem IsD.later (l : List Nd) (v : Value) (w w' : World) (h : IsD l v w) (hb : Below w.heap.size w w') : IsD l v w' := by
  obtain ⟨A, c, h1, h2, h3⟩ := h
  exact ⟨A, c, h1, h2, h3.later hb⟩
theorem OwnN.isD {w : World} {base : Nat} {s : Value} {l : List Nd} (h : OwnN w base s l) : IsD l (.agg #[s]) w := by
  obtain ⟨_, ⟨hv, hn⟩ | ⟨g, cap, cur, hv, hb, hg, hc, hm, hs, ht⟩⟩ := h
  · have : l = [] := List.length_eq_zero_iff.1 hn
    subst this
    exact ⟨none, 0, Nat.le_refl _, by rw [hv]; rfl, NRow.nil _ _⟩
  · obtain ⟨A, c, h1, h2⟩ := OwnN.row (w := w) (base := base) (v := s) (l := l) ⟨by assumption, .inr ⟨g, cap, cur, hv, hb, hg, hc, hm, hs, ht⟩⟩
    rw [hv] at h1
    cases h1
    exact ⟨_, cap, hc, by rw [hv], h2⟩
def DPost (w : World) (l : List Nd) (e : Ending) (w' : World) : Prop := ∃ s, e = .returned (.agg #[s]) ∧ OwnN w' w.heap.size s l ∧ Below w.heap.size w w'
theorem OwnN.setCell_ne {w : World} {base : Nat} {s : Value} {l : List Nd} (h : OwnN w base s l) {a : Addr} (ha : a.block < base) (v : Value) : OwnN (w.setCell a v) base s l := by
  obtain ⟨h0, ⟨hv, hn⟩ | ⟨g, cap, cur, hv, hb, hg, hr⟩⟩ := h
  · exact ⟨h0, .inl ⟨hv, hn⟩⟩
  · refine ⟨h0, .inr ⟨g, cap, cur, hv, hb, ?_, hr⟩⟩
    have : Blk w g cur 58 := hg
    exact this.setCell_ne (a := a) (by omega) v
theorem NRow.part {w : World} {b o : Nat} {l : List Nd} (h : NRow w (some ⟨b, o, none⟩) l) {f k : Nat} (hk : f + k ≤ l.length) : NRow w (some ⟨b, o + f * 10, none⟩) (seg l f k) := fun i hi => by
  rw [seg_length hk] at hi
  obtain ⟨b', o', h1, h2, h3⟩ := h (f + i) (by omega)
  cases h1
  refine ⟨b, o + f * 10, rfl, h2, fun j hj => ?_⟩
  have := h3 j hj
  rw [show (seg l f k).getD i nd0 = l.getD (f + i) nd0 from seg_at hi]
  rw [← this]; congr 2; omega
theorem wrap_in {x : Int} (h1 : -9223372036854775808 ≤ x) (h2 : x ≤ 9223372036854775807) : IntKind.i64.wrap x = x := IntWalk.i64_in _ (by omega)
theorem okN.mvOk {l : List Nd} {i : Nat} (h : okN l i (atN l i)) (hi : i < 1073741824) (ht : (atN l i).text.length ≤ 281474976710656) {d : Int} (h1 : -1073741824 ≤ d) (h2 : d ≤ 1073741824) : MvOk d (atN l i) := by
  have hle := firstP_le l (i - 1)
  refine ⟨ht, fun hp => ?_, fun hk => ?_⟩
  · cases h.cs rfl with
    | leaf hk hf => unfold leafK at hk; unfold partK at hp; omega
    | one hk hi ha => exact wrap_in (by omega) (by omega)
    | two hk hi hb ha => exact wrap_in (by omega) (by omega)
  · cases h.cs rfl with
    | leaf hk2 hf => unfold leafK at hk2; omega
    | one hk2 hi ha => omega
    | two hk hi hb ha => exact wrap_in (by omega) (by omega)
theorem txt_at {l : List Nd} (h : Txt l) (j : Nat) : (atN l j).text.length ≤ 281474976710656 := by
  unfold atN
  rw [List.getD_eq_getElem?_getD]
  cases hj : l[j]? with
  | none => simp [nd0]
  | some n => exact h n (List.mem_of_getElem? hj)
end Go.Proofs.Ytidoofdofdhjpaa
/- Descriptions out of tokens: the plain mathematics of the parser. -/
namespace Go.Proofs.Ytidoofdofdhjpaa
open Go
set_option linter.unusedVariables false
set_option linter.unusedSimpArgs false

/-- A token whose numbers may be any. -/
structure Tk where
  kind : Int
  at_ : Int := 0
  lo : Int := 0
  hi : Int := 0
  cls : BitVec 256 := 0#256
  text : List UInt8 := []
deriving DecidableEq
def tkEnd : Tk := { kind := 10 }
def tkAt (l : List Tk) (p : Nat) : Tk := l.getD p tkEnd
/-- What the parser holds. -/
structure PS where
  read : Nat := 0
  opn : List Int := []
  nodes : List Nd := []
  ats : List Int := []
  count : Nat := 0
inductive PR where
  | ok (k : Int) (s : PS)
  | bad (e : Int) (p : Int)
  | out
def PR.bind (r : PR) (f : Int → PS → PR) : PR := match r with
  | .ok k s => f k s
  | .bad e p => .bad e p
  | .out => .out
def PS.lay (s : PS) (n : Nd) (p : Int) : PS := if s.count < 4096 then { s with nodes := s.nodes ++ [n], ats := s.ats ++ [p], count := s.count + 1 } else { s with count := s.count + 1 }
def PS.next (s : PS) : PS := { s with read := s.read + 1 }
def begK (k : Int) : Bool := decide (k = 1) || decide (k = 2) || decide (k = 3) || decide (k = 8) || decide (k = 9)
/-- The fault that the token to be read is. -/
def faultP (l : List Tk) (s : PS) : PR := match (tkAt l s.read).kind, s.opn.getLast? with
  | 10, some p => .bad 6 p
  | _, _ => .bad 7 (tkAt l s.read).at_
inductive Md where
  | or | orL (a : Int) | row | rowL (a : Int) | post | postL (a : Int) | atom | group | inside
def layK (s : PS) (n : Nd) (p : Int) : PR := .ok (s.count : Int) (s.lay n p)
def run (l : List Tk) : Nat → Md → PS → PR
  | 0, _, _ => .out
  | n + 1, .or, s => (run l n .row s).bind fun a s => run l n (.orL a) s
  | n + 1, .orL a, s => if (tkAt l s.read).kind = 5 then (run l n .row s.next).bind fun b s => run l n (.orL (s.count : Int)) (s.lay { kind := 5, a := a, b := b } (-1)) else .ok a s
  | n + 1, .row, s => (run l n .post s).bind fun a s => run l n (.rowL a) s
  | n + 1, .rowL a, s => if begK (tkAt l s.read).kind = true then (run l n .post s).bind fun b s => run l n (.rowL (s.count : Int)) (s.lay { kind := 4, a := a, b := b } (-1)) else .ok a s
  | n + 1, .post, s => (run l n .atom s).bind fun a s => run l n (.postL a) s
  | n + 1, .postL a, s =>
    if (tkAt l s.read).kind = 6 then run l n (.postL (s.count : Int)) (s.lay { kind := 6, a := a } (tkAt l s.read).at_).next
    else if (tkAt l s.read).kind = 7 then run l n (.postL (s.count : Int)) (s.lay { kind := 7, a := a, lo := (tkAt l s.read).lo, hi := (tkAt l s.read).hi } (tkAt l s.read).at_).next
    else .ok a s
  | n + 1, .atom, s =>
    if (tkAt l s.read).kind = 1 then layK s.next { kind := 2, cls := (tkAt l s.read).cls } (-1)
    else if (tkAt l s.read).kind = 2 then layK s.next { kind := 3, text := (tkAt l s.read).text } (-1)
    else if (tkAt l s.read).kind = 3 then run l n .group s
    else if (tkAt l s.read).kind = 8 then (run l n .group s.next).bind fun g s => layK s { kind := 8, a := g } (-1)
    else if (tkAt l s.read).kind = 9 then (run l n .group s.next).bind fun g s => layK s { kind := 9, a := g } (-1)
    else faultP l s
  | n + 1, .group, s =>
    if (tkAt l s.read).kind = 3 then
      if 64 < s.opn.length + 1 then .bad 8 (tkAt l s.read).at_
      else (run l n .inside { s.next with opn := s.opn ++ [(tkAt l s.read).at_] }).bind fun g s => if (tkAt l s.read).kind = 4 then .ok g { s.next with opn := s.opn.dropLast } else faultP l s
    else faultP l s
  | n + 1, .inside, s => if (tkAt l s.read).kind = 4 then layK s { kind := 1 } (-1) else run l n .or s
end Go.Proofs.Ytidoofdofdhjpaa
/- Rows of tokens in memory, whose numbers may be any. -/
namespace Go.Proofs.Ytidoofdofdhjpaa
open Go Go.RowKit
set_option linter.unusedVariables false

def tkC (t : Tk) : Array Value := #[.int .i64 t.kind, .int .i64 t.at_, .int .u64 (wd t.cls 0), .int .u64 (wd t.cls 1), .int .u64 (wd t.cls 2), .int .u64 (wd t.cls 3), .string (bs t.text), .int .i64 t.lo, .int .i64 t.hi]
/-- A token that lex answers. -/
def Tok.tk (t : Tok) : Tk := { kind := (t.kind : Int), at_ := (t.at_ : Int), lo := (t.lo : Int), hi := (t.hi : Int), cls := t.cls, text := t.text }
def flatK : List Tk → List Value
  | [] => []
  | t :: l => (tkC t).toList ++ flatK l
end Go.Proofs.Ytidoofdofdhjpaa
