/- The document's one token: what its walks need. -/
import Derived.Test.YtacaloddhklkiaaDoorM34
import Derived.Test.YtacaloddhklkiaaDoorM35
import Derived.Test.YtacaloddhklkiaaDoorM14
import Derived.Test.YtacaloddhklkiaaDoorM07
namespace Go.Proofs.YtacaloddhklkiaaDoor
open Go Go.RowKit
set_option linter.unusedVariables false
set_option linter.unusedSimpArgs false

def roneO (o : One) (i : Nat) : Value := match o with
  | .tok t n => .tuple #[.agg (tokC { t with at_ := i }), .int .i64 ((i + n + 1 : Nat) : Int), .int .i64 0]
  | .bad e => .tuple #[.agg #[.int .i64 0, .int .i64 (i : Int), .int .u64 0, .int .u64 0, .int .u64 0, .int .u64 0, .string ⟨#[]⟩, .int .i64 0, .int .i64 0], .int .i64 0, .int .i64 (e : Int)]
def roneV (l : List UInt8) (i : Nat) : Value := roneO (oneV (l.getD i 0) (l.drop (i + 1))) i
structure RoS (w0 : World) (us : Array Value) (w : World) : Prop where
  bel : Below w0.heap.size w0 w
  res : Blk w w0.heap.size #[.int .i64 0, .int .i64 0, .int .u64 0, .int .u64 0, .int .u64 0, .int .u64 0, .string ⟨#[]⟩, .int .i64 0, .int .i64 0] 38
  box : Blk w (w0.heap.size + 1) us 38
theorem RoS.later {w0 w w' : World} {us : Array Value} (h : RoS w0 us w) (hb : Below w.heap.size w w') : RoS w0 us w' := ⟨h.bel.trans (hb.mono h.bel.size), h.res.later hb, h.box.later hb⟩
theorem RoS.set {w0 w : World} {us : Array Value} (h : RoS w0 us w) (o : Nat) (v : Value) : RoS w0 (us.setIfInBounds o v) (w.setCell ⟨w0.heap.size + 1, o, none⟩ v) :=
  ⟨h.bel.setCell (p := ⟨w0.heap.size + 1, o, none⟩) (Nat.le_succ _) v, h.res.setCell_ne (a := ⟨w0.heap.size + 1, o, none⟩) (Nat.succ_ne_self _) v, h.box.setCell o v⟩
theorem RoS.new (w : World) (us : Array Value) : RoS w us ((w.alloc (.cells #[.int .i64 0, .int .i64 0, .int .u64 0, .int .u64 0, .int .u64 0, .int .u64 0, .string ⟨#[]⟩, .int .i64 0, .int .i64 0] 38)).alloc (.cells us 38)) :=
  ⟨((Below.refl _ w).alloc (Nat.le_refl _) _).alloc (by simp) _, (Blk.new w _ _).alloc _, Blk.new' (by simp) _ _⟩
theorem one_short {c : UInt8} (h : 0 < shortI c) (rest : List UInt8) : oneV c rest = .tok { kind := shortI c, at_ := 0 } 0 ∧ c ≠ 46 := by
  unfold shortI at h ⊢
  unfold oneV
  by_cases h0 : c = 40
  · subst h0; exact ⟨rfl, by decide⟩
  by_cases h1 : c = 41
  · subst h1; exact ⟨rfl, by decide⟩
  by_cases h2 : c = 124
  · subst h2; exact ⟨rfl, by decide⟩
  by_cases h3 : c = 42
  · subst h3; exact ⟨rfl, by decide⟩
  by_cases h4 : c = 98
  · subst h4; exact ⟨rfl, by decide⟩
  by_cases h5 : c = 119
  · subst h5; exact ⟨rfl, by decide⟩
  simp [h0, h1, h2, h3, h4, h5] at h
theorem one_not {c : UInt8} (h : shortI c = 0) : c ≠ 40 ∧ c ≠ 41 ∧ c ≠ 124 ∧ c ≠ 42 ∧ c ≠ 98 ∧ c ≠ 119 := by
  refine ⟨?_, ?_, ?_, ?_, ?_, ?_⟩ <;> (rintro rfl; revert h; decide)
theorem tokC_lit (k i lo hi : Nat) (S : BitVec 256) (x : List UInt8) : tokC { kind := k, at_ := i, lo := lo, hi := hi, cls := S, text := x } = #[.int .i64 (k : Int), .int .i64 (i : Int), .int .u64 (wd S 0), .int .u64 (wd S 1), .int .u64 (wd S 2), .int .u64 (wd S 3), .string (bs x), .int .i64 (lo : Int), .int .i64 (hi : Int)] := rfl
theorem wd_zeros : wd 0#256 0 = 0 ∧ wd 0#256 1 = 0 ∧ wd 0#256 2 = 0 ∧ wd 0#256 3 = 0 := by decide
theorem tokC_plain (k i lo hi : Nat) : tokC { kind := k, at_ := i, lo := lo, hi := hi } = #[.int .i64 (k : Int), .int .i64 (i : Int), .int .u64 0, .int .u64 0, .int .u64 0, .int .u64 0, .string ⟨#[]⟩, .int .i64 (lo : Int), .int .i64 (hi : Int)] := by
  unfold tokC
  simp only [wd_zeros.1, wd_zeros.2.1, wd_zeros.2.2.1, wd_zeros.2.2.2]; rfl
theorem end_some {l : List UInt8} {i : Nat} {c : UInt8} {a b : List UInt8} (h : cutAt c (l.drop (i + 1)) = some (a, b)) : endI l i c = ((i + 1 + a.length : Nat) : Int) ∧ i + 1 + a.length < l.length ∧ (l.drop (i + 1)).take a.length = a ∧ (l.take (i + 1 + a.length)).drop (i + 1) = a := by
  have e := (cutAt_some h).1
  have hl := congrArg List.length e
  rw [List.length_drop, List.length_append, List.length_cons] at hl
  have h3 : (l.drop (i + 1)).take a.length = a := by rw [e, List.take_append_of_le_length (Nat.le_refl _), List.take_length]
  refine ⟨by unfold endI; rw [h], by omega, h3, ?_⟩
  rw [List.drop_take, show i + 1 + a.length - (i + 1) = a.length by omega]; exact h3
theorem end_none {l : List UInt8} {i : Nat} {c : UInt8} (h : cutAt c (l.drop (i + 1)) = none) : endI l i c = -1 := by unfold endI; rw [h]
def badO (i e : Nat) : Value := .tuple #[.agg #[.int .i64 0, .int .i64 (i : Int), .int .u64 0, .int .u64 0, .int .u64 0, .int .u64 0, .string ⟨#[]⟩, .int .i64 0, .int .i64 0], .int .i64 0, .int .i64 (e : Int)]
theorem one60 {c : UInt8} (h : c = 60) (rest : List UInt8) : oneV c rest = closed 62 2 rest fun a => match classV a with
    | none => .bad 2
    | some s => .tok { kind := 1, at_ := 0, cls := s } (a.length + 1) := by subst h; rfl
theorem one34 {c : UInt8} (h : c = 34) (rest : List UInt8) : oneV c rest = closed 34 3 rest fun a => match textV a with
    | none => .bad 3
    | some t => .tok { kind := 2, at_ := 0, text := t } (a.length + 1) := by subst h; rfl
theorem one123 {c : UInt8} (h : c = 123) (rest : List UInt8) : oneV c rest = closed 125 4 rest fun a => match repV a with
    | none => .bad 4
    | some (x, y) => if 255 < y ∨ y < x then .bad 5 else .tok { kind := 7, at_ := 0, lo := x, hi := y } (a.length + 1) := by subst h; rfl
theorem one46 {c : UInt8} (h : c = 46) (rest : List UInt8) : oneV c rest = .tok { kind := 1, at_ := 0, cls := rowB 0 255 } 0 := by subst h; rfl
theorem one_else {c : UInt8} (h : shortI c = 0) (h1 : c ≠ 46) (h2 : c ≠ 60) (h3 : c ≠ 34) (h4 : c ≠ 123) (rest : List UInt8) : oneV c rest = .bad 1 := by
  obtain ⟨n1, n2, n3, n4, n5, n6⟩ := one_not h
  unfold oneV
  simp [h1, h2, h3, h4, n1, n2, n3, n4, n5, n6]
end Go.Proofs.YtacaloddhklkiaaDoor
