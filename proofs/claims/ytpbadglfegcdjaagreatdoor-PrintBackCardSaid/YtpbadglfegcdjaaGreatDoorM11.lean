/- A node's form: walked. -/
import Derived.Test.YtpbadglfegcdjaaGreatDoorM10
import Derived.Test.YtpbadglfegcdjaaGreatDoorM03
namespace Go.Proofs.YtpbadglfegcdjaaGreatDoor
open Go Go.RowKit
set_option linter.unusedVariables false
set_option linter.unusedSimpArgs false

theorem zcls : wd 0#256 0 = 0 ∧ wd 0#256 1 = 0 ∧ wd 0#256 2 = 0 ∧ wd 0#256 3 = 0 := by decide
theorem ndC_zero (k a b lo hi : Int) (t : List UInt8) : ndC ⟨k, a, b, lo, hi, 0#256, t⟩ = #[.int .i64 k, .int .i64 a, .int .i64 b, .int .i64 lo, .int .i64 hi, .int .u64 0, .int .u64 0, .int .u64 0, .int .u64 0, .string (bs t)] := by
  obtain ⟨z0, z1, z2, z3⟩ := zcls
  unfold ndC; simp only [z0, z1, z2, z3]; rfl
theorem bs_nil : bs [] = ⟨#[]⟩ := rfl
section
variable {l : List Nd} {i : Nat} {n : Nd} (hn : atN l i = n)
include hn
theorem fmd_differs (h : backN n ≠ n) : fmd l i = false := by unfold fmd; rw [hn, decide_eq_false_iff_not]; exact fun ho => h ho.1
theorem fmd_plain (h : backN n = n) (hk : n.kind = 1 ∨ n.kind = 2) : fmd l i = true := by
  unfold fmd; rw [hn, decide_eq_true_iff]; exact ⟨h, by rcases hk with h | h <;> simp [h]⟩
theorem fmd_text (h : backN n = n) (hk : n.kind = 3) : fmd l i = textOk n.text := by
  unfold fmd; rw [hn, Bool.eq_iff_iff, decide_eq_true_iff]
  constructor
  · rintro ⟨_, ho⟩
    rcases ho with ho | ho | ⟨_, ho⟩ | ⟨ho, _⟩ | ⟨ho, _⟩ | ⟨ho, _⟩
    · omega
    · omega
    · exact ho
    · omega
    · omega
    · omega
  · exact fun ht => ⟨h, .inr (.inr (.inl ⟨hk, ht⟩))⟩
theorem fmd_one (h : backN n = n) (hk : n.kind = 6 ∨ n.kind = 8 ∨ n.kind = 9) : fmd l i = decide (0 ≤ n.a ∧ n.a = (i : Int) - 1) := by
  unfold fmd; rw [hn, Bool.eq_iff_iff, decide_eq_true_iff, decide_eq_true_iff]
  constructor
  · rintro ⟨_, ho⟩
    rcases ho with ho | ho | ⟨ho, _⟩ | ⟨_, ho⟩ | ⟨ho, _⟩ | ⟨ho, _⟩
    · omega
    · omega
    · omega
    · exact ho
    · omega
    · omega
  · exact fun ht => ⟨h, .inr (.inr (.inr (.inl ⟨hk, ht⟩)))⟩
theorem fmd_rep (h : backN n = n) (hk : n.kind = 7) : fmd l i = decide ((0 ≤ n.a ∧ n.a = (i : Int) - 1) ∧ 0 ≤ n.lo ∧ n.lo ≤ n.hi ∧ n.hi ≤ 255) := by
  unfold fmd; rw [hn, Bool.eq_iff_iff, decide_eq_true_iff, decide_eq_true_iff]
  constructor
  · rintro ⟨_, ho⟩
    rcases ho with ho | ho | ⟨ho, _⟩ | ⟨ho, _⟩ | ⟨_, ho⟩ | ⟨ho, _⟩
    · omega
    · omega
    · omega
    · omega
    · exact ho
    · omega
  · exact fun ht => ⟨h, .inr (.inr (.inr (.inr (.inl ⟨hk, ht⟩))))⟩
theorem fmd_two (h : backN n = n) (hk : n.kind = 4 ∨ n.kind = 5) : fmd l i = decide ((0 ≤ n.b ∧ n.b = (i : Int) - 1) ∧ 0 ≤ n.a ∧ n.a = (firstP l n.b.toNat : Int) - 1) := by
  unfold fmd; rw [hn, Bool.eq_iff_iff, decide_eq_true_iff, decide_eq_true_iff]
  constructor
  · rintro ⟨_, ho⟩
    rcases ho with ho | ho | ⟨ho, _⟩ | ⟨ho, _⟩ | ⟨ho, _⟩ | ⟨_, ho⟩
    · omega
    · omega
    · omega
    · omega
    · omega
    · exact ho
  · exact fun ht => ⟨h, .inr (.inr (.inr (.inr (.inr ⟨hk, ht⟩))))⟩
theorem fmd_none (h1 : n.kind ≠ 1) (h2 : n.kind ≠ 2) (h3 : n.kind ≠ 3) (h4 : ¬ (4 ≤ n.kind ∧ n.kind ≤ 9)) : fmd l i = false := by
  unfold fmd; rw [hn, decide_eq_false_iff_not]; rintro ⟨_, ho⟩; omega
end
structure FmS (w0 : World) (A : Option Addr) (l : List Nd) (c : Nat) (w : World) : Prop where
  fst : FstS w0 A l c w
  u8 : U8T w
theorem FmS.later {w0 w w' : World} {A : Option Addr} {l : List Nd} {c : Nat} (h : FmS w0 A l c w) (hb : Below w.heap.size w w') : FmS w0 A l c w' := ⟨h.fst.later hb, h.u8.later hb⟩
structure FmB (w0 : World) (A : Option Addr) (l : List Nd) (c bx : Nat) (vs : Array Value) (t : TypeId) (w : World) : Prop where
  s : FmS w0 A l c w
  box : Blk w bx vs t
theorem FmB.later {w0 w w' : World} {A : Option Addr} {l : List Nd} {c bx : Nat} {vs : Array Value} {t : TypeId} (h : FmB w0 A l c bx vs t w) (hb : Below w.heap.size w w') : FmB w0 A l c bx vs t w' := ⟨h.s.later hb, h.box.later hb⟩
end Go.Proofs.YtpbadglfegcdjaaGreatDoor
