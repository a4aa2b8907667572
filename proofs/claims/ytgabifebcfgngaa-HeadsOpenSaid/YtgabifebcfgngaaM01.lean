/- Plain mathematics of classes: sets of 256 bytes as bit vectors, their words, how many bits a word has, its lowest bit. -/
import Derived.WalkKit
import Derived.ProofKit
namespace Go.Proofs.Ytgabifebcfgngaa
open Go

/-! ### counting -/
def cnt (p : Nat → Bool) : Nat → Nat
  | 0 => 0
  | n + 1 => cnt p n + if p n then 1 else 0

/-! ### bits of u64 as numbers -/
/-! ### the number of bits of a word, as math/bits reckons it -/
def s1 (d : Nat) : Nat := (d / 2 &&& 85) + (d &&& 85)
def s2 (d : Nat) : Nat := (d / 4 &&& 51) + (d &&& 51)
def g2 (d : Nat) : Nat := s2 (s1 d)
/-- How many of the 64 bits of x are set. -/
def pop (x : Nat) : Nat := cnt (fun i => x.testBit i) 64

/-! ### the words of a set of bytes -/
def wd (s : BitVec 256) (i : Nat) : Nat := (s.extractLsb' (64 * i) 64).toNat
theorem wd_bit (s : BitVec 256) (i j : Nat) : (wd s i).testBit j = (decide (j < 64) && s.getLsbD (64 * i + j)) := by
  unfold wd
  rw [BitVec.testBit_toNat, BitVec.getLsbD_extractLsb']
def cls (s : BitVec 256) : Value := .agg #[.int .u64 (wd s 0), .int .u64 (wd s 1), .int .u64 (wd s 2), .int .u64 (wd s 3)]

theorem ext_wd {s t : BitVec 256} (h0 : wd s 0 = wd t 0) (h1 : wd s 1 = wd t 1) (h2 : wd s 2 = wd t 2) (h3 : wd s 3 = wd t 3) : s = t := by
  refine BitVec.eq_of_getLsbD_eq fun n hn => ?_
  have key : ∀ i, wd s i = wd t i → ∀ j, j < 64 → s.getLsbD (64 * i + j) = t.getLsbD (64 * i + j) := by
    intro i h j hj
    have a := wd_bit s i j
    have b := wd_bit t i j
    rw [h] at a
    rw [a] at b
    simpa [hj] using b
  rcases (by omega : n < 64 ∨ (64 ≤ n ∧ n < 128) ∨ (128 ≤ n ∧ n < 192) ∨ (192 ≤ n ∧ n < 256)) with h | h | h | h
  · have := key 0 h0 n h; rwa [show 64 * 0 + n = n by omega] at this
  · have := key 1 h1 (n - 64) (by omega); rwa [show 64 * 1 + (n - 64) = n by omega] at this
  · have := key 2 h2 (n - 128) (by omega); rwa [show 64 * 2 + (n - 128) = n by omega] at this
  · have := key 3 h3 (n - 192) (by omega); rwa [show 64 * 3 + (n - 192) = n by omega] at this

theorem wd_ofNat (n i : Nat) (h : n < 115792089237316195423570985008687907853269984665640564039457584007913129639936) : wd (BitVec.ofNat 256 n) i = n / 2 ^ (64 * i) % 18446744073709551616 := by
  have e : (BitVec.ofNat 256 n).toNat = n := by rw [BitVec.toNat_ofNat]; exact Nat.mod_eq_of_lt h
  unfold wd
  rw [BitVec.extractLsb'_toNat, e, Nat.shiftRight_eq_div_pow]
/-- Whatever four words are those of one set. -/
theorem of_words (a0 a1 a2 a3 : Nat) (h0 : a0 < 18446744073709551616) (h1 : a1 < 18446744073709551616) (h2 : a2 < 18446744073709551616) (h3 : a3 < 18446744073709551616) :
    ∃ s : BitVec 256, wd s 0 = a0 ∧ wd s 1 = a1 ∧ wd s 2 = a2 ∧ wd s 3 = a3 := by
  have hl : a0 + 18446744073709551616 * (a1 + 18446744073709551616 * (a2 + 18446744073709551616 * a3)) < 115792089237316195423570985008687907853269984665640564039457584007913129639936 := by omega
  refine ⟨BitVec.ofNat 256 (a0 + 18446744073709551616 * (a1 + 18446744073709551616 * (a2 + 18446744073709551616 * a3))), ?_, ?_, ?_, ?_⟩
  all_goals rw [wd_ofNat _ _ hl]
  · rw [show 2 ^ (64 * 0) = 1 from rfl]; omega
  · rw [show 2 ^ (64 * 1) = 18446744073709551616 from rfl]; omega
  · rw [show 2 ^ (64 * 2) = 18446744073709551616 * 18446744073709551616 from rfl, ← Nat.div_div_eq_div_mul]; omega
  · rw [show 2 ^ (64 * 3) = 18446744073709551616 * 18446744073709551616 * 18446744073709551616 from rfl, ← Nat.div_div_eq_div_mul, ← Nat.div_div_eq_div_mul]; omega

/-- The set of one byte. -/
def one (c : Nat) : BitVec 256 := BitVec.twoPow 256 c
/-! ### what counts say -/
end Go.Proofs.Ytgabifebcfgngaa
