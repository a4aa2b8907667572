/- Plain mathematics of classes: sets of 256 bytes as bit vectors, their words, how many bits a word has, its lowest bit. -/
import Derived.WalkKit
import Derived.ProofKit
namespace Go.Proofs.YtcgjmnhmhiddkaaGreatDoor
open Go
def cnt (p : Nat → Bool) : Nat → Nat
  | 0 => 0
  | n + 1 => cnt p n + if p n then 1 else 0
theorem ofInt_nat (x : Nat) : BitVec.ofInt 64 (x : Int) = BitVec.ofNat 64 x := by simp
theorem wrap_nat {x : Nat} (h : x < 18446744073709551616) : IntKind.u64.wrap (x : Int) = x := by
  rw [IntKind.wrap_u64]; omega
theorem toNat_of {x : Nat} (h : x < 18446744073709551616) : (BitVec.ofNat 64 x).toNat = x := by
  simp only [BitVec.toNat_ofNat]; exact Nat.mod_eq_of_lt h
theorem bits_or_nat {x y : Nat} (hx : x < 18446744073709551616) (hy : y < 18446744073709551616) : bits .or .u64 x y = ((x ||| y : Nat) : Int) := by
  have h : (BitVec.ofNat 64 x ||| BitVec.ofNat 64 y).toNat = x ||| y := by rw [BitVec.toNat_or, toNat_of hx, toNat_of hy]
  have hlt : x ||| y < 18446744073709551616 := by
    rw [show (18446744073709551616 : Nat) = 2 ^ 64 from rfl] at *
    exact Nat.or_lt_two_pow hx hy
  show IntKind.u64.wrap (((BitVec.ofInt 64 (x : Int) ||| BitVec.ofInt 64 (y : Int)).toNat : Nat) : Int) = _
  rw [ofInt_nat, ofInt_nat, h, wrap_nat hlt]
theorem bits_xor_nat {x y : Nat} (hx : x < 18446744073709551616) (hy : y < 18446744073709551616) : bits .xor .u64 x y = ((x ^^^ y : Nat) : Int) := by
  have h : (BitVec.ofNat 64 x ^^^ BitVec.ofNat 64 y).toNat = x ^^^ y := by rw [BitVec.toNat_xor, toNat_of hx, toNat_of hy]
  have hlt : x ^^^ y < 18446744073709551616 := by
    rw [show (18446744073709551616 : Nat) = 2 ^ 64 from rfl] at *
    exact Nat.xor_lt_two_pow hx hy
  show IntKind.u64.wrap (((BitVec.ofInt 64 (x : Int) ^^^ BitVec.ofInt 64 (y : Int)).toNat : Nat) : Int) = _
  rw [ofInt_nat, ofInt_nat, h, wrap_nat hlt]
def rep (b : Nat) : Nat → Nat
  | 0 => 0
  | n + 1 => b + 256 * rep b n
def s1 (d : Nat) : Nat := (d / 2 &&& 85) + (d &&& 85)
def s2 (d : Nat) : Nat := (d / 4 &&& 51) + (d &&& 51)
def g2 (d : Nat) : Nat := s2 (s1 d)
def wd (s : BitVec 256) (i : Nat) : Nat := (s.extractLsb' (64 * i) 64).toNat
theorem wd_lt (s : BitVec 256) (i : Nat) : wd s i < 18446744073709551616 := (s.extractLsb' (64 * i) 64).isLt
theorem wd_bit (s : BitVec 256) (i j : Nat) : (wd s i).testBit j = (decide (j < 64) && s.getLsbD (64 * i + j)) := by
  unfold wd
  rw [BitVec.testBit_toNat, BitVec.getLsbD_extractLsb']
def cls (s : BitVec 256) : Value := .agg #[.int .u64 (wd s 0), .int .u64 (wd s 1), .int .u64 (wd s 2), .int .u64 (wd s 3)]
theorem wd_or (s t : BitVec 256) (i : Nat) : wd (s ||| t) i = wd s i ||| wd t i := by
  refine Nat.eq_of_testBit_eq fun j => ?_
  rw [Nat.testBit_or, wd_bit, wd_bit, wd_bit, BitVec.getLsbD_or]
  cases decide (j < 64) <;> simp
theorem wd_not (s : BitVec 256) (i : Nat) (hi : i < 4) : wd (~~~s) i = 18446744073709551615 ^^^ wd s i := by
  refine Nat.eq_of_testBit_eq fun j => ?_
  rw [Nat.testBit_xor, wd_bit, wd_bit, BitVec.getLsbD_not, show (18446744073709551615 : Nat) = 2 ^ 64 - 1 from rfl, Nat.testBit_two_pow_sub_one]
  by_cases hj : j < 64
  · have : 64 * i + j < 256 := by omega
    simp [hj, this]
  · simp [hj]
theorem ext_wd {s t : BitVec 256} (h0 : wd s 0 = wd t 0) (h1 : wd s 1 = wd t 1) (h2 : wd s 2 = wd t 2) (h3 : wd s 3 = wd t 3) : s = t := by
  refine BitVec.eq_of_getLsbD_eq fun n hn => ?_
  have key : ∀ i, wd s i = wd t i → ∀ j, j < 64 → s.getLsbD (64 * i + j) = t.getLsbD (64 * i + j) := by
    intro i h j hj
    have a := wd_bit s i j
    have b := wd_bit t i j
    rw [h] at a
    rw [a] at b
    simpa [hj] using b
  rcases (by omega : n < 64 ∨ (64 ≤ n ∧ n < 128) ∨ (128 ≤ n ∧ n < 192) ∨ (192 ≤ n ∧ n < 256)) with h | h | h | h
  · have := key 0 h0 n h; rwa [show 64 * 0 + n = n by omega] at this
  · have := key 1 h1 (n - 64) (by omega); rwa [show 64 * 1 + (n - 64) = n by omega] at this
  · have := key 2 h2 (n - 128) (by omega); rwa [show 64 * 2 + (n - 128) = n by omega] at this
  · have := key 3 h3 (n - 192) (by omega); rwa [show 64 * 3 + (n - 192) = n by omega] at this
def one (c : Nat) : BitVec 256 := BitVec.twoPow 256 c
theorem one_bit (c n : Nat) (hn : n < 256) : (one c).getLsbD n = decide (n = c) := by
  unfold one
  rw [BitVec.getLsbD_twoPow]
  by_cases h : c = n <;> simp [h] <;> omega
theorem wd_one (c i : Nat) (hi : i < 4) : wd (one c) i = if c / 64 = i then 2 ^ (c % 64) else 0 := by
  refine Nat.eq_of_testBit_eq fun j => ?_
  rw [wd_bit]
  by_cases hj : j < 64
  · rw [one_bit c _ (by omega)]
    split
    · rename_i h
      rw [Nat.testBit_two_pow]
      simp only [hj, decide_true, Bool.true_and]
      rw [Bool.eq_iff_iff]; simp; omega
    · rename_i h
      simp; omega
  · split
    · rw [Nat.testBit_two_pow]; simp [hj]; omega
    · simp [hj]
def addL (s : BitVec 256) : List Nat → BitVec 256
  | [] => s
  | c :: l => addL (s ||| one c) l
theorem addL_append (s : BitVec 256) (l m : List Nat) : addL s (l ++ m) = addL (addL s l) m := by
  induction l generalizing s with
  | nil => rfl
  | cons c l ih => exact ih _
theorem addL_bit (l : List Nat) (s : BitVec 256) (n : Nat) (hn : n < 256) : (addL s l).getLsbD n = (s.getLsbD n || decide (n ∈ l)) := by
  induction l generalizing s with
  | nil => simp [addL]
  | cons c l ih =>
    rw [addL, ih, BitVec.getLsbD_or, one_bit c n hn]
    by_cases h : n = c <;> simp [h]
def rowB (a b : Nat) : BitVec 256 := addL 0#256 ((List.range (b + 1 - a)).map (a + ·))
theorem rowB_bit (a b n : Nat) (hn : n < 256) : (rowB a b).getLsbD n = decide (a ≤ n ∧ n ≤ b) := by
  unfold rowB
  rw [addL_bit _ _ _ hn]
  simp only [BitVec.getLsbD_zero, Bool.false_or]
  congr 1
  rw [eq_iff_iff]
  constructor
  · intro h
    obtain ⟨k, hk, rfl⟩ := List.mem_map.1 h
    have := List.mem_range.1 hk
    omega
  · intro ⟨h1, h2⟩
    exact List.mem_map.2 ⟨n - a, List.mem_range.2 (by omega), by omega⟩
end Go.Proofs.YtcgjmnhmhiddkaaGreatDoor
