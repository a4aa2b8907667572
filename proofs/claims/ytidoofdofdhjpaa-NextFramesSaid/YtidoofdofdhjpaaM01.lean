/- Plain mathematics of classes: sets of 256 bytes as bit vectors, their words, how many bits a word has, its lowest bit. -/
import Derived.WalkKit
import Derived.ProofKit
namespace Go.Proofs.Ytidoofdofdhjpaa
open Go
theorem ofInt_nat (x : Nat) : BitVec.ofInt 64 (x : Int) = BitVec.ofNat 64 x := by simp
theorem wrap_nat {x : Nat} (h : x < 18446744073709551616) : IntKind.u64.wrap (x : Int) = x := by
 rw [IntKind.wrap_u64]; omega
theorem toNat_of {x : Nat} (h : x < 18446744073709551616) : (BitVec.ofNat 64 x).toNat = x := by
 simp only [BitVec.toNat_ofNat]; exact Nat.mod_eq_of_lt h
theorem bits_and_nat {x y : Nat} (hx : x < 18446744073709551616) (hy : y < 18446744073709551616) : bits .and .u64 x y = ((x &&& y : Nat) : Int) := by
 have h : (BitVec.ofNat 64 x &&& BitVec.ofNat 64 y).toNat = x &&& y := by rw [BitVec.toNat_and, toNat_of hx, toNat_of hy]
 have hlt : x &&& y < 18446744073709551616 := Nat.lt_of_le_of_lt Nat.and_le_left hx
 show IntKind.u64.wrap (((BitVec.ofInt 64 (x : Int) &&& BitVec.ofInt 64 (y : Int)).toNat : Nat) : Int) = _
 rw [ofInt_nat, ofInt_nat, h, wrap_nat hlt]
theorem bits_or_nat {x y : Nat} (hx : x < 18446744073709551616) (hy : y < 18446744073709551616) : bits .or .u64 x y = ((x ||| y : Nat) : Int) := by
 have h : (BitVec.ofNat 64 x ||| BitVec.ofNat 64 y).toNat = x ||| y := by rw [BitVec.toNat_or, toNat_of hx, toNat_of hy]
 have hlt : x ||| y < 18446744073709551616 := by
  rw [show (18446744073709551616 : Nat) = 2 ^ 64 from rfl] at *
  exact Nat.or_lt_two_pow hx hy
 show IntKind.u64.wrap (((BitVec.ofInt 64 (x : Int) ||| BitVec.ofInt 64 (y : Int)).toNat : Nat) : Int) = _
 rw [ofInt_nat, ofInt_nat, h, wrap_nat hlt]
def s1 (d : Nat) : Nat := (d / 2 &&& 85) + (d &&& 85)
def s2 (d : Nat) : Nat := (d / 4 &&& 51) + (d &&& 51)
def g2 (d : Nat) : Nat := s2 (s1 d)
def wd (s : BitVec 256) (i : Nat) : Nat := (s.extractLsb' (64 * i) 64).toNat
theorem wd_lt (s : BitVec 256) (i : Nat) : wd s i < 18446744073709551616 := (s.extractLsb' (64 * i) 64).isLt
theorem wd_bit (s : BitVec 256) (i j : Nat) : (wd s i).testBit j = (decide (j < 64) && s.getLsbD (64 * i + j)) := by
 unfold wd
 rw [BitVec.testBit_toNat, BitVec.getLsbD_extractLsb']
def cls (s : BitVec 256) : Value := .agg #[.int .u64 (wd s 0), .int .u64 (wd s 1), .int .u64 (wd s 2), .int .u64 (wd s 3)]
theorem wd_or (s t : BitVec 256) (i : Nat) : wd (s ||| t) i = wd s i ||| wd t i := by
 refine Nat.eq_of_testBit_eq fun j => ?_
 rw [Nat.testBit_or, wd_bit, wd_bit, wd_bit, BitVec.getLsbD_or]
 cases decide (j < 64) <;> simp
theorem ext_wd {s t : BitVec 256} (h0 : wd s 0 = wd t 0) (h1 : wd s 1 = wd t 1) (h2 : wd s 2 = wd t 2) (h3 : wd s 3 = wd t 3) : s = t := by
 refine BitVec.eq_of_getLsbD_eq fun n hn => ?_
 have key : ∀ i, wd s i = wd t i -> ∀ j, j < 64 -> s.getLsbD (64 * i + j) = t.getLsbD (64 * i + j) := by
  intro i h j hj
  have a := wd_bit s i j
  have b := wd_bit t i j
  rw [h] at a
  rw [a] at b
  simpa [hj] using b
 rcases (by omega : n < 64 \/ (64 <= n /\ n < 128) \/ (128 <= n /\ n < 192) \/ (192 <= n /\ n < 256)) with h | h | h | h
 ·have := key 0 h0 n h; rwa [show 64 * 0 + n = n by omega] at this
 ·have := key 1 h1 (n - 64) (by omega); rwa [show 64 * 1 + (n - 64) = n by omega] at this
 ·have := key 2 h2 (n - 128) (by omega); rwa [show 64 * 2 + (n - 128) = n by omega] at this
 ·have := key 3 h3 (n - 192) (by omega); rwa [show 64 * 3 + (n - 192) = n by omega] at this
theorem wd_ofNat (n i : Nat) (h : n < 115792089237316195423570985008687907853269984665640564039457584007913129639936) : wd (BitVec.ofNat 256 n) i = n / 2 ^ (64 * i) % 18446744073709551616 := by
 have e : (BitVec.ofNat 256 n).toNat = n := by rw [BitVec.toNat_ofNat]; exact Nat.mod_eq_of_lt h
 unfold wd
 rw [BitVec.extractLsb'_toNat, e, Nat.shiftRight_eq_div_pow]
theorem of_words (a0 a1 a2 a3 : Nat) (h0 : a0 < 18446744073709551616) (h1 : a1 < 18446744073709551616) (h2 : a2 < 18446744073709551616) (h3 : a3 < 18446744073709551616) :
 ∃ s : BitVec 256, wd s 0 = a0 /\ wd s 1 = a1 /\ wd s 2 = a2 /\ wd s 3 = a3 := by
 have hl : a0 + 18446744073709551616 * (a1 + 18446744073709551616 * (a2 + 18446744073709551616 * a3)) < 115792089237316195423570985008687907853269984665640564039457584007913129639936 := by omega
 refine ⟨BitVec.ofNat 256 (a0 + 18446744073709551616 * (a1 + 18446744073709551616 * (a2 + 18446744073709551616 * a3))), ?_, ?_, ?_, ?_⟩
 all_goals rw [wd_ofNat _ _ hl]
 ·rw [show 2 ^ (64 * 0) = 1 from rfl]; omega
 ·rw [show 2 ^ (64 * 1) = 18446744073709551616 from rfl]; omega
 ·rw [show 2 ^ (64 * 2) = 18446744073709551616 * 18446744073709551616 from rfl, <- Nat.div_div_eq_div_mul]; omega
 ·rw [show 2 ^ (64 * 3) = 18446744073709551616 * 18446744073709551616 * 18446744073709551616 from rfl, <- Nat.div_div_eq_div_mul, <- Nat.div_div_eq_div_mul]; omega
theorem has_bit (s : BitVec 256) (i r : Nat) (hr : r < 64) (x : Int) (hx : x = (wd s i : Int) / 2 ^ r) :
 (bits .and .u64 x 1 == 1) = s.getLsbD (64 * i + r) := by
 have hb := wd_bit s i r
 have hl := wd_lt s i
 rw [Nat.testBit_eq_decide_div_mod_eq] at hb
 have hd : wd s i / 2 ^ r < 18446744073709551616 := Nat.lt_of_le_of_lt (Nat.div_le_self _ _) hl
 have hx' : x = ((wd s i / 2 ^ r : Nat) : Int) := by rw [hx]; simp
 rw [hx', show (1 : Int) = ((1 : Nat) : Int) from rfl, bits_and_nat hd (by omega)]
 have : wd s i / 2 ^ r &&& 1 = wd s i / 2 ^ r % 2 := Nat.and_two_pow_sub_one_eq_mod _ 1
 rw [this]
 simp only [hr, decide_true, Bool.true_and] at hb
 rw [<- hb]
 have h2 : wd s i / 2 ^ r % 2 < 2 := Nat.mod_lt _ (by omega)
 generalize wd s i / 2 ^ r % 2 = z at *
 rcases (by omega : z = 0 \/ z = 1) with rfl | rfl <;> rfl
def one (c : Nat) : BitVec 256 := BitVec.twoPow 256 c
theorem one_bit (c n : Nat) (hn : n < 256) : (one c).getLsbD n = decide (n = c) := by
 unfold one
 rw [BitVec.getLsbD_twoPow]
 by_cases h : c = n <;> simp [h] <;> omega
theorem wd_one (c i : Nat) (hi : i < 4) : wd (one c) i = if c / 64 = i then 2 ^ (c % 64) else 0 := by
 refine Nat.eq_of_testBit_eq fun j => ?_
 rw [wd_bit]
 by_cases hj : j < 64
 ·rw [one_bit c _ (by omega)]
  split
  ·rename_i h
   rw [Nat.testBit_two_pow]
   simp only [hj, decide_true, Bool.true_and]
   rw [Bool.eq_iff_iff]; simp; omega
  ·rename_i h
   simp; omega
 ·split
  ·rw [Nat.testBit_two_pow]; simp [hj]; omega
  ·simp [hj]
def addL (s : BitVec 256) : List Nat -> BitVec 256
 | [] => s
 | c :: l => addL (s ||| one c) l
theorem addL_append (s : BitVec 256) (l m : List Nat) : addL s (l ++ m) = addL (addL s l) m := by
 induction l generalizing s with
 | nil => rfl
 | cons c l ih => exact ih _
theorem addL_bit (l : List Nat) (s : BitVec 256) (n : Nat) (hn : n < 256) : (addL s l).getLsbD n = (s.getLsbD n || decide (n ∈ l)) := by
 induction l generalizing s with
 | nil => simp [addL]
 | cons c l ih =>
  rw [addL, ih, BitVec.getLsbD_or, one_bit c n hn]
  by_cases h : n = c <;> simp [h]
def rowB (a b : Nat) : BitVec 256 := addL 0#256 ((List.range (b + 1 - a)).map (a + ·))
theorem rowB_bit (a b n : Nat) (hn : n < 256) : (rowB a b).getLsbD n = decide (a <= n /\ n <= b) := by
 unfold rowB
 rw [addL_bit _ _ _ hn]
 simp only [BitVec.getLsbD_zero, Bool.false_or]
 congr 1
 rw [eq_iff_iff]
 constructor
 ·intro h
  obtain ⟨k, hk, rfl⟩ := List.mem_map.1 h
  have := List.mem_range.1 hk
  omega
 ·intro ⟨h1, h2⟩
  exact List.mem_map.2 ⟨n - a, List.mem_range.2 (by omega), by omega⟩
end Go.Proofs.Ytidoofdofdhjpaa
