/- Plain mathematics of classes: sets of 256 bytes as bit vectors, their words, how many bits a word has, its lowest bit. -/
import Derived.WalkKit
import Derived.ProofKit
namespace Go.Proofs.YtcgjmnhmhiddkaaGreatDoor
open Go

/-! ### counting -/
def cnt (p : Nat → Bool) : Nat → Nat
  | 0 => 0
  | n + 1 => cnt p n + if p n then 1 else 0

theorem cnt_le (p : Nat → Bool) : ∀ n, cnt p n ≤ n
  | 0 => Nat.le_refl _
  | n + 1 => by have := cnt_le p n; unfold cnt; split <;> omega

theorem cnt_congr {p q : Nat → Bool} : ∀ {n}, (∀ i, i < n → p i = q i) → cnt p n = cnt q n
  | 0, _ => rfl
  | n + 1, h => by
    unfold cnt
    rw [cnt_congr (fun i hi => h i (by omega)), h n (by omega)]

theorem cnt_add (p : Nat → Bool) (m : Nat) : ∀ n, cnt p (m + n) = cnt p m + cnt (fun i => p (m + i)) n
  | 0 => rfl
  | n + 1 => by
    show cnt p (m + n) + (if p (m + n) then 1 else 0) = _
    rw [cnt_add p m n]
    show _ = cnt p m + (cnt (fun i => p (m + i)) n + if p (m + n) then 1 else 0)
    omega

/-! ### bits of u64 as numbers -/
theorem ofInt_nat (x : Nat) : BitVec.ofInt 64 (x : Int) = BitVec.ofNat 64 x := by simp

theorem wrap_nat {x : Nat} (h : x < 18446744073709551616) : IntKind.u64.wrap (x : Int) = x := by
  rw [IntKind.wrap_u64]; omega

theorem toNat_of {x : Nat} (h : x < 18446744073709551616) : (BitVec.ofNat 64 x).toNat = x := by
  simp only [BitVec.toNat_ofNat]; exact Nat.mod_eq_of_lt h

theorem bits_and_nat {x y : Nat} (hx : x < 18446744073709551616) (hy : y < 18446744073709551616) : bits .and .u64 x y = ((x &&& y : Nat) : Int) := by
  have h : (BitVec.ofNat 64 x &&& BitVec.ofNat 64 y).toNat = x &&& y := by rw [BitVec.toNat_and, toNat_of hx, toNat_of hy]
  have hlt : x &&& y < 18446744073709551616 := Nat.lt_of_le_of_lt Nat.and_le_left hx
  show IntKind.u64.wrap (((BitVec.ofInt 64 (x : Int) &&& BitVec.ofInt 64 (y : Int)).toNat : Nat) : Int) = _
  rw [ofInt_nat, ofInt_nat, h, wrap_nat hlt]

theorem bits_or_nat {x y : Nat} (hx : x < 18446744073709551616) (hy : y < 18446744073709551616) : bits .or .u64 x y = ((x ||| y : Nat) : Int) := by
  have h : (BitVec.ofNat 64 x ||| BitVec.ofNat 64 y).toNat = x ||| y := by rw [BitVec.toNat_or, toNat_of hx, toNat_of hy]
  have hlt : x ||| y < 18446744073709551616 := by
    rw [show (18446744073709551616 : Nat) = 2 ^ 64 from rfl] at *
    exact Nat.or_lt_two_pow hx hy
  show IntKind.u64.wrap (((BitVec.ofInt 64 (x : Int) ||| BitVec.ofInt 64 (y : Int)).toNat : Nat) : Int) = _
  rw [ofInt_nat, ofInt_nat, h, wrap_nat hlt]

theorem bits_xor_nat {x y : Nat} (hx : x < 18446744073709551616) (hy : y < 18446744073709551616) : bits .xor .u64 x y = ((x ^^^ y : Nat) : Int) := by
  have h : (BitVec.ofNat 64 x ^^^ BitVec.ofNat 64 y).toNat = x ^^^ y := by rw [BitVec.toNat_xor, toNat_of hx, toNat_of hy]
  have hlt : x ^^^ y < 18446744073709551616 := by
    rw [show (18446744073709551616 : Nat) = 2 ^ 64 from rfl] at *
    exact Nat.xor_lt_two_pow hx hy
  show IntKind.u64.wrap (((BitVec.ofInt 64 (x : Int) ^^^ BitVec.ofInt 64 (y : Int)).toNat : Nat) : Int) = _
  rw [ofInt_nat, ofInt_nat, h, wrap_nat hlt]

/-! ### the number of bits of a word, as math/bits reckons it -/
def rep (b : Nat) : Nat → Nat
  | 0 => 0
  | n + 1 => b + 256 * rep b n
def mapd (f : Nat → Nat) : Nat → Nat → Nat
  | 0, _ => 0
  | n + 1, x => f (x % 256) + 256 * mapd f n (x / 256)

theorem and_split (x y : Nat) : x &&& y = (x % 256 &&& y % 256) + 256 * (x / 256 &&& y / 256) := by
  have h1 : (x &&& y) % 2 ^ 8 = x % 2 ^ 8 &&& y % 2 ^ 8 := Nat.and_mod_two_pow
  have h2 : (x &&& y) / 2 ^ 8 = x / 2 ^ 8 &&& y / 2 ^ 8 := Nat.and_div_two_pow
  have h3 := Nat.mod_add_div (x &&& y) (2 ^ 8)
  rw [h1, h2] at h3
  exact h3.symm

def s1 (d : Nat) : Nat := (d / 2 &&& 85) + (d &&& 85)
def s2 (d : Nat) : Nat := (d / 4 &&& 51) + (d &&& 51)
def p8 (d : Nat) : Nat := cnt (fun i => d.testBit i) 8

theorem and_rep (b : Nat) (hb : b < 256) (n x : Nat) : x &&& rep b (n + 1) = (x % 256 &&& b) + 256 * (x / 256 &&& rep b n) := by
  rw [and_split x (rep b (n + 1))]
  have h1 : rep b (n + 1) % 256 = b := by unfold rep; omega
  have h2 : rep b (n + 1) / 256 = rep b n := by rw [rep]; omega
  rw [h1, h2]

theorem low1 : ∀ d, d < 256 → ∀ e, e < 2 → ((d / 2 + 128 * e) &&& 85) = (d / 2 &&& 85) := by decide +kernel
theorem low2 : ∀ d, d < 256 → ∀ e, e < 4 → ((d / 4 + 64 * e) &&& 51) = (d / 4 &&& 51) := by decide +kernel

theorem stepA : ∀ n x, (x / 2 &&& rep 85 n) + (x &&& rep 85 n) = mapd s1 n x
  | 0, x => by simp [rep, mapd]
  | n + 1, x => by
    rw [and_rep 85 (by omega), and_rep 85 (by omega)]
    have e1 : x / 2 % 256 = x % 256 / 2 + 128 * (x / 256 % 2) := by omega
    have e2 : x / 2 / 256 = x / 256 / 2 := by omega
    rw [e1, e2, low1 _ (by omega) _ (by omega)]
    have ih := stepA n (x / 256)
    rw [mapd, ← ih, s1]; omega

theorem stepB : ∀ n x, (x / 4 &&& rep 51 n) + (x &&& rep 51 n) = mapd s2 n x
  | 0, x => by simp [rep, mapd]
  | n + 1, x => by
    rw [and_rep 51 (by omega), and_rep 51 (by omega)]
    have e1 : x / 4 % 256 = x % 256 / 4 + 64 * (x / 256 % 4) := by omega
    have e2 : x / 4 / 256 = x / 256 / 4 := by omega
    rw [e1, e2, low2 _ (by omega) _ (by omega)]
    have ih := stepB n (x / 256)
    rw [mapd, ← ih, s2]; omega

theorem s1_lt : ∀ d, d < 256 → s1 d < 256 := by decide +kernel
theorem s2s1 : ∀ d, d < 256 → s2 (s1 d) % 16 ≤ 4 ∧ s2 (s1 d) / 16 ≤ 4 ∧ (s2 (s1 d) / 16 + s2 (s1 d)) % 16 = p8 d ∧ p8 d ≤ 8 := by decide +kernel

theorem mapd_comp (f g : Nat → Nat) (hg : ∀ d, d < 256 → g d < 256) : ∀ n x, mapd f n (mapd g n x) = mapd (fun d => f (g d)) n x
  | 0, _ => rfl
  | n + 1, x => by
    have h := hg (x % 256) (by omega)
    have e1 : mapd g (n + 1) x % 256 = g (x % 256) := by rw [mapd]; omega
    have e2 : mapd g (n + 1) x / 256 = mapd g n (x / 256) := by rw [mapd]; omega
    rw [mapd, e1, e2, mapd_comp f g hg n]; rfl

def g2 (d : Nat) : Nat := s2 (s1 d)
theorem mapd_mod (n x : Nat) : mapd g2 n x % 16 ≤ 4 := by
  cases n with
  | zero => simp [mapd]
  | succ n =>
    have h := (s2s1 (x % 256) (by omega)).1
    have h' : g2 (x % 256) % 16 ≤ 4 := h
    rw [mapd]; omega

theorem and15 (x : Nat) : x &&& 15 = x % 16 := Nat.and_two_pow_sub_one_eq_mod x 4
theorem and127 (x : Nat) : x &&& 127 = x % 128 := Nat.and_two_pow_sub_one_eq_mod x 7

theorem stepC : ∀ n x, (mapd g2 n x / 16 + mapd g2 n x) &&& rep 15 n = mapd p8 n x
  | 0, x => by simp [rep, mapd]
  | n + 1, x => by
    obtain ⟨h1, h2, h3, h4⟩ := s2s1 (x % 256) (by omega)
    have g1 : g2 (x % 256) % 16 ≤ 4 := h1
    have g3 : g2 (x % 256) / 16 ≤ 4 := h2
    have g4 : (g2 (x % 256) / 16 + g2 (x % 256)) % 16 = p8 (x % 256) := h3
    have hm := mapd_mod n (x / 256)
    have ih := stepC n (x / 256)
    rw [and_rep 15 (by omega)]
    rw [show mapd g2 (n + 1) x = g2 (x % 256) + 256 * mapd g2 n (x / 256) from rfl]
    generalize mapd g2 n (x / 256) = Y at *
    generalize g2 (x % 256) = e at *
    have e1 : ((e + 256 * Y) / 16 + (e + 256 * Y)) % 256 = e / 16 + 16 * (Y % 16) + e := by omega
    have e2 : ((e + 256 * Y) / 16 + (e + 256 * Y)) / 256 = Y / 16 + Y := by omega
    rw [e1, e2, ih, and15, mapd]
    omega

theorem cnt_bytes (x : Nat) (n : Nat) : cnt (fun i => x.testBit i) (8 + n) = p8 (x % 256) + cnt (fun i => (x / 256).testBit i) n := by
  rw [cnt_add]
  congr 1
  · unfold p8
    refine cnt_congr fun i hi => ?_
    have := Nat.testBit_mod_two_pow x 8 i
    simp only [show (2 : Nat) ^ 8 = 256 from rfl] at this
    rw [this]; simp [hi]
  · refine cnt_congr fun i _ => ?_
    have := @Nat.testBit_div_two_pow 8 x i
    simp only [show (2 : Nat) ^ 8 = 256 from rfl] at this
    rw [this, Nat.add_comm]

/-- How many of the 64 bits of x are set. -/
def pop (x : Nat) : Nat := cnt (fun i => x.testBit i) 64

theorem p8_le (d : Nat) : p8 d ≤ 8 := cnt_le _ _

theorem pop_mapd (x : Nat) : ∃ e0 e1 e2 e3 e4 e5 e6 e7 : Nat, e0 ≤ 8 ∧ e1 ≤ 8 ∧ e2 ≤ 8 ∧ e3 ≤ 8 ∧ e4 ≤ 8 ∧ e5 ≤ 8 ∧ e6 ≤ 8 ∧ e7 ≤ 8 ∧
    pop x = e0 + e1 + e2 + e3 + e4 + e5 + e6 + e7 ∧
    mapd p8 8 x = e0 + 256 * (e1 + 256 * (e2 + 256 * (e3 + 256 * (e4 + 256 * (e5 + 256 * (e6 + 256 * e7)))))) := by
  refine ⟨p8 (x % 256), p8 (x / 256 % 256), p8 (x / 256 / 256 % 256), p8 (x / 256 / 256 / 256 % 256), p8 (x / 256 / 256 / 256 / 256 % 256), p8 (x / 256 / 256 / 256 / 256 / 256 % 256), p8 (x / 256 / 256 / 256 / 256 / 256 / 256 % 256), p8 (x / 256 / 256 / 256 / 256 / 256 / 256 / 256 % 256), p8_le _, p8_le _, p8_le _, p8_le _, p8_le _, p8_le _, p8_le _, p8_le _, ?_, ?_⟩
  · unfold pop
    rw [show (64 : Nat) = 8 + (8 + (8 + (8 + (8 + (8 + (8 + (8 + 0))))))) from rfl]
    iterate 8 rw [cnt_bytes]
    simp only [cnt]; omega
  · simp only [mapd]; rfl

theorem and_le {x m : Nat} : x &&& m ≤ m := Nat.and_le_right

theorem div2 {X X1 X2 f0 f1 : Nat} (h0 : X = f0 + 256 * X1) (h1 : X1 = f1 + 256 * X2) (_ : f0 < 256) (_ : f1 < 256) : X / 65536 = X2 := by omega
theorem div4 {X X1 X2 X3 X4 f0 f1 f2 f3 : Nat} (h0 : X = f0 + 256 * X1) (h1 : X1 = f1 + 256 * X2) (h2 : X2 = f2 + 256 * X3) (h3 : X3 = f3 + 256 * X4) (_ : f0 < 256) (_ : f1 < 256) (_ : f2 < 256) (_ : f3 < 256) : X / 4294967296 = X4 := by omega
theorem low_sum (e0 e1 e2 e3 e4 e5 e6 e7 : Nat) (_ : e0 ≤ 8) (_ : e1 ≤ 8) (_ : e2 ≤ 8) (_ : e3 ≤ 8) (_ : e4 ≤ 8) (_ : e5 ≤ 8) (_ : e6 ≤ 8) (_ : e7 ≤ 8) (m : Nat)
    (hm : e0 + 256 * (e1 + 256 * (e2 + 256 * (e3 + 256 * (e4 + 256 * (e5 + 256 * (e6 + 256 * e7)))))) = m) :
    (m + m / 256 + (m + m / 256) / 65536 + (m + m / 256 + (m + m / 256) / 65536) / 4294967296) % 128 = e0 + e1 + e2 + e3 + e4 + e5 + e6 + e7 := by
  obtain ⟨A6, a6⟩ : ∃ A, e6 + 256 * e7 = A := ⟨_, rfl⟩
  rw [a6] at hm
  obtain ⟨A5, a5⟩ : ∃ A, e5 + 256 * A6 = A := ⟨_, rfl⟩
  rw [a5] at hm
  obtain ⟨A4, a4⟩ : ∃ A, e4 + 256 * A5 = A := ⟨_, rfl⟩
  rw [a4] at hm
  obtain ⟨A3, a3⟩ : ∃ A, e3 + 256 * A4 = A := ⟨_, rfl⟩
  rw [a3] at hm
  obtain ⟨A2, a2⟩ : ∃ A, e2 + 256 * A3 = A := ⟨_, rfl⟩
  rw [a2] at hm
  obtain ⟨A1, a1⟩ : ∃ A, e1 + 256 * A2 = A := ⟨_, rfl⟩
  rw [a1] at hm
  have d1 : m / 256 = A1 := by omega
  rw [d1]
  have b0 : m + A1 = (e0 + e1) + 256 * (A1 + A2) := by omega
  have b1 : A1 + A2 = (e1 + e2) + 256 * (A2 + A3) := by omega
  have b2 : A2 + A3 = (e2 + e3) + 256 * (A3 + A4) := by omega
  have b3 : A3 + A4 = (e3 + e4) + 256 * (A4 + A5) := by omega
  have b4 : A4 + A5 = (e4 + e5) + 256 * (A5 + A6) := by omega
  have b5 : A5 + A6 = (e5 + e6) + 256 * (A6 + e7) := by omega
  have b6 : A6 + e7 = (e6 + e7) + 256 * e7 := by omega
  clear hm d1 a1 a2 a3 a4 a5 a6
  generalize m + A1 = B0 at *
  generalize A1 + A2 = B1 at *
  generalize A2 + A3 = B2 at *
  generalize A3 + A4 = B3 at *
  generalize A4 + A5 = B4 at *
  generalize A5 + A6 = B5 at *
  generalize A6 + e7 = B6 at *
  rw [div2 b0 b1 (by omega) (by omega)]
  have c0 : B0 + B2 = (e0 + e1 + e2 + e3) + 256 * (B1 + B3) := by omega
  have c1 : B1 + B3 = (e1 + e2 + e3 + e4) + 256 * (B2 + B4) := by omega
  have c2 : B2 + B4 = (e2 + e3 + e4 + e5) + 256 * (B3 + B5) := by omega
  have c3 : B3 + B5 = (e3 + e4 + e5 + e6) + 256 * (B4 + B6) := by omega
  have c4 : B4 + B6 = (e4 + e5 + e6 + e7) + 256 * (B5 + e7) := by omega
  clear b0 b1 b2 b3 b4 b5 b6
  rw [div4 c0 c1 c2 c3 (by omega) (by omega) (by omega) (by omega), c0, c4]
  omega

/-- The six steps of OnesCount64, each as the walk writes it. -/
theorem ones_steps (x : Nat) (hx : x < 18446744073709551616) : ∃ x1 x2 x3 x4 x5 x6 : Int,
    (0 ≤ x1 ∧ x1 ≤ 18446744073709551615) ∧ (0 ≤ x2 ∧ x2 ≤ 18446744073709551615) ∧ (0 ≤ x3 ∧ x3 ≤ 18446744073709551615) ∧ (0 ≤ x4 ∧ x4 ≤ 18446744073709551615) ∧ (0 ≤ x5 ∧ x5 ≤ 18446744073709551615) ∧ (0 ≤ x6 ∧ x6 ≤ 9223372036854775807) ∧
    IntKind.u64.wrap (bits .and .u64 ((x : Int) / 2) 6148914691236517205 + bits .and .u64 x 6148914691236517205) = x1 ∧
    IntKind.u64.wrap (bits .and .u64 (x1 / 4) 3689348814741910323 + bits .and .u64 x1 3689348814741910323) = x2 ∧
    bits .and .u64 (IntKind.u64.wrap (x2 / 16 + x2)) 1085102592571150095 = x3 ∧
    IntKind.u64.wrap (x3 + x3 / 256) = x4 ∧ IntKind.u64.wrap (x4 + x4 / 65536) = x5 ∧ IntKind.u64.wrap (x5 + x5 / 4294967296) = x6 ∧
    bits .and .i64 x6 127 = pop x := by
  have r5 : rep 85 8 = 6148914691236517205 := by decide +kernel
  have r3 : rep 51 8 = 3689348814741910323 := by decide +kernel
  have r15 : rep 15 8 = 1085102592571150095 := by decide +kernel
  have a := stepA 8 x
  have b := stepB 8 (mapd s1 8 x)
  have bc : mapd s2 8 (mapd s1 8 x) = mapd g2 8 x := mapd_comp s2 s1 s1_lt 8 x
  have c := stepC 8 x
  rw [bc] at b
  rw [r5] at a; rw [r3] at b; rw [r15] at c
  obtain ⟨e0, e1, e2, e3, e4, e5, e6, e7, l0, l1, l2, l3, l4, l5, l6, l7, hp, hm⟩ := pop_mapd x
  rw [hm] at c
  generalize mapd s1 8 x = m1 at *
  generalize mapd g2 8 x = m2 at *
  have k1 : m1 ≤ 12297829382473034410 := by
    have h1 : x / 2 &&& 6148914691236517205 ≤ 6148914691236517205 := and_le
    have h2 : x &&& 6148914691236517205 ≤ 6148914691236517205 := and_le
    omega
  have k2 : m2 ≤ 7378697629483820646 := by
    have h1 : m1 / 4 &&& 3689348814741910323 ≤ 3689348814741910323 := and_le
    have h2 : m1 &&& 3689348814741910323 ≤ 3689348814741910323 := and_le
    omega
  generalize hm3 : e0 + 256 * (e1 + 256 * (e2 + 256 * (e3 + 256 * (e4 + 256 * (e5 + 256 * (e6 + 256 * e7)))))) = m3 at *
  refine ⟨m1, m2, m3, ((m3 + m3 / 256 : Nat) : Int), ((m3 + m3 / 256 + (m3 + m3 / 256) / 65536 : Nat) : Int), ((m3 + m3 / 256 + (m3 + m3 / 256) / 65536 + (m3 + m3 / 256 + (m3 + m3 / 256) / 65536) / 4294967296 : Nat) : Int), by omega, by omega, by omega, by omega, by omega, by omega, ?_, ?_, ?_, ?_, ?_, ?_, ?_⟩
  · rw [show ((x : Int) / 2) = ((x / 2 : Nat) : Int) from rfl, show (6148914691236517205 : Int) = ((6148914691236517205 : Nat) : Int) from rfl, bits_and_nat (by omega) (by omega), bits_and_nat (by omega) (by omega), ← Int.natCast_add, a]
    exact wrap_nat (by omega)
  · rw [show ((m1 : Int) / 4) = ((m1 / 4 : Nat) : Int) from rfl, show (3689348814741910323 : Int) = ((3689348814741910323 : Nat) : Int) from rfl, bits_and_nat (by omega) (by omega), bits_and_nat (by omega) (by omega), ← Int.natCast_add, b]
    exact wrap_nat (by omega)
  · rw [show ((m2 : Int) / 16 + (m2 : Int)) = ((m2 / 16 + m2 : Nat) : Int) from rfl, wrap_nat (by omega), show (1085102592571150095 : Int) = ((1085102592571150095 : Nat) : Int) from rfl, bits_and_nat (by omega) (by omega), c]
  · rw [show ((m3 : Int) + (m3 : Int) / 256) = ((m3 + m3 / 256 : Nat) : Int) from rfl]
    exact wrap_nat (by omega)
  · exact wrap_nat (x := m3 + m3 / 256 + (m3 + m3 / 256) / 65536) (by omega)
  · exact wrap_nat (x := m3 + m3 / 256 + (m3 + m3 / 256) / 65536 + (m3 + m3 / 256 + (m3 + m3 / 256) / 65536) / 4294967296) (by omega)
  · have hb : ∀ z : Nat, z < 9223372036854775808 → bits .and .i64 (z : Int) 127 = ((z % 128 : Nat) : Int) := by
      intro z hz
      have h : (BitVec.ofNat 64 z &&& BitVec.ofNat 64 127).toNat = z % 128 := by
        rw [BitVec.toNat_and, toNat_of (by omega), toNat_of (by omega), and127]
      show IntKind.i64.wrap (((BitVec.ofInt 64 (z : Int) &&& BitVec.ofInt 64 ((127 : Nat) : Int)).toNat : Nat) : Int) = _
      rw [ofInt_nat, ofInt_nat, h]
      exact IntWalk.i64_in _ (by omega)
    rw [hb _ (by omega), hp]
    refine congrArg _ ?_
    exact low_sum _ _ _ _ _ _ _ _ l0 l1 l2 l3 l4 l5 l6 l7 _ hm3

/-! ### the words of a set of bytes -/
def wd (s : BitVec 256) (i : Nat) : Nat := (s.extractLsb' (64 * i) 64).toNat
theorem wd_lt (s : BitVec 256) (i : Nat) : wd s i < 18446744073709551616 := (s.extractLsb' (64 * i) 64).isLt
theorem wd_bit (s : BitVec 256) (i j : Nat) : (wd s i).testBit j = (decide (j < 64) && s.getLsbD (64 * i + j)) := by
  unfold wd
  rw [BitVec.testBit_toNat, BitVec.getLsbD_extractLsb']
def cls (s : BitVec 256) : Value := .agg #[.int .u64 (wd s 0), .int .u64 (wd s 1), .int .u64 (wd s 2), .int .u64 (wd s 3)]

theorem wd_or (s t : BitVec 256) (i : Nat) : wd (s ||| t) i = wd s i ||| wd t i := by
  refine Nat.eq_of_testBit_eq fun j => ?_
  rw [Nat.testBit_or, wd_bit, wd_bit, wd_bit, BitVec.getLsbD_or]
  cases decide (j < 64) <;> simp
theorem wd_not (s : BitVec 256) (i : Nat) (hi : i < 4) : wd (~~~s) i = 18446744073709551615 ^^^ wd s i := by
  refine Nat.eq_of_testBit_eq fun j => ?_
  rw [Nat.testBit_xor, wd_bit, wd_bit, BitVec.getLsbD_not, show (18446744073709551615 : Nat) = 2 ^ 64 - 1 from rfl, Nat.testBit_two_pow_sub_one]
  by_cases hj : j < 64
  · have : 64 * i + j < 256 := by omega
    simp [hj, this]
  · simp [hj]

theorem ext_wd {s t : BitVec 256} (h0 : wd s 0 = wd t 0) (h1 : wd s 1 = wd t 1) (h2 : wd s 2 = wd t 2) (h3 : wd s 3 = wd t 3) : s = t := by
  refine BitVec.eq_of_getLsbD_eq fun n hn => ?_
  have key : ∀ i, wd s i = wd t i → ∀ j, j < 64 → s.getLsbD (64 * i + j) = t.getLsbD (64 * i + j) := by
    intro i h j hj
    have a := wd_bit s i j
    have b := wd_bit t i j
    rw [h] at a
    rw [a] at b
    simpa [hj] using b
  rcases (by omega : n < 64 ∨ (64 ≤ n ∧ n < 128) ∨ (128 ≤ n ∧ n < 192) ∨ (192 ≤ n ∧ n < 256)) with h | h | h | h
  · have := key 0 h0 n h; rwa [show 64 * 0 + n = n by omega] at this
  · have := key 1 h1 (n - 64) (by omega); rwa [show 64 * 1 + (n - 64) = n by omega] at this
  · have := key 2 h2 (n - 128) (by omega); rwa [show 64 * 2 + (n - 128) = n by omega] at this
  · have := key 3 h3 (n - 192) (by omega); rwa [show 64 * 3 + (n - 192) = n by omega] at this

/-- Is the bit there: as the walk writes it. -/
theorem has_bit (s : BitVec 256) (i r : Nat) (hr : r < 64) (x : Int) (hx : x = (wd s i : Int) / 2 ^ r) :
    (bits .and .u64 x 1 == 1) = s.getLsbD (64 * i + r) := by
  have hb := wd_bit s i r
  have hl := wd_lt s i
  rw [Nat.testBit_eq_decide_div_mod_eq] at hb
  have hd : wd s i / 2 ^ r < 18446744073709551616 := Nat.lt_of_le_of_lt (Nat.div_le_self _ _) hl
  have hx' : x = ((wd s i / 2 ^ r : Nat) : Int) := by rw [hx]; simp
  rw [hx', show (1 : Int) = ((1 : Nat) : Int) from rfl, bits_and_nat hd (by omega)]
  have : wd s i / 2 ^ r &&& 1 = wd s i / 2 ^ r % 2 := Nat.and_two_pow_sub_one_eq_mod _ 1
  rw [this]
  simp only [hr, decide_true, Bool.true_and] at hb
  rw [← hb]
  have h2 : wd s i / 2 ^ r % 2 < 2 := Nat.mod_lt _ (by omega)
  generalize wd s i / 2 ^ r % 2 = z at *
  rcases (by omega : z = 0 ∨ z = 1) with rfl | rfl <;> rfl

/-- The set of one byte. -/
def one (c : Nat) : BitVec 256 := BitVec.twoPow 256 c
theorem one_bit (c n : Nat) (hn : n < 256) : (one c).getLsbD n = decide (n = c) := by
  unfold one
  rw [BitVec.getLsbD_twoPow]
  by_cases h : c = n <;> simp [h] <;> omega
theorem wd_one (c i : Nat) (hi : i < 4) : wd (one c) i = if c / 64 = i then 2 ^ (c % 64) else 0 := by
  refine Nat.eq_of_testBit_eq fun j => ?_
  rw [wd_bit]
  by_cases hj : j < 64
  · rw [one_bit c _ (by omega)]
    split
    · rename_i h
      rw [Nat.testBit_two_pow]
      simp only [hj, decide_true, Bool.true_and]
      rw [Bool.eq_iff_iff]; simp; omega
    · rename_i h
      simp; omega
  · split
    · rw [Nat.testBit_two_pow]; simp [hj]; omega
    · simp [hj]
/-- The set and the bytes of a list. -/
def addL (s : BitVec 256) : List Nat → BitVec 256
  | [] => s
  | c :: l => addL (s ||| one c) l
theorem addL_append (s : BitVec 256) (l m : List Nat) : addL s (l ++ m) = addL (addL s l) m := by
  induction l generalizing s with
  | nil => rfl
  | cons c l ih => exact ih _
theorem addL_bit (l : List Nat) (s : BitVec 256) (n : Nat) (hn : n < 256) : (addL s l).getLsbD n = (s.getLsbD n || decide (n ∈ l)) := by
  induction l generalizing s with
  | nil => simp [addL]
  | cons c l ih =>
    rw [addL, ih, BitVec.getLsbD_or, one_bit c n hn]
    by_cases h : n = c <;> simp [h]

/-- The bytes from one to another one. -/
def rowB (a b : Nat) : BitVec 256 := addL 0#256 ((List.range (b + 1 - a)).map (a + ·))
theorem rowB_bit (a b n : Nat) (hn : n < 256) : (rowB a b).getLsbD n = decide (a ≤ n ∧ n ≤ b) := by
  unfold rowB
  rw [addL_bit _ _ _ hn]
  simp only [BitVec.getLsbD_zero, Bool.false_or]
  congr 1
  rw [eq_iff_iff]
  constructor
  · intro h
    obtain ⟨k, hk, rfl⟩ := List.mem_map.1 h
    have := List.mem_range.1 hk
    omega
  · intro ⟨h1, h2⟩
    exact List.mem_map.2 ⟨n - a, List.mem_range.2 (by omega), by omega⟩

/-- How many bytes there are. -/
def cntS (s : BitVec 256) : Nat := cnt (fun i => s.getLsbD i) 256
theorem cntS_words (s : BitVec 256) : cntS s = pop (wd s 0) + pop (wd s 1) + pop (wd s 2) + pop (wd s 3) := by
  unfold cntS
  have h : ∀ k, cnt (fun i => s.getLsbD (64 * k + i)) 64 = pop (wd s k) := by
    intro k
    unfold pop
    refine cnt_congr fun i hi => ?_
    rw [wd_bit]; simp [hi]
  have e := cnt_add (fun i => s.getLsbD i) 192 64
  have e2 := cnt_add (fun i => s.getLsbD i) 128 64
  have e3 := cnt_add (fun i => s.getLsbD i) 64 64
  have h0 := h 0
  have h1 := h 1
  have h2 := h 2
  have h3 := h 3
  simp only [Nat.mul_zero, Nat.zero_add, Nat.mul_one] at h0 h1 h2 h3
  rw [show 192 + 64 = 256 from rfl] at e
  rw [show 128 + 64 = 192 from rfl] at e2
  rw [show 64 + 64 = 128 from rfl] at e3
  rw [e, e2, e3, h0, h1, ← h2, ← h3]

/-! ### what counts say -/
theorem cnt_mono {p q : Nat → Bool} (h : ∀ i, p i = true → q i = true) : ∀ n, cnt p n ≤ cnt q n
  | 0 => Nat.le_refl _
  | n + 1 => by
    have ih := cnt_mono h n
    have := h n
    unfold cnt
    cases hp : p n <;> cases hq : q n <;> simp_all <;> omega
theorem cnt_same {p q : Nat → Bool} (h : ∀ i, p i = true → q i = true) : ∀ n, cnt p n = cnt q n → ∀ i, i < n → p i = q i
  | 0, _, i, hi => by omega
  | n + 1, he, i, hi => by
    have ih := cnt_same h n
    have hm := cnt_mono h n
    have hn := h n
    have e1 : cnt p (n + 1) = cnt p n + if p n then 1 else 0 := rfl
    have e2 : cnt q (n + 1) = cnt q n + if q n then 1 else 0 := rfl
    rw [e1, e2] at he
    have hpq : p n = q n ∧ cnt p n = cnt q n := by
      generalize p n = a at *
      generalize q n = b at *
      cases a <;> cases b
      · simpa using he
      · exfalso; simp at he; omega
      · exfalso; simp at hn
      · simpa using he
    by_cases e : i = n
    · subst e; exact hpq.1
    · exact ih hpq.2 i (by omega)
theorem cntS_eq_iff (s t : BitVec 256) : cntS (s ||| t) = cntS (s &&& t) ↔ s = t := by
  constructor
  · intro h
    have key := cnt_same (p := fun i => (s &&& t).getLsbD i) (q := fun i => (s ||| t).getLsbD i) (fun i hi => by
      simp only [BitVec.getLsbD_and, BitVec.getLsbD_or, Bool.and_eq_true] at hi ⊢; simp [hi.1]) 256 h.symm
    refine BitVec.eq_of_getLsbD_eq fun i hi => ?_
    have := key i hi
    simp only [BitVec.getLsbD_and, BitVec.getLsbD_or] at this
    clear key
    revert this
    generalize s.getLsbD i = a
    generalize t.getLsbD i = b
    revert a b
    decide
  · rintro rfl; simp
end Go.Proofs.YtcgjmnhmhiddkaaGreatDoor
