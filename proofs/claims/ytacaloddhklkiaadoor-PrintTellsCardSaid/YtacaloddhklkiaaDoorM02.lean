/- The contracts of package class (and of math/bits as it uses it): each call answers the set that the document names, and nothing that was there turns. -/
import Derived.Test.YtacaloddhklkiaaDoorM01
import Derived.Test.YtacaloddhklkiaaDoorProg
import Derived.WalkKit
import Derived.ProofKit
import Derived.Outline
import Derived.Handy
import Derived.BigRegion
import Derived.Lib.Hide
import Derived.ChangeKeysEq
namespace Go.Proofs.YtacaloddhklkiaaDoor
open Go Go.RowKit
set_option linter.unusedVariables false

/-- The table of math/bits stands where the program lays it. -/
def Deb (w : World) : Prop := 3 < w.heap.size ∧ ∀ i, i < 64 → w.cell? ⟨3, i, none⟩ = some (.int .u8 ((deb.getD i 0 : Nat) : Int))
theorem Deb.below {w w' : World} (h : Deb w) (hb : Below w.heap.size w w') : Deb w' :=
  ⟨Nat.lt_of_lt_of_le h.1 hb.size, fun i hi => (hb.cell (p := ⟨_, i, none⟩) h.1).trans (h.2 i hi)⟩

/-- It answers v, and of what was there nothing turns. -/
def Ans (w : World) (v : Value) (e : Ending) (w' : World) : Prop := e = .returned v ∧ Below w.heap.size w w'

/-- It answers v, and turns nothing at all. -/
def Pure (w : World) (v : Value) (e : Ending) (w' : World) : Prop := e = .returned v ∧ w = w'

theorem wd_in (s : BitVec 256) (i : Nat) : (0 : Int) ≤ (wd s i : Int) ∧ (wd s i : Int) ≤ 18446744073709551615 := by
  have := wd_lt s i; omega

/-! ### Has -/
set_option maxHeartbeats 800000 in
theorem has_walk (a0 a1 a2 a3 c : Int) (x : Bool) (w : World) (h0 : 0 ≤ c) (h1 : c ≤ 255)
    (h : (c / 64 = 0 ∧ (bits .and .u64 (a0 / 2 ^ (c % 64).toNat) 1 == 1) = x) ∨ (c / 64 = 1 ∧ (bits .and .u64 (a1 / 2 ^ (c % 64).toNat) 1 == 1) = x) ∨ (c / 64 = 2 ∧ (bits .and .u64 (a2 / 2 ^ (c % 64).toNat) 1 == 1) = x) ∨ (c / 64 = 3 ∧ (bits .and .u64 (a3 / 2 ^ (c % 64).toNat) 1 == 1) = x)) :
    Calls Tryd.prog 28 #[.agg #[.int .u64 a0, .int .u64 a1, .int .u64 a2, .int .u64 a3], .int .u8 c] w (Ans w (.bool x)) := by
  rcases h with ⟨hq, hx⟩ | ⟨hq, hx⟩ | ⟨hq, hx⟩ | ⟨hq, hx⟩
  all_goals
    go_enter Tryd.func28, Tryd.ntmps28
    go_wp2
    go_ret
    exact ⟨rfl, by go_grown⟩

theorem has_any (s : BitVec 256) (c : Nat) (hc : c < 256) (w : World) :
    Calls Tryd.prog 28 #[cls s, .int .u8 (c : Int)] w (Ans w (.bool (s.getLsbD c))) := by
  have hr : ((c : Int) % 64).toNat = c % 64 := by omega
  have key : ∀ i, c / 64 = i → (bits .and .u64 ((wd s i : Int) / 2 ^ ((c : Int) % 64).toNat) 1 == 1) = s.getLsbD c := by
    intro i hi
    rw [has_bit s i (c % 64) (by omega) _ (by rw [hr])]
    congr 1; omega
  refine has_walk _ _ _ _ _ _ w (by omega) (by omega) ?_
  · rcases (by omega : c / 64 = 0 ∨ c / 64 = 1 ∨ c / 64 = 2 ∨ c / 64 = 3) with h | h | h | h
    · exact .inl ⟨by omega, key 0 h⟩
    · exact .inr (.inl ⟨by omega, key 1 h⟩)
    · exact .inr (.inr (.inl ⟨by omega, key 2 h⟩))
    · exact .inr (.inr (.inr ⟨by omega, key 3 h⟩))

/-! ### Join, Both, Not -/
/-! ### math/bits -/
set_option maxHeartbeats 800000 in
theorem ones_walk (x : Nat) (hx : x < 18446744073709551616) (n x1 x2 x3 x4 x5 x6 : Int) (w : World)
    (r1 : 0 ≤ x1 ∧ x1 ≤ 18446744073709551615) (r2 : 0 ≤ x2 ∧ x2 ≤ 18446744073709551615) (r3 : 0 ≤ x3 ∧ x3 ≤ 18446744073709551615) (r4 : 0 ≤ x4 ∧ x4 ≤ 18446744073709551615) (r5 : 0 ≤ x5 ∧ x5 ≤ 18446744073709551615) (r6 : 0 ≤ x6 ∧ x6 ≤ 9223372036854775807)
    (e1 : IntKind.u64.wrap (bits .and .u64 ((x : Int) / 2) 6148914691236517205 + bits .and .u64 x 6148914691236517205) = x1)
    (e2 : IntKind.u64.wrap (bits .and .u64 (x1 / 4) 3689348814741910323 + bits .and .u64 x1 3689348814741910323) = x2)
    (e3 : bits .and .u64 (IntKind.u64.wrap (x2 / 16 + x2)) 1085102592571150095 = x3)
    (e4 : IntKind.u64.wrap (x3 + x3 / 256) = x4) (e5 : IntKind.u64.wrap (x4 + x4 / 65536) = x5) (e6 : IntKind.u64.wrap (x5 + x5 / 4294967296) = x6)
    (e7 : bits .and .i64 x6 127 = n) :
    Calls Tryd.prog 43 #[.int .u64 x] w (Pure w (.int .i64 n)) := by
  go_enter Tryd.func43, Tryd.ntmps43
  go_wp2
  go_ret
  exact ⟨rfl, rfl⟩
theorem ones_any (x : Nat) (hx : x < 18446744073709551616) (w : World) : Calls Tryd.prog 43 #[.int .u64 x] w (Pure w (.int .i64 (pop x))) := by
  obtain ⟨x1, x2, x3, x4, x5, x6, r1, r2, r3, r4, r5, r6, e1, e2, e3, e4, e5, e6, e7⟩ := ones_steps x hx
  exact ones_walk x hx _ x1 x2 x3 x4 x5 x6 w r1 r2 r3 r4 r5 r6 e1 e2 e3 e4 e5 e6 e7

set_option maxHeartbeats 800000 in
theorem tz_walk (x p q t : Int) (w : World) (hx : 0 < x) (hx1 : x ≤ 18446744073709551615) (hq : 0 ≤ q) (hq1 : q < 64) (ht : 0 ≤ t) (ht1 : t < 64)
    (e1 : bits .and .u64 x (IntKind.u64.wrap (-x)) = p) (e2 : IntKind.u64.wrap (p * 285870213051353865) / 288230376151711744 = q)
    (hc : w.cell? ⟨3, q.toNat, none⟩ = some (.int .u8 t)) :
    Calls Tryd.prog 86 #[.int .u64 x] w (Pure w (.int .i64 t)) := by
  go_enter Tryd.func86, Tryd.ntmps86
  go_wp2
  go_ret
  exact ⟨rfl, rfl⟩
theorem tz_any (x t : Nat) (hx : x < 18446744073709551616) (h : LowBit x t) (w : World) (hd : Deb w) :
    Calls Tryd.prog 86 #[.int .u64 x] w (Pure w (.int .i64 t)) := by
  have hx0 : x ≠ 0 := by rintro rfl; have := h.has; simp at this
  have ht := h.lt hx
  obtain ⟨p, q, e1, e2, a, b⟩ : ∃ (p : Int) (q : Nat), bits .and .u64 x (IntKind.u64.wrap (-(x : Int))) = p ∧ IntKind.u64.wrap (p * 285870213051353865) / 288230376151711744 = (q : Int) ∧ q < 64 ∧ deb.getD q 0 = t :=
    ⟨_, _, (tz_steps x t hx h).1, (tz_steps x t hx h).2, debAt_ok t (h.lt hx)⟩
  have hc := hd.2 q a
  rw [b] at hc
  exact tz_walk x p q t w (by omega) (by omega) (by omega) (by omega) (by omega) (by omega) e1 e2 (by rw [Int.toNat_natCast]; exact hc)
/-! ### Add -/
/-- A row of bytes in memory, read from its beginning on. -/
def Row8 (w : World) (a : Option Addr) (l : List Nat) : Prop :=
  (∀ c ∈ l, c < 256) ∧ l.length ≤ 9223372036854775807 ∧ ∀ i, i < l.length → ∃ b off, a = some ⟨b, off, none⟩ ∧ b < w.heap.size ∧ w.cell? ⟨b, off + i, none⟩ = some (.int .u8 ((l.getD i 0 : Nat) : Int))

theorem add_word (s : BitVec 256) (c : Nat) (hc : c < 256) (i : Nat) (hi : i < 4) (h : c / 64 = i) :
    bits .or .u64 (wd s i) (IntKind.u64.wrap (2 ^ (c % 64))) = (wd (s ||| one c) i : Int) := by
  have e : IntKind.u64.wrap (2 ^ (c % 64)) = (wd (one c) i : Int) := by
    have hl := wd_lt (one c) i
    rw [wd_one _ _ hi, if_pos h] at hl ⊢
    have := wrap_nat hl
    simpa using this
  rw [e, bits_or_nat (wd_lt _ _) (wd_lt _ _), ← wd_or]
theorem add_other (s : BitVec 256) (c : Nat) (i : Nat) (hi : i < 4) (h : c / 64 ≠ i) : wd s i = wd (s ||| one c) i := by
  rw [wd_or, wd_one _ _ hi, if_neg h]; simp

def add_cells (S : BitVec 256) (c : Nat) : Array Value := #[.int .u64 (wd (S ||| one c) 0), .int .u64 (wd (S ||| one c) 1), .int .u64 (wd (S ||| one c) 2), .int .u64 (wd (S ||| one c) 3)]
theorem add_cells0 (S : BitVec 256) (c : Nat) (hc : c < 256) (h : (c : Int) / 64 = 0) : #[.int .u64 (bits .or .u64 (wd S 0) (IntKind.u64.wrap (2 ^ (c % 64)))), .int .u64 (wd S 1), .int .u64 (wd S 2), .int .u64 (wd S 3)] = add_cells S c := by
  rw [add_word S c hc 0 (by omega) (by omega), add_other S c 1 (by omega) (by omega), add_other S c 2 (by omega) (by omega), add_other S c 3 (by omega) (by omega)]; rfl
theorem add_cells1 (S : BitVec 256) (c : Nat) (hc : c < 256) (h : (c : Int) / 64 = 1) : #[.int .u64 (wd S 0), .int .u64 (bits .or .u64 (wd S 1) (IntKind.u64.wrap (2 ^ (c % 64)))), .int .u64 (wd S 2), .int .u64 (wd S 3)] = add_cells S c := by
  rw [add_word S c hc 1 (by omega) (by omega), add_other S c 0 (by omega) (by omega), add_other S c 2 (by omega) (by omega), add_other S c 3 (by omega) (by omega)]; rfl
theorem add_cells2 (S : BitVec 256) (c : Nat) (hc : c < 256) (h : (c : Int) / 64 = 2) : #[.int .u64 (wd S 0), .int .u64 (wd S 1), .int .u64 (bits .or .u64 (wd S 2) (IntKind.u64.wrap (2 ^ (c % 64)))), .int .u64 (wd S 3)] = add_cells S c := by
  rw [add_word S c hc 2 (by omega) (by omega), add_other S c 0 (by omega) (by omega), add_other S c 1 (by omega) (by omega), add_other S c 3 (by omega) (by omega)]; rfl
theorem add_cells3 (S : BitVec 256) (c : Nat) (hc : c < 256) (h : (c : Int) / 64 = 3) : #[.int .u64 (wd S 0), .int .u64 (wd S 1), .int .u64 (wd S 2), .int .u64 (bits .or .u64 (wd S 3) (IntKind.u64.wrap (2 ^ (c % 64))))] = add_cells S c := by
  rw [add_word S c hc 3 (by omega) (by omega), add_other S c 0 (by omega) (by omega), add_other S c 1 (by omega) (by omega), add_other S c 2 (by omega) (by omega)]; rfl

/-! ### Of -/
/-- Block b holds these cells, none of them frozen. -/
def Blk (w : World) (b : Nat) (vs : Array Value) (t : TypeId) : Prop := w.heap[b]? = some (.cells vs t)
section
variable {w w' : World} {b : Nat} {vs : Array Value} {t : TypeId}
theorem Blk.lt (h : Blk w b vs t) : b < w.heap.size := by
  unfold Blk at h
  rcases Nat.lt_or_ge b w.heap.size with l | l
  · exact l
  · rw [Array.getElem?_eq_none l] at h; cases h
theorem Blk.cell (h : Blk w b vs t) (o : Nat) : w.cell? ⟨b, o, none⟩ = vs[o]? := by unfold Blk at h; simp [World.cell?, h]
theorem Blk.frozen (h : Blk w b vs t) (o : Nat) : w.frozen? ⟨b, o, none⟩ = false := by unfold Blk at h; simp [World.frozen?, h]
theorem Blk.below (h : Blk w b vs t) {B : Nat} (hb : Below B w w') (l : b < B) : Blk w' b vs t := (hb.block b l).trans h
theorem Blk.later (h : Blk w b vs t) (hb : Below w.heap.size w w') : Blk w' b vs t := h.below hb h.lt
theorem Blk.setCell (h : Blk w b vs t) (o : Nat) (v : Value) : Blk (w.setCell ⟨b, o, none⟩ v) b (vs.setIfInBounds o v) t := by
  unfold Blk at *
  simp [World.setCell, Array.getElem?_modify, h]
theorem Blk.setCell_ne (h : Blk w b vs t) {a : Addr} (hne : a.block ≠ b) (v : Value) : Blk (w.setCell a v) b vs t := by
  unfold Blk at *
  simp only [World.setCell, Array.getElem?_modify]
  rw [if_neg hne, h]
theorem Blk.alloc (h : Blk w b vs t) (o : Obj) : Blk (w.alloc o) b vs t := by
  have := h.lt
  unfold Blk at *
  rw [← h]; exact Below.heap_alloc w o b this
theorem Blk.new (w : World) (vs : Array Value) (t : TypeId) : Blk (w.alloc (.cells vs t)) w.heap.size vs t := by
  unfold Blk
  show (w.heap.push _)[w.heap.size]? = _
  simp
theorem Blk.new' {w : World} {b : Nat} (h : b = w.heap.size) (vs : Array Value) (t : TypeId) : Blk (w.alloc (.cells vs t)) b vs t := h ▸ Blk.new w vs t
end

def cells4 (S : BitVec 256) : Array Value := #[.int .u64 (wd S 0), .int .u64 (wd S 1), .int .u64 (wd S 2), .int .u64 (wd S 3)]

theorem Blk.set4 {w : World} {b : Nat} {S : BitVec 256} {t : TypeId} (h : Blk w b (cells4 S) t) (S' : BitVec 256) :
    Blk ((((w.setCell ⟨b, 0, none⟩ (.int .u64 (wd S' 0))).setCell ⟨b, 1, none⟩ (.int .u64 (wd S' 1))).setCell ⟨b, 2, none⟩ (.int .u64 (wd S' 2))).setCell ⟨b, 3, none⟩ (.int .u64 (wd S' 3))) b (cells4 S') t :=
  (((h.setCell 0 _).setCell 1 _).setCell 2 _).setCell 3 _
theorem Blk.cells {w : World} {b : Nat} {S : BitVec 256} {t : TypeId} (h : Blk w b (cells4 S) t) :
    w.cell? ⟨b, 0, none⟩ = some (.int .u64 (wd S 0)) ∧ w.cell? ⟨b, 1, none⟩ = some (.int .u64 (wd S 1)) ∧ w.cell? ⟨b, 2, none⟩ = some (.int .u64 (wd S 2)) ∧ w.cell? ⟨b, 3, none⟩ = some (.int .u64 (wd S 3)) :=
  ⟨h.cell 0, h.cell 1, h.cell 2, h.cell 3⟩

theorem row_one (w : World) (c : Nat) (hc : c < 256) (a : Option Addr) (b : Nat) (ha : a = some ⟨b, 0, none⟩) (h : Blk w b #[.int .u8 (c : Int)] 5) : Row8 w a [c] := by
  refine ⟨by simpa using hc, by simp, fun i hi => ?_⟩
  have : i = 0 := by simpa using hi
  subst this
  exact ⟨b, 0, ha, h.lt, by rw [h.cell]; rfl⟩

/-! ### Count -/
set_option maxHeartbeats 1000000 in
theorem count_any (s : BitVec 256) (w : World) : Calls Tryd.prog 27 #[cls s] w (Ans w (.int .i64 (cntS s))) := by
  have HS : Hid (((cntS s : Nat) : Int) = pop (wd s 0) + pop (wd s 1) + pop (wd s 2) + pop (wd s 3)) := by have := cntS_words s; unfold Hid; omega
  have l0 := wd_lt s 0
  have l1 := wd_lt s 1
  have l2 := wd_lt s 2
  have l3 := wd_lt s 3
  have p : ∀ x, pop x ≤ 64 := fun x => cnt_le _ _
  have p0 := p (wd s 0)
  have p1 := p (wd s 1)
  have p2 := p (wd s 2)
  have p3 := p (wd s 3)
  clear p
  unfold cls
  go_enter Tryd.func27, Tryd.ntmps27
  go_wp2
  refine wp_loop_rounds 5 ?_
  rw [rounds_succ]
  go_wp2_with (go_at_call 43; refine (ones_any _ l0 _).mono ?_; rintro e w' ⟨rfl, rfl⟩)
  rw [rounds_succ]
  go_wp2_with (go_at_call 43; refine (ones_any _ l1 _).mono ?_; rintro e w' ⟨rfl, rfl⟩)
  rw [rounds_succ]
  go_wp2_with (go_at_call 43; refine (ones_any _ l2 _).mono ?_; rintro e w' ⟨rfl, rfl⟩)
  rw [rounds_succ]
  go_wp2_with (go_at_call 43; refine (ones_any _ l3 _).mono ?_; rintro e w' ⟨rfl, rfl⟩)
  rw [rounds_succ]
  go_wp2
  go_ret
  rw [HS.out]
  exact ⟨rfl, by go_grown⟩

/-! ### Least -/
theorem Deb.alloc {w : World} (h : Deb w) (o : Obj) : Deb (w.alloc o) := h.below ((Below.refl _ _).alloc (Nat.le_refl _) o)
/-! ### == and != of classes -/
theorem beq_words (x y : BitVec 256) : (decide (wd x 0 = wd y 0) && (decide (wd x 1 = wd y 1) && (decide (wd x 2 = wd y 2) && decide (wd x 3 = wd y 3)))) = (x == y) := by
  rw [Bool.eq_iff_iff]
  simp only [Bool.and_eq_true, decide_eq_true_eq, beq_iff_eq]
  exact ⟨fun ⟨a, b, c, d⟩ => ext_wd a b c d, fun h => by subst h; exact ⟨rfl, rfl, rfl, rfl⟩⟩
theorem equalIn_u64 (d : Nat) (x y : Int) (w : World) : (Op.equalIn (d + 1) 25 (.int .u64 x) (.int .u64 y)).run Tryd.prog w = .ok (x == y) w := by
  simp [Op.equalIn, go_sem]
theorem equal_cls (x y : BitVec 256) (w : World) : (Op.equal 27 (cls x) (cls y)).run Tryd.prog w = .ok (x == y) w := by
  obtain ⟨i, hi⟩ : ∃ i, Tryd.prog.info? 25 = some i := Option.isSome_iff_exists.1 (by kernel_rfl)
  have hc : Tryd.prog.cellsOf 25 = 1 := by kernel_rfl
  unfold cls
  rw [← beq_words]
  show (Op.equalIn (9999 + 1) 27 _ _).run Tryd.prog w = _
  rw [run_equalIn_array w 9999 _ _ Tryd.underlying27 hi, hc]
  rw [show List.range 4 = [0, 1, 2, 3] from rfl]
  simp [Op.eqItems, part, go_sem, equalIn_u64 9998]
  by_cases e0 : wd x 0 = wd y 0 <;> by_cases e1 : wd x 1 = wd y 1 <;> by_cases e2 : wd x 2 = wd y 2 <;> by_cases e3 : wd x 3 = wd y 3 <;> simp [e0, e1, e2, e3] <;> omega
theorem eql_cls (x y : BitVec 256) (w : World) : (binOp .eql 27 (cls x) (cls y)).run Tryd.prog w = .ok (.bool (x == y)) w := by
  have h := equal_cls x y w
  unfold cls at h ⊢
  simp only [binOp]
  simp [h]
theorem neq_cls (x y : BitVec 256) (w : World) : (binOp .neq 27 (cls x) (cls y)).run Tryd.prog w = .ok (.bool (!(x == y))) w := by
  have h := equal_cls x y w
  unfold cls at h ⊢
  simp only [binOp]
  simp [h]
theorem eqGuard_eql (o1 o2 : Operand) (x y : BitVec 256) (w : World) : (eqGuard .eql 27 o1 o2 (cls x) (cls y)).run Tryd.prog w = .ok () w := by
  unfold cls; simp [eqGuard, go_sem]
theorem eqGuard_neq (o1 o2 : Operand) (x y : BitVec 256) (w : World) : (eqGuard .neq 27 o1 o2 (cls x) (cls y)).run Tryd.prog w = .ok () w := by
  unfold cls; simp [eqGuard, go_sem]
end Go.Proofs.YtacaloddhklkiaaDoor
