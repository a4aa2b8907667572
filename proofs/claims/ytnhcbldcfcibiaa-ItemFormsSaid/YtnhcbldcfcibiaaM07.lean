/- Nodes of descriptions, built and taken apart: the plain mathematics. -/
import Derived.Test.YtnhcbldcfcibiaaM05
import Derived.Test.YtnhcbldcfcibiaaM03
import Derived.Test.YtnhcbldcfcibiaaM06
import Derived.Laws.AppendOwn
import Derived.Laws.StructEq
namespace Go.Proofs.Ytnhcbldcfcibiaa
open Go
set_option linter.unusedVariables false

/-- The node, its parts' numbers more. -/
def mvN (by_ : Int) (n : Nd) : Nd :=
  if 6 ≤ n.kind ∧ n.kind ≤ 9 then { n with a := n.a + by_ }
  else if n.kind = 4 ∨ n.kind = 5 then { n with a := n.a + by_, b := n.b + by_ }
  else n
def leafK (k : Int) : Prop := k = 1 ∨ k = 2 ∨ k = 3
def seg (l : List Nd) (f k : Nat) : List Nd := (l.drop f).take k
theorem seg_length {l : List Nd} {f k : Nat} (h : f + k ≤ l.length) : (seg l f k).length = k := by
  unfold seg; rw [List.length_take, List.length_drop]; omega
theorem seg_at {l : List Nd} {f k j : Nat} (h : j < k) : atN (seg l f k) j = atN l (f + j) := by
  unfold seg atN
  rw [List.getD_eq_getElem?_getD, List.getD_eq_getElem?_getD, List.getElem?_take, if_pos h, List.getElem?_drop]
/-- All nodes up to one are as they must be. -/
def okTo (l : List Nd) (i : Nat) : Prop := ∀ j, j ≤ i → okN l j (atN l j)
inductive Cs (l : List Nd) (i : Nat) (n : Nd) : Prop where
  | leaf (hk : leafK n.kind) (hf : firstP l i = i)
  | one (hk : 6 ≤ n.kind ∧ n.kind ≤ 9) (hi : 0 < i) (ha : n.a = (i : Int) - 1) (hb : n.b = 0) (hl : n.kind ≠ 7 → n.lo = 0 ∧ n.hi = 0) (hr : n.kind = 7 → 0 ≤ n.lo ∧ n.lo ≤ n.hi ∧ n.hi ≤ 255) (hc : n.cls = 0#256 ∧ n.text = []) (hf : firstP l i = firstP l (i - 1))
  | two (hk : n.kind = 4 ∨ n.kind = 5) (hi : 0 < i) (hb : n.b = (i : Int) - 1) (ha : n.a = (firstP l (i - 1) : Int) - 1) (hf0 : 0 < firstP l (i - 1)) (hl : n.lo = 0 ∧ n.hi = 0) (hc : n.cls = 0#256 ∧ n.text = []) (hf : firstP l i = firstP l (firstP l (i - 1) - 1))
theorem okN.cs {l : List Nd} {i : Nat} {n : Nd} (hn : atN l i = n) (h : okN l i n) : Cs l i n := by
  obtain ⟨hb, hk⟩ := h
  have stop : ¬ partK n.kind → firstP l i = i := fun hp => firstP_stop (by rw [hn]; exact fun hh => hp hh.1)
  have go : partK n.kind → 0 ≤ n.a → n.a < (i : Int) → firstP l i = firstP l n.a.toNat := fun h1 h2 h3 => by
    have := firstP_go (l := l) (i := i) (by rw [hn]; exact h1) (by rw [hn]; exact h2) (by rw [hn]; exact h3); rw [hn] at this; exact this
  rcases hk with hk | hk | ⟨hk, ht⟩ | ⟨hk, h0, h1⟩ | ⟨hk, ⟨h0, h1⟩, h2, h3, h4⟩ | ⟨hk, ⟨h0, h1⟩, h2, h3⟩
  · exact .leaf (.inl hk) (stop (by unfold partK; omega))
  · exact .leaf (.inr (.inl hk)) (stop (by unfold partK; omega))
  · exact .leaf (.inr (.inr hk)) (stop (by unfold partK; omega))
  · have e : n = { kind := n.kind, a := n.a } := by
      conv => lhs; rw [← hb]
      unfold backN
      rcases hk with hk | hk | hk <;> simp [hk]
    refine .one (by omega) (by omega) h1 (by rw [e]) (fun _ => by rw [e]; exact ⟨rfl, rfl⟩) (fun h7 => by omega) (by rw [e]; exact ⟨rfl, rfl⟩) ?_
    rw [go (by unfold partK; omega) h0 (by omega), show n.a.toNat = i - 1 by omega]
  · have e : n = { kind := 7, a := n.a, lo := n.lo, hi := n.hi } := by
      conv => lhs; rw [← hb]
      unfold backN
      simp [hk]
    refine .one (by omega) (by omega) h1 (by rw [e]) (fun h7 => absurd hk h7) (fun _ => ⟨h2, h3, h4⟩) (by rw [e]; exact ⟨rfl, rfl⟩) ?_
    rw [go (by unfold partK; omega) h0 (by omega), show n.a.toNat = i - 1 by omega]
  · have e : n = { kind := n.kind, a := n.a, b := n.b } := by
      conv => lhs; rw [← hb]
      unfold backN
      rcases hk with hk | hk <;> simp [hk]
    have hle := firstP_le l (i - 1)
    rw [show n.b.toNat = i - 1 by omega] at h3
    refine .two hk (by omega) h1 h3 (by omega) (by rw [e]; exact ⟨rfl, rfl⟩) (by rw [e]; exact ⟨rfl, rfl⟩) ?_
    rw [go (by unfold partK; omega) h2 (by omega), show n.a.toNat = firstP l (i - 1) - 1 by omega]
theorem Cs.ok {l : List Nd} {i : Nat} {n : Nd} (h : Cs l i n) (hl : leafK n.kind → backN n = n ∧ (n.kind = 3 → textOk n.text = true)) : okN l i n := by
  cases h with
  | leaf hk hf =>
    obtain ⟨h1, h2⟩ := hl hk
    refine ⟨h1, ?_⟩
    rcases hk with hk | hk | hk
    · exact .inl hk
    · exact .inr (.inl hk)
    · exact .inr (.inr (.inl ⟨hk, h2 hk⟩))
  | one hk hi ha hb h7 hr hc hf =>
    obtain ⟨kind, a, b, lo, hi', cls, text⟩ := n
    simp only at *
    obtain ⟨rfl, rfl⟩ := hc
    subst hb
    by_cases hk7 : kind = 7
    · subst hk7
      exact ⟨by simp [backN], .inr (.inr (.inr (.inr (.inl ⟨rfl, ⟨by simp only; omega, ha⟩, hr rfl⟩))))⟩
    · obtain ⟨rfl, rfl⟩ := h7 hk7
      refine ⟨?_, .inr (.inr (.inr (.inl ⟨by simp only; omega, by simp only; omega, ha⟩)))⟩
      have : kind = 6 ∨ kind = 8 ∨ kind = 9 := by omega
      unfold backN
      rcases this with h | h | h <;> simp [h]
  | two hk hi hb ha hf0 hl2 hc hf =>
    obtain ⟨kind, a, b, lo, hi', cls, text⟩ := n
    simp only at *
    obtain ⟨rfl, rfl⟩ := hc
    obtain ⟨rfl, rfl⟩ := hl2
    refine ⟨?_, .inr (.inr (.inr (.inr (.inr ⟨hk, ⟨by simp only; omega, hb⟩, by simp only; omega, ?_⟩))))⟩
    · unfold backN
      rcases hk with h | h <;> simp [h]
    · simp only; rw [show b.toNat = i - 1 by omega]; exact ha
theorem Form.okTo {l : List Nd} (h : Form l) {i : Nat} (hi : i < l.length) : okTo l i := fun j hj => h.2.1 j (by omega)
end Go.Proofs.Ytnhcbldcfcibiaa
/- The contracts of the document's answers for layer 1 (package scantlingref01). -/
namespace Go.Proofs.Ytnhcbldcfcibiaa
open Go Go.RowKit
set_option linter.unusedVariables false

/-! ### Has -/
theorem half (x k : Nat) : x / 2 ^ (k + 1) = x / 2 ^ k / 2 := by rw [Nat.pow_succ, Nat.div_div_eq_div_mul]
/-! ### List -/
theorem ownsRow_below {w w' : World} {base : Nat} {e : TypeId} {size : Nat} {v : Value} {n : Nat} {xs : List Value} {B : Nat} (h : w.ownsRow base e size v n xs) (hb : Below B w w') (hlt : ∀ g cap, v = .slice (some ⟨g, 0, none⟩) n cap → g < B) : w'.ownsRow base e size v n xs := by
  obtain ⟨h1, h2⟩ := h
  refine ⟨h1, ?_⟩
  rcases h2 with h2 | ⟨g, cap, cur, rfl, hg, hh, r⟩
  · exact .inl h2
  · exact .inr ⟨g, cap, cur, rfl, hg, (hb.block g (hlt g cap rfl)).trans hh, r⟩
theorem ownsRow_lt {w : World} {base : Nat} {e : TypeId} {size : Nat} {v : Value} {n : Nat} {xs : List Value} (h : w.ownsRow base e size v n xs) : ∀ g cap, v = .slice (some ⟨g, 0, none⟩) n cap → g < w.heap.size := by
  intro g cap hv
  rcases h.2 with ⟨rfl, _⟩ | ⟨g', cap', cur, rfl, _, hh, _⟩
  · cases hv
  · cases hv
    rcases Nat.lt_or_ge g w.heap.size with l | l
    · exact l
    · rw [Array.getElem?_eq_none l] at hh; cases hh
theorem ownsRow_later {w w' : World} {base : Nat} {e : TypeId} {size : Nat} {v : Value} {n : Nat} {xs : List Value} (h : w.ownsRow base e size v n xs) (hb : Below w.heap.size w w') : w'.ownsRow base e size v n xs :=
  ownsRow_below h hb (ownsRow_lt h)
/-! ### Of -/
/-! ### Not, Join, Both -/
section
variable {w w' : World} {g : Nat} {f : Nat → Bool}
end
/-! ### Least -/
/-! ### Row -/
end Go.Proofs.Ytnhcbldcfcibiaa
/- Rows of tokens in memory. -/
namespace Go.Proofs.Ytnhcbldcfcibiaa
open Go Go.RowKit
set_option linter.unusedVariables false

end Go.Proofs.Ytnhcbldcfcibiaa
/- Tokens: the same, or not. -/
namespace Go.Proofs.Ytnhcbldcfcibiaa
open Go Go.RowKit
set_option linter.unusedVariables false
set_option linter.unusedSimpArgs false

theorem equalIn_cls (d : Nat) (x y : BitVec 256) (w : World) : (Op.equalIn (d + 2) 44 (cls x) (cls y)).run Try.prog w = .ok (x == y) w := by
  obtain ⟨i, hi⟩ : ∃ i, Try.prog.info? 42 = some i := Option.isSome_iff_exists.1 (by kernel_rfl)
  have hc : Try.prog.cellsOf 42 = 1 := by kernel_rfl
  unfold cls
  rw [← beq_words]
  rw [show d + 2 = (d + 1) + 1 from rfl, run_equalIn_array w (d + 1) _ _ Try.underlying44 hi, hc]
  rw [show List.range 4 = [0, 1, 2, 3] from rfl]
  simp [Op.eqItems, part, go_sem, equalIn_u64 d]
  by_cases e0 : wd x 0 = wd y 0 <;> by_cases e1 : wd x 1 = wd y 1 <;> by_cases e2 : wd x 2 = wd y 2 <;> by_cases e3 : wd x 3 = wd y 3 <;> simp [e0, e1, e2, e3] <;> omega
theorem bs_beq (a b : List UInt8) : (bs a == bs b) = decide (a = b) := by
  rw [beq_toListBytes, Lib.toList_data, Lib.toList_data, bs_data, bs_data]
  rw [Bool.eq_iff_iff, beq_iff_eq, decide_eq_true_iff]
theorem equalIn_i64 (d : Nat) (a b : Int) (w : World) : (Op.equalIn (d + 1) 3 (.int .i64 a) (.int .i64 b)).run Try.prog w = .ok (a == b) w := by
  simp [Op.equalIn, go_sem]
theorem equalIn_str (d : Nat) (a b : ByteArray) (w : World) : (Op.equalIn (d + 1) 9 (.string a) (.string b)).run Try.prog w = .ok (a == b) w := by
  simp [Op.equalIn, go_sem]
end Go.Proofs.Ytnhcbldcfcibiaa
