/- Rows of nodes in memory. -/
import Derived.Test.YtnhcbldcfcibiaaM06
import Derived.Test.YtnhcbldcfcibiaaM07
import Derived.Test.YtnhcbldcfcibiaaM05
import Derived.Test.YtnhcbldcfcibiaaM03
import Derived.Laws.AppendOwn
import Derived.Laws.StructEq
namespace Go.Proofs.Ytnhcbldcfcibiaa
open Go Go.RowKit
set_option linter.unusedVariables false

def flat10 : List Nd → List Value
  | [] => []
  | t :: l => (ndC t).toList ++ flat10 l
theorem ndC_size (t : Nd) : (ndC t).toList.length = 10 := rfl
theorem flat10_length : ∀ l, (flat10 l).length = l.length * 10
  | [] => rfl
  | s :: l => by simp only [flat10, List.length_append, ndC_size, List.length_cons, flat10_length l]; omega
theorem flat10_get : ∀ (l : List Nd) (i j : Nat), i < l.length → j < 10 → (flat10 l)[i * 10 + j]? = (ndC (l.getD i nd0))[j]?
  | [], i, j, hi, _ => by simp at hi
  | s :: l, 0, j, _, hj => by
    show ((ndC s).toList ++ flat10 l)[0 * 10 + j]? = _
    rw [Nat.zero_mul, Nat.zero_add, List.getElem?_append_left (by rw [ndC_size]; exact hj)]; simp
  | s :: l, i + 1, j, hi, hj => by
    have ih := flat10_get l i j (by simpa using hi) hj
    show ((ndC s).toList ++ flat10 l)[(i + 1) * 10 + j]? = _
    rw [List.getElem?_append_right (by rw [ndC_size]; omega), ndC_size, show (i + 1) * 10 + j - 10 = i * 10 + j by omega, ih]
    simp
/-- A row of tokens that is read. -/
def NRow (w : World) (a : Option Addr) (l : List Nd) : Prop :=
  ∀ i, i < l.length → ∃ b off, a = some ⟨b, off, none⟩ ∧ b < w.heap.size ∧ ∀ j, j < 10 → w.cell? ⟨b, off + i * 10 + j, none⟩ = (ndC (l.getD i nd0))[j]?
theorem NRow.later {w w' : World} {a : Option Addr} {l : List Nd} (h : NRow w a l) (hb : Below w.heap.size w w') : NRow w' a l := fun i hi => by
  obtain ⟨b, off, ha, hlt, hc⟩ := h i hi
  exact ⟨b, off, ha, Nat.lt_of_lt_of_le hlt hb.size, fun j hj => (hb.cell (p := ⟨b, off + i * 10 + j, none⟩) hlt).trans (hc j hj)⟩
theorem NRow.nil (w : World) (a : Option Addr) : NRow w a [] := fun i hi => by simp at hi
end Go.Proofs.Ytnhcbldcfcibiaa
/- Nodes: the same, or not. -/
namespace Go.Proofs.Ytnhcbldcfcibiaa
open Go Go.RowKit
set_option linter.unusedVariables false
set_option linter.unusedSimpArgs false

set_option maxRecDepth 100000 in
set_option maxHeartbeats 4000000 in
theorem equal_nd (x y : Nd) (w : World) : (Op.equal 46 (.agg (ndC x)) (.agg (ndC y))).run Try.prog w = .ok (decide (x = y)) w := by
  have hu : Try.prog.underlying 46 = some (.struct (Try.prog.fieldsOf 46)) := by kernel_rfl
  show (Op.equalIn (9999 + 1) 46 _ _).run Try.prog w = _
  rw [run_equalIn_struct w 9999 _ _ _ hu (by kernel_rfl)]
  simp only [Program.fieldsOf, Try.underlying46]
  have hc : ∀ w, (Op.equalIn 9999 44 (.agg #[.int .u64 (wd x.cls 0), .int .u64 (wd x.cls 1), .int .u64 (wd x.cls 2), .int .u64 (wd x.cls 3)]) (.agg #[.int .u64 (wd y.cls 0), .int .u64 (wd y.cls 1), .int .u64 (wd y.cls 2), .int .u64 (wd y.cls 3)])).run Try.prog w = .ok (x.cls == y.cls) w := fun w => equalIn_cls 9997 x.cls y.cls w
  have hi : ∀ (a b : Int) w, (Op.equalIn 9999 3 (.int .i64 a) (.int .i64 b)).run Try.prog w = .ok (a == b) w := fun a b w => equalIn_i64 9998 a b w
  have hs : ∀ (a b : ByteArray) w, (Op.equalIn 9999 9 (.string a) (.string b)).run Try.prog w = .ok (a == b) w := fun a b w => equalIn_str 9998 a b w
  unfold ndC
  simp [Op.eqFields, part, go_sem, hc, hi, hs]
  rw [bs_beq]
  clear hc hi hs hu
  by_cases h1 : x.kind = y.kind
  · by_cases h2 : x.a = y.a
    · by_cases h3 : x.b = y.b
      · by_cases h4 : x.lo = y.lo
        · by_cases h5 : x.hi = y.hi
          · by_cases h6 : x.cls = y.cls
            · by_cases h7 : x.text = y.text
              · have : x = y := by cases x; cases y; simp_all
                simp [this]
              · have : x ≠ y := fun e => h7 (by rw [e])
                simp [h1, h2, h3, h4, h5, h6, h7, this] <;> (try (intros; omega))
            · have : x ≠ y := fun e => h6 (by rw [e])
              simp [h1, h2, h3, h4, h5, h6, this] <;> (try (intros; omega))
          · have : x ≠ y := fun e => h5 (by rw [e])
            simp [h1, h2, h3, h4, h5, this] <;> (try (intros; omega))
        · have : x ≠ y := fun e => h4 (by rw [e])
          simp [h1, h2, h3, h4, this] <;> (try (intros; omega))
      · have : x ≠ y := fun e => h3 (by rw [e])
        simp [h1, h2, h3, this] <;> (try (intros; omega))
    · have : x ≠ y := fun e => h2 (by rw [e])
      simp [h1, h2, this] <;> (try (intros; omega))
  · have : x ≠ y := fun e => h1 (by rw [e])
    simp [h1, this] <;> (try (intros; omega))
theorem neq_nd (x y : Nd) (w : World) : (binOp .neq 46 (.agg (ndC x)) (.agg (ndC y))).run Try.prog w = .ok (.bool (!decide (x = y))) w := by
  have h := equal_nd x y w
  unfold ndC at h ⊢
  simp only [binOp]
  simp [h]
theorem eqGuard_neq_nd (o1 o2 : Operand) (x y : Nd) (w : World) : (eqGuard .neq 46 o1 o2 (.agg (ndC x)) (.agg (ndC y))).run Try.prog w = .ok () w := by
  unfold ndC; simp [eqGuard, go_sem]
end Go.Proofs.Ytnhcbldcfcibiaa
/- Same of nodes: walked. -/
namespace Go.Proofs.Ytnhcbldcfcibiaa
open Go Go.RowKit
set_option linter.unusedVariables false

def At10 (w : World) (b o : Nat) (x : Nd) : Prop := w.cell? ⟨b, o, none⟩ = some (.int .i64 x.kind) ∧ w.cell? ⟨b, o + 1, none⟩ = some (.int .i64 x.a) ∧ w.cell? ⟨b, o + 2, none⟩ = some (.int .i64 x.b) ∧ w.cell? ⟨b, o + 3, none⟩ = some (.int .i64 x.lo) ∧ w.cell? ⟨b, o + 4, none⟩ = some (.int .i64 x.hi) ∧ w.cell? ⟨b, o + 5, none⟩ = some (.int .u64 (wd x.cls 0)) ∧ w.cell? ⟨b, o + 6, none⟩ = some (.int .u64 (wd x.cls 1)) ∧ w.cell? ⟨b, o + 7, none⟩ = some (.int .u64 (wd x.cls 2)) ∧ w.cell? ⟨b, o + 8, none⟩ = some (.int .u64 (wd x.cls 3)) ∧ w.cell? ⟨b, o + 9, none⟩ = some (.string (bs x.text))
theorem NRow.at {w : World} {A : Option Addr} {a : List Nd} (h : NRow w A a) {i : Nat} (hi : i < a.length) {b o : Nat} (hA : A = some ⟨b, o, none⟩) : At10 w b (o + i * 10) (a.getD i nd0) := by
  obtain ⟨b', o', h1, _, h2⟩ := h i hi
  rw [hA] at h1; cases h1
  exact ⟨h2 0 (by omega), h2 1 (by omega), h2 2 (by omega), h2 3 (by omega), h2 4 (by omega), h2 5 (by omega), h2 6 (by omega), h2 7 (by omega), h2 8 (by omega), h2 9 (by omega)⟩
end Go.Proofs.Ytnhcbldcfcibiaa
/- Nodes laid behind others: walked. -/
namespace Go.Proofs.Ytnhcbldcfcibiaa
open Go Go.RowKit
set_option linter.unusedVariables false
set_option linter.unusedSimpArgs false

theorem NRow.below {w w' : World} {a : Option Addr} {l : List Nd} {B : Nat} (h : NRow w a l) (ha : ∀ b o, a = some ⟨b, o, none⟩ → b < B) (hb : Below B w w') (hs : w.heap.size ≤ w'.heap.size) : NRow w' a l := fun i hi => by
  obtain ⟨b, off, h1, hlt, hc⟩ := h i hi
  exact ⟨b, off, h1, Nat.lt_of_lt_of_le hlt hs, fun j hj => (hb.cell (p := ⟨b, off + i * 10 + j, none⟩) (ha b off h1)).trans (hc j hj)⟩
end Go.Proofs.Ytnhcbldcfcibiaa
