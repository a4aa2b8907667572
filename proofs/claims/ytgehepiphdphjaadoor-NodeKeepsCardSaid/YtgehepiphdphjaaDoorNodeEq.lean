/- Nodes: the same, or not. -/
import Derived.Test.YtgehepiphdphjaaDoorNodeRow
import Derived.Laws.StructEq
namespace Go.Proofs.YtgehepiphdphjaaDoor
open Go Go.RowKit
set_option linter.unusedVariables false
set_option linter.unusedSimpArgs false

set_option maxRecDepth 100000 in
set_option maxHeartbeats 4000000 in
theorem equal_nd (x y : Nd) (w : World) : (Op.equal 59 (.agg (ndC x)) (.agg (ndC y))).run Tryd.prog w = .ok (decide (x = y)) w := by
  have hu : Tryd.prog.underlying 59 = some (.struct (Tryd.prog.fieldsOf 59)) := by kernel_rfl
  show (Op.equalIn (9999 + 1) 59 _ _).run Tryd.prog w = _
  rw [run_equalIn_struct w 9999 _ _ _ hu (by kernel_rfl)]
  simp only [Program.fieldsOf, Tryd.underlying59]
  have hc : ∀ w, (Op.equalIn 9999 29 (.agg #[.int .u64 (wd x.cls 0), .int .u64 (wd x.cls 1), .int .u64 (wd x.cls 2), .int .u64 (wd x.cls 3)]) (.agg #[.int .u64 (wd y.cls 0), .int .u64 (wd y.cls 1), .int .u64 (wd y.cls 2), .int .u64 (wd y.cls 3)])).run Tryd.prog w = .ok (x.cls == y.cls) w := fun w => equalIn_cls 9997 x.cls y.cls w
  have hi : ∀ (a b : Int) w, (Op.equalIn 9999 3 (.int .i64 a) (.int .i64 b)).run Tryd.prog w = .ok (a == b) w := fun a b w => equalIn_i64 9998 a b w
  have hs : ∀ (a b : ByteArray) w, (Op.equalIn 9999 9 (.string a) (.string b)).run Tryd.prog w = .ok (a == b) w := fun a b w => equalIn_str 9998 a b w
  unfold ndC
  simp [Op.eqFields, part, go_sem, hc, hi, hs]
  rw [bs_beq]
  clear hc hi hs hu
  by_cases h1 : x.kind = y.kind
  · by_cases h2 : x.a = y.a
    · by_cases h3 : x.b = y.b
      · by_cases h4 : x.lo = y.lo
        · by_cases h5 : x.hi = y.hi
          · by_cases h6 : x.cls = y.cls
            · by_cases h7 : x.text = y.text
              · have : x = y := by cases x; cases y; simp_all
                simp [this]
              · have : x ≠ y := fun e => h7 (by rw [e])
                simp [h1, h2, h3, h4, h5, h6, h7, this] <;> (try (intros; omega))
            · have : x ≠ y := fun e => h6 (by rw [e])
              simp [h1, h2, h3, h4, h5, h6, this] <;> (try (intros; omega))
          · have : x ≠ y := fun e => h5 (by rw [e])
            simp [h1, h2, h3, h4, h5, this] <;> (try (intros; omega))
        · have : x ≠ y := fun e => h4 (by rw [e])
          simp [h1, h2, h3, h4, this] <;> (try (intros; omega))
      · have : x ≠ y := fun e => h3 (by rw [e])
        simp [h1, h2, h3, this] <;> (try (intros; omega))
    · have : x ≠ y := fun e => h2 (by rw [e])
      simp [h1, h2, this] <;> (try (intros; omega))
  · have : x ≠ y := fun e => h1 (by rw [e])
    simp [h1, this] <;> (try (intros; omega))
theorem eql_nd (x y : Nd) (w : World) : (binOp .eql 59 (.agg (ndC x)) (.agg (ndC y))).run Tryd.prog w = .ok (.bool (decide (x = y))) w := by
  have h := equal_nd x y w
  unfold ndC at h ⊢
  simp only [binOp]
  simp [h]
theorem neq_nd (x y : Nd) (w : World) : (binOp .neq 59 (.agg (ndC x)) (.agg (ndC y))).run Tryd.prog w = .ok (.bool (!decide (x = y))) w := by
  have h := equal_nd x y w
  unfold ndC at h ⊢
  simp only [binOp]
  simp [h]
theorem eqGuard_eql_nd (o1 o2 : Operand) (x y : Nd) (w : World) : (eqGuard .eql 59 o1 o2 (.agg (ndC x)) (.agg (ndC y))).run Tryd.prog w = .ok () w := by
  unfold ndC; simp [eqGuard, go_sem]
theorem eqGuard_neq_nd (o1 o2 : Operand) (x y : Nd) (w : World) : (eqGuard .neq 59 o1 o2 (.agg (ndC x)) (.agg (ndC y))).run Tryd.prog w = .ok () w := by
  unfold ndC; simp [eqGuard, go_sem]
end Go.Proofs.YtgehepiphdphjaaDoor
