/- Tokens: the same, or not. -/
import Derived.Test.YtgehepiphdphjaaDoorTokRow
import Derived.Laws.StructEq
namespace Go.Proofs.YtgehepiphdphjaaDoor
open Go Go.RowKit
set_option linter.unusedVariables false
set_option linter.unusedSimpArgs false

theorem equalIn_cls (d : Nat) (x y : BitVec 256) (w : World) : (Op.equalIn (d + 2) 29 (cls x) (cls y)).run Tryd.prog w = .ok (x == y) w := by
  obtain ⟨i, hi⟩ : ∃ i, Tryd.prog.info? 27 = some i := Option.isSome_iff_exists.1 (by kernel_rfl)
  have hc : Tryd.prog.cellsOf 27 = 1 := by kernel_rfl
  unfold cls
  rw [← beq_words]
  rw [show d + 2 = (d + 1) + 1 from rfl, run_equalIn_array w (d + 1) _ _ Tryd.underlying29 hi, hc]
  rw [show List.range 4 = [0, 1, 2, 3] from rfl]
  simp [Op.eqItems, part, go_sem, equalIn_u64 d]
  by_cases e0 : wd x 0 = wd y 0 <;> by_cases e1 : wd x 1 = wd y 1 <;> by_cases e2 : wd x 2 = wd y 2 <;> by_cases e3 : wd x 3 = wd y 3 <;> simp [e0, e1, e2, e3] <;> omega
theorem bs_beq (a b : List UInt8) : (bs a == bs b) = decide (a = b) := by
  rw [beq_toListBytes, Lib.toList_data, Lib.toList_data, bs_data, bs_data]
  rw [Bool.eq_iff_iff, beq_iff_eq, decide_eq_true_iff]
theorem equalIn_i64 (d : Nat) (a b : Int) (w : World) : (Op.equalIn (d + 1) 3 (.int .i64 a) (.int .i64 b)).run Tryd.prog w = .ok (a == b) w := by
  simp [Op.equalIn, go_sem]
theorem equalIn_str (d : Nat) (a b : ByteArray) (w : World) : (Op.equalIn (d + 1) 9 (.string a) (.string b)).run Tryd.prog w = .ok (a == b) w := by
  simp [Op.equalIn, go_sem]
set_option maxRecDepth 100000 in
set_option maxHeartbeats 4000000 in
theorem equal_tok (x y : Tok) (w : World) : (Op.equal 71 (.agg (tokC x)) (.agg (tokC y))).run Tryd.prog w = .ok (decide (x = y)) w := by
  have hu : Tryd.prog.underlying 71 = some (.struct (Tryd.prog.fieldsOf 71)) := by kernel_rfl
  show (Op.equalIn (9999 + 1) 71 _ _).run Tryd.prog w = _
  rw [run_equalIn_struct w 9999 _ _ _ hu (by kernel_rfl)]
  simp only [Program.fieldsOf, Tryd.underlying71]
  have hc : ∀ w, (Op.equalIn 9999 29 (.agg #[.int .u64 (wd x.cls 0), .int .u64 (wd x.cls 1), .int .u64 (wd x.cls 2), .int .u64 (wd x.cls 3)]) (.agg #[.int .u64 (wd y.cls 0), .int .u64 (wd y.cls 1), .int .u64 (wd y.cls 2), .int .u64 (wd y.cls 3)])).run Tryd.prog w = .ok (x.cls == y.cls) w := fun w => equalIn_cls 9997 x.cls y.cls w
  have hi : ∀ (a b : Int) w, (Op.equalIn 9999 3 (.int .i64 a) (.int .i64 b)).run Tryd.prog w = .ok (a == b) w := fun a b w => equalIn_i64 9998 a b w
  have hs : ∀ (a b : ByteArray) w, (Op.equalIn 9999 9 (.string a) (.string b)).run Tryd.prog w = .ok (a == b) w := fun a b w => equalIn_str 9998 a b w
  unfold tokC
  simp [Op.eqFields, part, go_sem, hc, hi, hs]
  rw [bs_beq]
  clear hc hi hs hu
  by_cases h1 : x.kind = y.kind
  · by_cases h2 : x.at_ = y.at_
    · by_cases h3 : x.cls = y.cls
      · by_cases h4 : x.text = y.text
        · by_cases h5 : x.lo = y.lo
          · by_cases h6 : x.hi = y.hi
            · have : x = y := by cases x; cases y; simp_all
              simp [this]
            · have : x ≠ y := fun e => h6 (by rw [e])
              simp [h1, h2, h3, h4, h5, h6, this] <;> (try (intros; omega))
          · have : x ≠ y := fun e => h5 (by rw [e])
            simp [h1, h2, h3, h4, h5, this] <;> (try (intros; omega))
        · have : x ≠ y := fun e => h4 (by rw [e])
          simp [h1, h2, h3, h4, this] <;> (try (intros; omega))
      · have : x ≠ y := fun e => h3 (by rw [e])
        simp [h1, h2, h3, this] <;> (try (intros; omega))
    · have : x ≠ y := fun e => h2 (by rw [e])
      simp [h1, h2, this] <;> (try (intros; omega))
  · have : x ≠ y := fun e => h1 (by rw [e])
    simp [h1, this] <;> (try (intros; omega))
theorem eql_tok (x y : Tok) (w : World) : (binOp .eql 71 (.agg (tokC x)) (.agg (tokC y))).run Tryd.prog w = .ok (.bool (decide (x = y))) w := by
  have h := equal_tok x y w
  unfold tokC at h ⊢
  simp only [binOp]
  simp [h]
theorem neq_tok (x y : Tok) (w : World) : (binOp .neq 71 (.agg (tokC x)) (.agg (tokC y))).run Tryd.prog w = .ok (.bool (!decide (x = y))) w := by
  have h := equal_tok x y w
  unfold tokC at h ⊢
  simp only [binOp]
  simp [h]
theorem eqGuard_eql_tok (o1 o2 : Operand) (x y : Tok) (w : World) : (eqGuard .eql 71 o1 o2 (.agg (tokC x)) (.agg (tokC y))).run Tryd.prog w = .ok () w := by
  unfold tokC; simp [eqGuard, go_sem]
theorem eqGuard_neq_tok (o1 o2 : Operand) (x y : Tok) (w : World) : (eqGuard .neq 71 o1 o2 (.agg (tokC x)) (.agg (tokC y))).run Tryd.prog w = .ok () w := by
  unfold tokC; simp [eqGuard, go_sem]
end Go.Proofs.YtgehepiphdphjaaDoor
