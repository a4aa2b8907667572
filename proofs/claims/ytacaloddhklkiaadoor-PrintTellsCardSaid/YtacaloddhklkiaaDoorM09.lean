/- Nodes: the same, or not. -/
import Derived.Test.YtacaloddhklkiaaDoorM08
import Derived.Test.YtacaloddhklkiaaDoorM03
import Derived.Test.YtacaloddhklkiaaDoorM06
import Derived.Laws.StructEq
namespace Go.Proofs.YtacaloddhklkiaaDoor
open Go Go.RowKit
set_option linter.unusedVariables false
set_option linter.unusedSimpArgs false

set_option maxRecDepth 100000 in
set_option maxHeartbeats 4000000 in
theorem equal_nd (x y : Nd) (w : World) : (Op.equal 43 (.agg (ndC x)) (.agg (ndC y))).run Tryd.prog w = .ok (decide (x = y)) w := by
  have hu : Tryd.prog.underlying 43 = some (.struct (Tryd.prog.fieldsOf 43)) := by kernel_rfl
  show (Op.equalIn (9999 + 1) 43 _ _).run Tryd.prog w = _
  rw [run_equalIn_struct w 9999 _ _ _ hu (by kernel_rfl)]
  simp only [Program.fieldsOf, Tryd.underlying43]
  have hc : ∀ w, (Op.equalIn 9999 27 (.agg #[.int .u64 (wd x.cls 0), .int .u64 (wd x.cls 1), .int .u64 (wd x.cls 2), .int .u64 (wd x.cls 3)]) (.agg #[.int .u64 (wd y.cls 0), .int .u64 (wd y.cls 1), .int .u64 (wd y.cls 2), .int .u64 (wd y.cls 3)])).run Tryd.prog w = .ok (x.cls == y.cls) w := fun w => equalIn_cls 9997 x.cls y.cls w
  have hi : ∀ (a b : Int) w, (Op.equalIn 9999 3 (.int .i64 a) (.int .i64 b)).run Tryd.prog w = .ok (a == b) w := fun a b w => equalIn_i64 9998 a b w
  have hs : ∀ (a b : ByteArray) w, (Op.equalIn 9999 9 (.string a) (.string b)).run Tryd.prog w = .ok (a == b) w := fun a b w => equalIn_str 9998 a b w
  unfold ndC
  simp [Op.eqFields, part, go_sem, hc, hi, hs]
  rw [bs_beq]
  clear hc hi hs hu
  by_cases h1 : x.kind = y.kind
  · by_cases h2 : x.a = y.a
    · by_cases h3 : x.b = y.b
      · by_cases h4 : x.lo = y.lo
        · by_cases h5 : x.hi = y.hi
          · by_cases h6 : x.cls = y.cls
            · by_cases h7 : x.text = y.text
              · have : x = y := by cases x; cases y; simp_all
                simp [this]
              · have : x ≠ y := fun e => h7 (by rw [e])
                simp [h1, h2, h3, h4, h5, h6, h7, this] <;> (try (intros; omega))
            · have : x ≠ y := fun e => h6 (by rw [e])
              simp [h1, h2, h3, h4, h5, h6, this] <;> (try (intros; omega))
          · have : x ≠ y := fun e => h5 (by rw [e])
            simp [h1, h2, h3, h4, h5, this] <;> (try (intros; omega))
        · have : x ≠ y := fun e => h4 (by rw [e])
          simp [h1, h2, h3, h4, this] <;> (try (intros; omega))
      · have : x ≠ y := fun e => h3 (by rw [e])
        simp [h1, h2, h3, this] <;> (try (intros; omega))
    · have : x ≠ y := fun e => h2 (by rw [e])
      simp [h1, h2, this] <;> (try (intros; omega))
  · have : x ≠ y := fun e => h1 (by rw [e])
    simp [h1, this] <;> (try (intros; omega))
theorem eql_nd (x y : Nd) (w : World) : (binOp .eql 43 (.agg (ndC x)) (.agg (ndC y))).run Tryd.prog w = .ok (.bool (decide (x = y))) w := by
  have h := equal_nd x y w
  unfold ndC at h ⊢
  simp only [binOp]
  simp [h]
theorem neq_nd (x y : Nd) (w : World) : (binOp .neq 43 (.agg (ndC x)) (.agg (ndC y))).run Tryd.prog w = .ok (.bool (!decide (x = y))) w := by
  have h := equal_nd x y w
  unfold ndC at h ⊢
  simp only [binOp]
  simp [h]
theorem eqGuard_eql_nd (o1 o2 : Operand) (x y : Nd) (w : World) : (eqGuard .eql 43 o1 o2 (.agg (ndC x)) (.agg (ndC y))).run Tryd.prog w = .ok () w := by
  unfold ndC; simp [eqGuard, go_sem]
theorem eqGuard_neq_nd (o1 o2 : Operand) (x y : Nd) (w : World) : (eqGuard .neq 43 o1 o2 (.agg (ndC x)) (.agg (ndC y))).run Tryd.prog w = .ok () w := by
  unfold ndC; simp [eqGuard, go_sem]
end Go.Proofs.YtacaloddhklkiaaDoor
/- Same of nodes: walked. -/
namespace Go.Proofs.YtacaloddhklkiaaDoor
open Go Go.RowKit
set_option linter.unusedVariables false

/-- Alike so far. -/
def likeN (a b : List Nd) (k : Nat) : Bool := (List.range k).all fun i => decide (a.getD i nd0 = b.getD i nd0)
theorem likeN_succ (a b : List Nd) (k : Nat) : likeN a b (k + 1) = (likeN a b k && decide (a.getD k nd0 = b.getD k nd0)) := by
  unfold likeN; rw [List.range_succ, List.all_append]; simp
theorem likeN_all {a b : List Nd} (h : a.length = b.length) : likeN a b a.length = decide (a = b) := by
  unfold likeN
  rw [Bool.eq_iff_iff, List.all_eq_true, decide_eq_true_iff]
  constructor
  · intro hx
    apply List.ext_getElem h
    intro i h1 h2
    have := hx i (List.mem_range.2 h1)
    simpa [h1, h2] using this
  · rintro rfl i _; simp
structure EqN (w0 : World) (A B : Option Addr) (a b : List Nd) (w : World) : Prop where
  bel : Below w0.heap.size w0 w
  ra : NRow w A a
  rb : NRow w B b
theorem EqN.later {w0 w w' : World} {A B : Option Addr} {a b : List Nd} (h : EqN w0 A B a b w) (hb : Below w.heap.size w w') : EqN w0 A B a b w' := ⟨h.bel.trans (hb.mono h.bel.size), h.ra.later hb, h.rb.later hb⟩
def EqLN (w0 : World) (A B : Option Addr) (a b : List Nd) (i : Value) (w : World) : Prop := ∃ k : Nat, k ≤ a.length ∧ i = .int .i64 (k : Int) ∧ likeN a b k = true ∧ EqN w0 A B a b w
def At10 (w : World) (b o : Nat) (x : Nd) : Prop := w.cell? ⟨b, o, none⟩ = some (.int .i64 x.kind) ∧ w.cell? ⟨b, o + 1, none⟩ = some (.int .i64 x.a) ∧ w.cell? ⟨b, o + 2, none⟩ = some (.int .i64 x.b) ∧ w.cell? ⟨b, o + 3, none⟩ = some (.int .i64 x.lo) ∧ w.cell? ⟨b, o + 4, none⟩ = some (.int .i64 x.hi) ∧ w.cell? ⟨b, o + 5, none⟩ = some (.int .u64 (wd x.cls 0)) ∧ w.cell? ⟨b, o + 6, none⟩ = some (.int .u64 (wd x.cls 1)) ∧ w.cell? ⟨b, o + 7, none⟩ = some (.int .u64 (wd x.cls 2)) ∧ w.cell? ⟨b, o + 8, none⟩ = some (.int .u64 (wd x.cls 3)) ∧ w.cell? ⟨b, o + 9, none⟩ = some (.string (bs x.text))
theorem NRow.at {w : World} {A : Option Addr} {a : List Nd} (h : NRow w A a) {i : Nat} (hi : i < a.length) {b o : Nat} (hA : A = some ⟨b, o, none⟩) : At10 w b (o + i * 10) (a.getD i nd0) := by
  obtain ⟨b', o', h1, _, h2⟩ := h i hi
  rw [hA] at h1; cases h1
  exact ⟨h2 0 (by omega), h2 1 (by omega), h2 2 (by omega), h2 3 (by omega), h2 4 (by omega), h2 5 (by omega), h2 6 (by omega), h2 7 (by omega), h2 8 (by omega), h2 9 (by omega)⟩
end Go.Proofs.YtacaloddhklkiaaDoor
/- Nodes laid behind others: walked. -/
namespace Go.Proofs.YtacaloddhklkiaaDoor
open Go Go.RowKit
set_option linter.unusedVariables false
set_option linter.unusedSimpArgs false

/-- A node that may be moved so far. -/
structure MvOk (d : Int) (n : Nd) : Prop where
  txt : n.text.length ≤ 281474976710656
  fa : partK n.kind → IntKind.i64.wrap (n.a + d) = n.a + d
  fb : n.kind = 4 ∨ n.kind = 5 → IntKind.i64.wrap (n.b + d) = n.b + d
theorem zwd (j : Nat) : wd 0#256 j = 0 := by unfold wd; simp
structure LaidS (w0 : World) (base : Nat) (A : Option Addr) (m : List Nd) (lst : Value) (L : List Nd) (w : World) : Prop where
  bel : Below base w0 w
  own : OwnN w base lst L
  row : NRow w A m
  low : base ≤ w.heap.size
theorem LaidS.later {w0 w w' : World} {base : Nat} {A : Option Addr} {m L : List Nd} {lst : Value} (h : LaidS w0 base A m lst L w) (hb : Below w.heap.size w w') : LaidS w0 base A m lst L w' :=
  ⟨h.bel.trans (hb.mono h.low), h.own.later hb, h.row.later hb, Nat.le_trans h.low hb.size⟩
theorem NRow.below {w w' : World} {a : Option Addr} {l : List Nd} {B : Nat} (h : NRow w a l) (ha : ∀ b o, a = some ⟨b, o, none⟩ → b < B) (hb : Below B w w') (hs : w.heap.size ≤ w'.heap.size) : NRow w' a l := fun i hi => by
  obtain ⟨b, off, h1, hlt, hc⟩ := h i hi
  exact ⟨b, off, h1, Nat.lt_of_lt_of_le hlt hs, fun j hj => (hb.cell (p := ⟨b, off + i * 10 + j, none⟩) (ha b off h1)).trans (hc j hj)⟩
def LaidL (w0 : World) (base : Nat) (A : Option Addr) (l0 m : List Nd) (d : Int) (lst i : Value) (w : World) : Prop :=
  ∃ k : Nat, k ≤ m.length ∧ i = .int .i64 (k : Int) ∧ LaidS w0 base A m lst (l0 ++ (m.take k).map (mvN d)) w
def LaidPost (w0 : World) (base : Nat) (L : List Nd) (e : Ending) (w' : World) : Prop := ∃ v, e = .returned v ∧ OwnN w' base v L ∧ Below base w0 w'
end Go.Proofs.YtacaloddhklkiaaDoor
/- The first part of a node, the first one of a node's: walked. -/
namespace Go.Proofs.YtacaloddhklkiaaDoor
open Go Go.RowKit
set_option linter.unusedVariables false
set_option linter.unusedSimpArgs false

structure FstS (w0 : World) (A : Option Addr) (l : List Nd) (c : Nat) (w : World) : Prop where
  bel : Below w0.heap.size w0 w
  row : NRow w A l
  box : Blk w w0.heap.size #[.slice A l.length c] 24
theorem FstS.later {w0 w w' : World} {A : Option Addr} {l : List Nd} {c : Nat} (h : FstS w0 A l c w) (hb : Below w.heap.size w w') : FstS w0 A l c w' :=
  ⟨h.bel.trans (hb.mono h.bel.size), h.row.later hb, h.box.later hb⟩
def FstL (w0 : World) (A : Option Addr) (l : List Nd) (c i0 : Nat) (i : Value) (w : World) : Prop := ∃ k : Nat, k < l.length ∧ i = .int .i64 (k : Int) ∧ firstP l k = firstP l i0 ∧ FstS w0 A l c w
end Go.Proofs.YtacaloddhklkiaaDoor
