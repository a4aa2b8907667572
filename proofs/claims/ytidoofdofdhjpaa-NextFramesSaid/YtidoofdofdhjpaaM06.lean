/- Rows of tokens in memory. -/
import Derived.Test.YtidoofdofdhjpaaM05
import Derived.Test.YtidoofdofdhjpaaM04
import Derived.Test.YtidoofdofdhjpaaM03
import Derived.Laws.AppendOwn
import Derived.Laws.StructEq
namespace Go.Proofs.Ytidoofdofdhjpaa
open Go Go.RowKit
set_option linter.unusedVariables false
set_option linter.unusedSimpArgs false
theorem equalIn_cls (d : Nat) (x y : BitVec 256) (w : World) : (Op.equalIn (d + 2) 35 (cls x) (cls y)).run Try.prog w = .ok (x == y) w := by
 obtain ⟨i, hi⟩ : ∃ i, Try.prog.info? 33 = some i := Option.isSome_iff_exists.1 (by kernel_rfl)
 have hc : Try.prog.cellsOf 33 = 1 := by kernel_rfl
 unfold cls
 rw [<- beq_words]
 rw [show d + 2 = (d + 1) + 1 from rfl, run_equalIn_array w (d + 1) _ _ Try.underlying35 hi, hc]
 rw [show List.range 4 = [0, 1, 2, 3] from rfl]
 simp [Op.eqItems, part, go_sem, equalIn_u64 d]
 by_cases e0 : wd x 0 = wd y 0 <;> by_cases e1 : wd x 1 = wd y 1 <;> by_cases e2 : wd x 2 = wd y 2 <;> by_cases e3 : wd x 3 = wd y 3 <;> simp [e0, e1, e2, e3] <;> omega
theorem bs_beq (a b : List UInt8) : (bs a == bs b) = decide (a = b) := by
 rw [beq_toListBytes, Lib.toList_data, Lib.toList_data, bs_data, bs_data]
 rw [Bool.eq_iff_iff, beq_iff_eq, decide_eq_true_iff]
theorem equalIn_i64 (d : Nat) (a b : Int) (w : World) : (Op.equalIn (d + 1) 3 (.int .i64 a) (.int .i64 b)).run Try.prog w = .ok (a == b) w := by
 simp [Op.equalIn, go_sem]
theorem equalIn_str (d : Nat) (a b : ByteArray) (w : World) : (Op.equalIn (d + 1) 9 (.string a) (.string b)).run Try.prog w = .ok (a == b) w := by
 simp [Op.equalIn, go_sem]
def flat10 : List Nd -> List Value
 | [] => []
 | t :: l => (ndC t).toList ++ flat10 l
theorem ndC_size (t : Nd) : (ndC t).toList.length = 10 := rfl
theorem flat10_length : ∀ l, (flat10 l).length = l.length * 10
 | [] => rfl
 | s :: l => by simp only [flat10, List.length_append, ndC_size, List.length_cons, flat10_length l]; omega
theorem flat10_append : ∀ l m, flat10 (l ++ m) = flat10 l ++ flat10 m
 | [], _ => rfl
 | s :: l, m => by simp only [List.cons_append, flat10, flat10_append l m, List.append_assoc]
theorem flat10_get : ∀ (l : List Nd) (i j : Nat), i < l.length -> j < 10 -> (flat10 l)[i * 10 + j]? = (ndC (l.getD i nd0))[j]?
 | [], i, j, hi, _ => by simp at hi
 | s :: l, 0, j, _, hj => by
  show ((ndC s).toList ++ flat10 l)[0 * 10 + j]? = _
  rw [Nat.zero_mul, Nat.zero_add, List.getElem?_append_left (by rw [ndC_size]; exact hj)]; simp
 | s :: l, i + 1, j, hi, hj => by
  have ih := flat10_get l i j (by simpa using hi) hj
  show ((ndC s).toList ++ flat10 l)[(i + 1) * 10 + j]? = _
  rw [List.getElem?_append_right (by rw [ndC_size]; omega), ndC_size, show (i + 1) * 10 + j - 10 = i * 10 + j by omega, ih]
  simp
def NRow (w : World) (a : Option Addr) (l : List Nd) : Prop :=
 ∀ i, i < l.length -> ∃ b off, a = some ⟨b, off, none⟩ /\ b < w.heap.size /\ ∀ j, j < 10 -> w.cell? ⟨b, off + i * 10 + j, none⟩ = (ndC (l.getD i nd0))[j]?
theorem NRow.later {w w' : World} {a : Option Addr} {l : List Nd} (h : NRow w a l) (hb : Below w.heap.size w w') : NRow w' a l := fun i hi => by
 obtain ⟨b, off, ha, hlt, hc⟩ := h i hi
 exact ⟨b, off, ha, Nat.lt_of_lt_of_le hlt hb.size, fun j hj => (hb.cell (p := ⟨b, off + i * 10 + j, none⟩) hlt).trans (hc j hj)⟩
theorem NRow.nil (w : World) (a : Option Addr) : NRow w a [] := fun i hi => by simp at hi
def OwnN (w : World) (base : Nat) (v : Value) (l : List Nd) : Prop := w.ownsRow base 58 10 v l.length (flat10 l)
theorem OwnN.nil (w : World) (base : Nat) : OwnN w base (.slice none 0 0) [] := ⟨rfl, .inl ⟨rfl, rfl⟩⟩
theorem OwnN.later {w w' : World} {base : Nat} {v : Value} {l : List Nd} (h : OwnN w base v l) (hb : Below w.heap.size w w') : OwnN w' base v l := ownsRow_later h hb
theorem OwnN.row {w : World} {base : Nat} {v : Value} {l : List Nd} (h : OwnN w base v l) : ∃ a cap, v = .slice a l.length cap /\ NRow w a l := by
 obtain ⟨_, ⟨hv, hn⟩ | ⟨g, cap, cur, hv, hb, hg, hc, hm, hs, ht⟩⟩ := h
 ·have : l = [] := List.length_eq_zero_iff.1 hn
  subst this
  exact ⟨none, 0, hv, NRow.nil _ _⟩
 ·refine ⟨_, cap, hv, fun i hi => ⟨g, 0, rfl, Blk.lt (w := w) (b := g) (vs := cur) (t := 58) hg, fun j hj => ?_⟩⟩
  have hc2 := Blk.cell (w := w) (b := g) (vs := cur) (t := 58) hg (i * 10 + j)
  rw [Nat.zero_add, hc2, <- flat10_get l i j hi hj, <- ht, List.getElem?_take, if_pos (by omega)]
  simp
theorem infoNd : (Try.prog.info? 58).map (fun i => (i.zero, i.size, i.bytes)) = some (some (.agg z10), 10, 88) := by kernel_rfl
theorem wp_append_nd {w : World} {o : Oper} {a : Act} {K : Act -> World -> Prop} {Q : Exit -> Act -> World -> Prop} (s x : Operand)
 (ho : o.op = .call { callee := .builtin .append, args := #[s, x], argTypes := #[22, 22] })
 (base : Nat) (v : Value) (l : List Nd) (hs : a.eval s = v) (hown : OwnN w base v l)
 (b : Nat) (t : Nd) (hx : a.eval x = .slice (some ⟨b, 0, none⟩) 1 1) (hnew : Blk w b (ndC t) 58) (hlen : l.length < 1073741824) (hbase : base <= w.heap.size)
 (h : ∀ v' w', OwnN w' base v' (l ++ [t]) -> (∀ B, B <= base -> Below B w w') -> K (a.put o.dst v') w') : o.wp Try.prog a w K Q := by
 obtain ⟨ib, hib, hz0, hz1, hz2⟩ := info_parts infoNd
 have hf1 : flat10 [t] = (ndC t).toList := by simp [flat10]
 have hnews : ∀ (j : Nat) (u : Value), (flat10 [t])[j]? = some u -> w.cell? ((⟨b, 0, none⟩ : Addr).add j) = some u := by
  intro j u hu
  have hadd : (⟨b, 0, none⟩ : Addr).add j = ⟨b, j, none⟩ := by unfold Addr.add; split <;> simp_all
  rw [hf1] at hu
  rw [hadd, hnew.cell, <- hu]; simp
 have hone : ∀ u ∈ flat10 [t], u.oneCell' = true := by
  intro u hu
  rw [hf1] at hu
  simp only [ndC, List.mem_cons, List.not_mem_nil, or_false] at hu
  rcases hu with rfl | rfl | rfl | rfl | rfl | rfl | rfl | rfl | rfl | rfl <;> rfl
 obtain ⟨v', w', hr, h2, h3, _⟩ := run_append_own (P := Try.prog) w base 22 o.type 58 ib _ 10 88 Try.underlying22 hib hz0 hz1 hz2 rfl (by decide) v l.length (flat10 l) hown ⟨b, 0, none⟩ 1 1 (flat10 [t]) rfl hnews hone (by unfold maxLen; omega) (by omega) hbase
 have h2' : OwnN w' base v' (l ++ [t]) := by unfold OwnN; rw [List.length_append, flat10_append]; exact h2
 unfold Oper.wp execOp
 simp only [ho, resolve, invoke, builtin, Sem.run_bind, Sem.run_pure, Result.andThen_ok, List.map_toArray, List.map_cons, List.map_nil, hs, hx, hr]
 exact h v' w' h2' fun B hB => (Below.refl B w).grown h3 (Nat.le_trans hB hbase) fun k hk => Nat.le_trans hB ((World.ownsRow.lt hown k hk).1)
theorem wpList_append_nd {w : World} {ops : Array Oper} {rest : List Oper} {o : Oper} {a : Act} {Q : Exit -> Act -> World -> Prop} (hgd : o.guard = none) (s x : Operand)
 (ho : o.op = .call { callee := .builtin .append, args := #[s, x], argTypes := #[22, 22] })
 (base : Nat) (v : Value) (l : List Nd) (hs : a.eval s = v) (hown : OwnN w base v l)
 (b : Nat) (t : Nd) (hx : a.eval x = .slice (some ⟨b, 0, none⟩) 1 1) (hnew : Blk w b (ndC t) 58) (hlen : l.length < 1073741824) (hbase : base <= w.heap.size)
 (h : ∀ v' w', OwnN w' base v' (l ++ [t]) -> (∀ B, B <= base -> Below B w w') -> wpList Try.prog ops Q rest (a.put o.dst v') w') : wpList Try.prog ops Q (o :: rest) a w :=
 wpList_plain hgd fun K hK => wp_append_nd s x ho base v l hs hown b t hx hnew hlen hbase fun v' w' h1 h2 => hK _ _ (h v' w' h1 h2)
set_option maxRecDepth 100000 in
set_option maxHeartbeats 4000000 in
theorem equal_nd (x y : Nd) (w : World) : (Op.equal 58 (.agg (ndC x)) (.agg (ndC y))).run Try.prog w = .ok (decide (x = y)) w := by
 have hu : Try.prog.underlying 58 = some (.struct (Try.prog.fieldsOf 58)) := by kernel_rfl
 show (Op.equalIn (9999 + 1) 58 _ _).run Try.prog w = _
 rw [run_equalIn_struct w 9999 _ _ _ hu (by kernel_rfl)]
 simp only [Program.fieldsOf, Try.underlying58]
 have hc : ∀ w, (Op.equalIn 9999 35 (.agg #[.int .u64 (wd x.cls 0), .int .u64 (wd x.cls 1), .int .u64 (wd x.cls 2), .int .u64 (wd x.cls 3)]) (.agg #[.int .u64 (wd y.cls 0), .int .u64 (wd y.cls 1), .int .u64 (wd y.cls 2), .int .u64 (wd y.cls 3)])).run Try.prog w = .ok (x.cls == y.cls) w := fun w => equalIn_cls 9997 x.cls y.cls w
 have hi : ∀ (a b : Int) w, (Op.equalIn 9999 3 (.int .i64 a) (.int .i64 b)).run Try.prog w = .ok (a == b) w := fun a b w => equalIn_i64 9998 a b w
 have hs : ∀ (a b : ByteArray) w, (Op.equalIn 9999 9 (.string a) (.string b)).run Try.prog w = .ok (a == b) w := fun a b w => equalIn_str 9998 a b w
 unfold ndC
 simp [Op.eqFields, part, go_sem, hc, hi, hs]
 rw [bs_beq]
 clear hc hi hs hu
 by_cases h1 : x.kind = y.kind
 ·by_cases h2 : x.a = y.a
  ·by_cases h3 : x.b = y.b
   ·by_cases h4 : x.lo = y.lo
    ·by_cases h5 : x.hi = y.hi
     ·by_cases h6 : x.cls = y.cls
      ·by_cases h7 : x.text = y.text
       ·have : x = y := by cases x; cases y; simp_all
        simp [this]
       ·have : x ≠ y := fun e => h7 (by rw [e])
        simp [h1, h2, h3, h4, h5, h6, h7, this] <;> (try (intros; omega))
      ·have : x ≠ y := fun e => h6 (by rw [e])
       simp [h1, h2, h3, h4, h5, h6, this] <;> (try (intros; omega))
     ·have : x ≠ y := fun e => h5 (by rw [e])
      simp [h1, h2, h3, h4, h5, this] <;> (try (intros; omega))
    ·have : x ≠ y := fun e => h4 (by rw [e])
     simp [h1, h2, h3, h4, this] <;> (try (intros; omega))
   ·have : x ≠ y := fun e => h3 (by rw [e])
    simp [h1, h2, h3, this] <;> (try (intros; omega))
  ·have : x ≠ y := fun e => h2 (by rw [e])
   simp [h1, h2, this] <;> (try (intros; omega))
 ·have : x ≠ y := fun e => h1 (by rw [e])
  simp [h1, this] <;> (try (intros; omega))
theorem neq_nd (x y : Nd) (w : World) : (binOp .neq 58 (.agg (ndC x)) (.agg (ndC y))).run Try.prog w = .ok (.bool (!decide (x = y))) w := by
 have h := equal_nd x y w
 unfold ndC at h ⊢
 simp only [binOp]
 simp [h]
theorem eqGuard_neq_nd (o1 o2 : Operand) (x y : Nd) (w : World) : (eqGuard .neq 58 o1 o2 (.agg (ndC x)) (.agg (ndC y))).run Try.prog w = .ok () w := by
 unfold ndC; simp [eqGuard, go_sem]
def At10 (w : World) (b o : Nat) (x : Nd) : Prop := w.cell? ⟨b, o, none⟩ = some (.int .i64 x.kind) /\ w.cell? ⟨b, o + 1, none⟩ = some (.int .i64 x.a) /\ w.cell? ⟨b, o + 2, none⟩ = some (.int .i64 x.b) /\ w.cell? ⟨b, o + 3, none⟩ = some (.int .i64 x.lo) /\ w.cell? ⟨b, o + 4, none⟩ = some (.int .i64 x.hi) /\ w.cell? ⟨b, o + 5, none⟩ = some (.int .u64 (wd x.cls 0)) /\ w.cell? ⟨b, o + 6, none⟩ = some (.int .u64 (wd x.cls 1)) /\ w.cell? ⟨b, o + 7, none⟩ = some (.int .u64 (wd x.cls 2)) /\ w.cell? ⟨b, o + 8, none⟩ = some (.int .u64 (wd x.cls 3)) /\ w.cell? ⟨b, o + 9, none⟩ = some (.string (bs x.text))
theorem NRow.at {w : World} {A : Option Addr} {a : List Nd} (h : NRow w A a) {i : Nat} (hi : i < a.length) {b o : Nat} (hA : A = some ⟨b, o, none⟩) : At10 w b (o + i * 10) (a.getD i nd0) := by
 obtain ⟨b', o', h1, _, h2⟩ := h i hi
 rw [hA] at h1; cases h1
 exact ⟨h2 0 (by omega), h2 1 (by omega), h2 2 (by omega), h2 3 (by omega), h2 4 (by omega), h2 5 (by omega), h2 6 (by omega), h2 7 (by omega), h2 8 (by omega), h2 9 (by omega)⟩
structure MvOk (d : Int) (n : Nd) : Prop where
 txt : n.text.length <= 281474976710656
 fa : partK n.kind -> IntKind.i64.wrap (n.a + d) = n.a + d
 fb : n.kind = 4 \/ n.kind = 5 -> IntKind.i64.wrap (n.b + d) = n.b + d
structure LaidS (w0 : World) (base : Nat) (A : Option Addr) (m : List Nd) (lst : Value) (L : List Nd) (w : World) : Prop where
 bel : Below base w0 w
 own : OwnN w base lst L
 row : NRow w A m
 low : base <= w.heap.size
theorem LaidS.later {w0 w w' : World} {base : Nat} {A : Option Addr} {m L : List Nd} {lst : Value} (h : LaidS w0 base A m lst L w) (hb : Below w.heap.size w w') : LaidS w0 base A m lst L w' :=
 ⟨h.bel.trans (hb.mono h.low), h.own.later hb, h.row.later hb, Nat.le_trans h.low hb.size⟩
theorem NRow.below {w w' : World} {a : Option Addr} {l : List Nd} {B : Nat} (h : NRow w a l) (ha : ∀ b o, a = some ⟨b, o, none⟩ -> b < B) (hb : Below B w w') (hs : w.heap.size <= w'.heap.size) : NRow w' a l := fun i hi => by
 obtain ⟨b, off, h1, hlt, hc⟩ := h i hi
 exact ⟨b, off, h1, Nat.lt_of_lt_of_le hlt hs, fun j hj => (hb.cell (p := ⟨b, off + i * 10 + j, none⟩) (ha b off h1)).trans (hc j hj)⟩
def LaidL (w0 : World) (base : Nat) (A : Option Addr) (l0 m : List Nd) (d : Int) (lst i : Value) (w : World) : Prop :=
 ∃ k : Nat, k <= m.length /\ i = .int .i64 (k : Int) /\ LaidS w0 base A m lst (l0 ++ (m.take k).map (mvN d)) w
def LaidPost (w0 : World) (base : Nat) (L : List Nd) (e : Ending) (w' : World) : Prop := ∃ v, e = .returned v /\ OwnN w' base v L /\ Below base w0 w'
end Go.Proofs.Ytidoofdofdhjpaa
