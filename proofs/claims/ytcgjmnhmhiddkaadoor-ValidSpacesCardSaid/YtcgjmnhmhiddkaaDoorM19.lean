/- Nodes: the same, or not. -/
import Derived.Test.YtcgjmnhmhiddkaaDoorM18
import Derived.Test.YtcgjmnhmhiddkaaDoorM03
import Derived.Laws.StructEq
namespace Go.Proofs.YtcgjmnhmhiddkaaDoor
open Go Go.RowKit
set_option linter.unusedVariables false
set_option linter.unusedSimpArgs false

set_option maxRecDepth 100000 in
set_option maxHeartbeats 4000000 in
theorem equal_nd (x y : Nd) (w : World) : (Op.equal 35 (.agg (ndC x)) (.agg (ndC y))).run Tryd.prog w = .ok (decide (x = y)) w := by
  have hu : Tryd.prog.underlying 35 = some (.struct (Tryd.prog.fieldsOf 35)) := by kernel_rfl
  show (Op.equalIn (9999 + 1) 35 _ _).run Tryd.prog w = _
  rw [run_equalIn_struct w 9999 _ _ _ hu (by kernel_rfl)]
  simp only [Program.fieldsOf, Tryd.underlying35]
  have hc : ∀ w, (Op.equalIn 9999 33 (.agg #[.int .u64 (wd x.cls 0), .int .u64 (wd x.cls 1), .int .u64 (wd x.cls 2), .int .u64 (wd x.cls 3)]) (.agg #[.int .u64 (wd y.cls 0), .int .u64 (wd y.cls 1), .int .u64 (wd y.cls 2), .int .u64 (wd y.cls 3)])).run Tryd.prog w = .ok (x.cls == y.cls) w := fun w => equalIn_cls 9997 x.cls y.cls w
  have hi : ∀ (a b : Int) w, (Op.equalIn 9999 3 (.int .i64 a) (.int .i64 b)).run Tryd.prog w = .ok (a == b) w := fun a b w => equalIn_i64 9998 a b w
  have hs : ∀ (a b : ByteArray) w, (Op.equalIn 9999 9 (.string a) (.string b)).run Tryd.prog w = .ok (a == b) w := fun a b w => equalIn_str 9998 a b w
  unfold ndC
  simp [Op.eqFields, part, go_sem, hc, hi, hs]
  rw [bs_beq]
  clear hc hi hs hu
  by_cases h1 : x.kind = y.kind
  · by_cases h2 : x.a = y.a
    · by_cases h3 : x.b = y.b
      · by_cases h4 : x.lo = y.lo
        · by_cases h5 : x.hi = y.hi
          · by_cases h6 : x.cls = y.cls
            · by_cases h7 : x.text = y.text
              · have : x = y := by cases x; cases y; simp_all
                simp [this]
              · have : x ≠ y := fun e => h7 (by rw [e])
                simp [h1, h2, h3, h4, h5, h6, h7, this] <;> (try (intros; omega))
            · have : x ≠ y := fun e => h6 (by rw [e])
              simp [h1, h2, h3, h4, h5, h6, this] <;> (try (intros; omega))
          · have : x ≠ y := fun e => h5 (by rw [e])
            simp [h1, h2, h3, h4, h5, this] <;> (try (intros; omega))
        · have : x ≠ y := fun e => h4 (by rw [e])
          simp [h1, h2, h3, h4, this] <;> (try (intros; omega))
      · have : x ≠ y := fun e => h3 (by rw [e])
        simp [h1, h2, h3, this] <;> (try (intros; omega))
    · have : x ≠ y := fun e => h2 (by rw [e])
      simp [h1, h2, this] <;> (try (intros; omega))
  · have : x ≠ y := fun e => h1 (by rw [e])
    simp [h1, this] <;> (try (intros; omega))
theorem neq_nd (x y : Nd) (w : World) : (binOp .neq 35 (.agg (ndC x)) (.agg (ndC y))).run Tryd.prog w = .ok (.bool (!decide (x = y))) w := by
  have h := equal_nd x y w
  unfold ndC at h ⊢
  simp only [binOp]
  simp [h]
theorem eqGuard_neq_nd (o1 o2 : Operand) (x y : Nd) (w : World) : (eqGuard .neq 35 o1 o2 (.agg (ndC x)) (.agg (ndC y))).run Tryd.prog w = .ok () w := by
  unfold ndC; simp [eqGuard, go_sem]
end Go.Proofs.YtcgjmnhmhiddkaaDoor
/- Same of nodes: walked. -/
namespace Go.Proofs.YtcgjmnhmhiddkaaDoor
open Go Go.RowKit
set_option linter.unusedVariables false

/-- Alike so far. -/
def likeN (a b : List Nd) (k : Nat) : Bool := (List.range k).all fun i => decide (a.getD i nd0 = b.getD i nd0)
theorem likeN_succ (a b : List Nd) (k : Nat) : likeN a b (k + 1) = (likeN a b k && decide (a.getD k nd0 = b.getD k nd0)) := by
  unfold likeN; rw [List.range_succ, List.all_append]; simp
theorem likeN_all {a b : List Nd} (h : a.length = b.length) : likeN a b a.length = decide (a = b) := by
  unfold likeN
  rw [Bool.eq_iff_iff, List.all_eq_true, decide_eq_true_iff]
  constructor
  · intro hx
    apply List.ext_getElem h
    intro i h1 h2
    have := hx i (List.mem_range.2 h1)
    simpa [h1, h2] using this
  · rintro rfl i _; simp
def At10 (w : World) (b o : Nat) (x : Nd) : Prop := w.cell? ⟨b, o, none⟩ = some (.int .i64 x.kind) ∧ w.cell? ⟨b, o + 1, none⟩ = some (.int .i64 x.a) ∧ w.cell? ⟨b, o + 2, none⟩ = some (.int .i64 x.b) ∧ w.cell? ⟨b, o + 3, none⟩ = some (.int .i64 x.lo) ∧ w.cell? ⟨b, o + 4, none⟩ = some (.int .i64 x.hi) ∧ w.cell? ⟨b, o + 5, none⟩ = some (.int .u64 (wd x.cls 0)) ∧ w.cell? ⟨b, o + 6, none⟩ = some (.int .u64 (wd x.cls 1)) ∧ w.cell? ⟨b, o + 7, none⟩ = some (.int .u64 (wd x.cls 2)) ∧ w.cell? ⟨b, o + 8, none⟩ = some (.int .u64 (wd x.cls 3)) ∧ w.cell? ⟨b, o + 9, none⟩ = some (.string (bs x.text))
theorem NRow.at {w : World} {A : Option Addr} {a : List Nd} (h : NRow w A a) {i : Nat} (hi : i < a.length) {b o : Nat} (hA : A = some ⟨b, o, none⟩) : At10 w b (o + i * 10) (a.getD i nd0) := by
  obtain ⟨b', o', h1, _, h2⟩ := h i hi
  rw [hA] at h1; cases h1
  exact ⟨h2 0 (by omega), h2 1 (by omega), h2 2 (by omega), h2 3 (by omega), h2 4 (by omega), h2 5 (by omega), h2 6 (by omega), h2 7 (by omega), h2 8 (by omega), h2 9 (by omega)⟩
end Go.Proofs.YtcgjmnhmhiddkaaDoor
/- Nodes laid behind others: walked. -/
namespace Go.Proofs.YtcgjmnhmhiddkaaDoor
open Go Go.RowKit
set_option linter.unusedVariables false
set_option linter.unusedSimpArgs false

/-- A node that may be moved so far. -/
structure MvOk (d : Int) (n : Nd) : Prop where
  txt : n.text.length ≤ 281474976710656
  fa : partK n.kind → IntKind.i64.wrap (n.a + d) = n.a + d
  fb : n.kind = 4 ∨ n.kind = 5 → IntKind.i64.wrap (n.b + d) = n.b + d
theorem moved_any (n : Nd) (d : Int) (h : MvOk d n) (w : World) : Calls Tryd.prog 85 #[.agg (ndC n), .int .i64 d] w (Ans w (.agg (ndC (mvN d n)))) := by
  obtain ⟨k, a, b, lo, hi, cls, text⟩ := n
  obtain ⟨h1, h2, h3⟩ := h
  simp only at h1 h2 h3
  have hs : (bs text).size ≤ 281474976710656 := by rw [bs_size]; exact h1
  unfold partK at h2
  by_cases c1 : k = 1
  · subst c1; exact moved_empty a b lo hi _ _ _ _ d (bs text) hs w
  by_cases c2 : k = 2
  · subst c2; exact moved_set a b lo hi _ _ _ _ d (bs text) hs w
  by_cases c3 : k = 3
  · subst c3; exact moved_text a b lo hi _ _ _ _ d (bs text) hs w
  by_cases c6 : k = 6 ∨ k = 8 ∨ k = 9
  · have e : mvN d ⟨k, a, b, lo, hi, cls, text⟩ = ⟨k, a + d, b, lo, hi, cls, text⟩ := by unfold mvN; rw [if_pos (by simp only; omega)]
    rw [e]; exact moved_one k a b lo hi _ _ _ _ d (bs text) c6 (h2 (by omega)) hs w
  by_cases c7 : k = 7
  · subst c7; exact moved_times a b lo hi _ _ _ _ d (bs text) (h2 (by omega)) hs w
  by_cases c4 : k = 4 ∨ k = 5
  · have e : mvN d ⟨k, a, b, lo, hi, cls, text⟩ = ⟨k, a + d, b + d, lo, hi, cls, text⟩ := by unfold mvN; rw [if_neg (by simp only; omega), if_pos c4]
    rw [e]; exact moved_two k a b lo hi _ _ _ _ d (bs text) c4 (h2 (by omega)) (h3 c4) hs w
  · have e : mvN d ⟨k, a, b, lo, hi, cls, text⟩ = ⟨k, a, b, lo, hi, cls, text⟩ := by unfold mvN; rw [if_neg (by simp only; omega), if_neg c4]
    rw [e]; exact moved_nil k a b lo hi _ _ _ _ d (bs text) (by omega) c1 c2 c3 hs w
structure LaidS (w0 : World) (base : Nat) (A : Option Addr) (m : List Nd) (lst : Value) (L : List Nd) (w : World) : Prop where
  bel : Below base w0 w
  own : OwnN w base lst L
  row : NRow w A m
  low : base ≤ w.heap.size
theorem LaidS.later {w0 w w' : World} {base : Nat} {A : Option Addr} {m L : List Nd} {lst : Value} (h : LaidS w0 base A m lst L w) (hb : Below w.heap.size w w') : LaidS w0 base A m lst L w' :=
  ⟨h.bel.trans (hb.mono h.low), h.own.later hb, h.row.later hb, Nat.le_trans h.low hb.size⟩
theorem NRow.below {w w' : World} {a : Option Addr} {l : List Nd} {B : Nat} (h : NRow w a l) (ha : ∀ b o, a = some ⟨b, o, none⟩ → b < B) (hb : Below B w w') (hs : w.heap.size ≤ w'.heap.size) : NRow w' a l := fun i hi => by
  obtain ⟨b, off, h1, hlt, hc⟩ := h i hi
  exact ⟨b, off, h1, Nat.lt_of_lt_of_le hlt hs, fun j hj => (hb.cell (p := ⟨b, off + i * 10 + j, none⟩) (ha b off h1)).trans (hc j hj)⟩
def LaidL (w0 : World) (base : Nat) (A : Option Addr) (l0 m : List Nd) (d : Int) (lst i : Value) (w : World) : Prop :=
  ∃ k : Nat, k ≤ m.length ∧ i = .int .i64 (k : Int) ∧ LaidS w0 base A m lst (l0 ++ (m.take k).map (mvN d)) w
def LaidPost (w0 : World) (base : Nat) (L : List Nd) (e : Ending) (w' : World) : Prop := ∃ v, e = .returned v ∧ OwnN w' base v L ∧ Below base w0 w'
set_option maxHeartbeats 8000000 in
set_option maxRecDepth 100000 in
theorem laid_any (l0 m : List Nd) (d : Int) (v : Value) (A : Option Addr) (c base : Nat) (w : World) (hown : OwnN w base v l0) (hrow : NRow w A m)
    (hA : ∀ b o, A = some ⟨b, o, none⟩ → b < base) (hbase : base ≤ w.heap.size) (hlen : l0.length + m.length < 1073741824) (hok : ∀ n ∈ m, MvOk d n) :
    Calls Tryd.prog 84 #[v, .slice A m.length c, .int .i64 d] w (LaidPost w base (l0 ++ m.map (mvN d))) := by
  have HS0 : Hid (LaidS w base A m v l0 w) := ⟨Below.refl _ _, hown, hrow, hbase⟩
  have HA := Lib.hid hA
  have HOK := Lib.hid hok
  clear hown hrow hA hok hbase
  go_enter Tryd.func84, Tryd.ntmps84
  go_wp2
  go_loopw [0, 11] (LaidL w base A l0 m d) (fun _ i _ => m.length - (intOf i).toNat)
  case atStart => exact ⟨0, Nat.zero_le _, rfl, by simpa using HS0.out⟩
  case round =>
    obtain ⟨k, hk, rfl, hs⟩ := hrel
    have HS := Lib.hid hs
    by_cases hlt : k < m.length
    · have hltz : (k : Int) < (m.length : Int) := by omega
      obtain ⟨ba, oa, rfl, -, -⟩ := hs.row k hlt
      have g : At10 wr ba (oa + k * 10) (m.getD k nd0) := hs.row.at hlt rfl
      have HN : Hid ((m.take (k + 1)).map (mvN d) = (m.take k).map (mvN d) ++ [mvN d (m.getD k nd0)]) := by
        unfold Hid
        rw [List.take_succ_eq_append_getElem hlt, List.map_append, List.getD_eq_getElem?_getD, List.getElem?_eq_getElem hlt]; rfl
      have HM := Lib.hid (HOK.out (m.getD k nd0) (by rw [List.getD_eq_getElem?_getD, List.getElem?_eq_getElem hlt]; exact List.getElem_mem _))
      have hcnt : (l0 ++ (m.take k).map (mvN d)).length < 1073741824 := by rw [List.length_append, List.length_map, List.length_take]; omega
      have HCN := Lib.hid hcnt
      generalize (m.take k).map (mvN d) = L at *
      generalize m.getD k nd0 = n at *
      clear hs hcnt
      unfold At10 at g
      obtain ⟨g0, g1, g2, g3, g4, g5, g6, g7, g8, g9⟩ := g
      go_upto_region 4 with (fail)
      have HS2 := Lib.hid (HS.out.later ((Below.refl _ _).alloc (Nat.le_refl _) (.cells (ndC n) 35)))
      have HB2 := Lib.hid (Blk.new wr (ndC n) 35)
      unfold ndC at HS2 HB2
      generalize wr.alloc (.cells #[.int .i64 n.kind, .int .i64 n.a, .int .i64 n.b, .int .i64 n.lo, .int .i64 n.hi, .int .u64 (wd n.cls 0), .int .u64 (wd n.cls 1), .int .u64 (wd n.cls 2), .int .u64 (wd n.cls 3), .string (bs n.text)] 35) = w2 at *
      generalize wr.heap.size = bx at *
      clear g0 g1 g2 g3 g4 g5 g6 g7 g8 g9
      obtain ⟨g0, g1, g2, g3, g4, g5, g6, g7, g8, g9⟩ := ten_cells HB2.out
      go_wp2_with fail
      refine (moved_any n d HM.out _).mono ?_; rintro e w3 ⟨rfl, hb3⟩
      have HS3 := Lib.hid (HS2.out.later hb3)
      clear hb3 g0 g1 g2 g3 g4 g5 g6 g7 g8 g9
      generalize mvN d n = x at *
      unfold ndC
      have HS4 := Lib.hid (HS3.out.later ((Below.refl _ _).alloc (Nat.le_refl _) (.cells (ndC x) 35)))
      have HK := Lib.hid (Blk.new w3 (ndC x) 35)
      have hbase4 := HS4.out.low
      unfold ndC at HS4 HK hbase4
      go_wp2_with (at_builtin; refine wpList_append_nd rfl _ _ rfl base _ _ rfl HS4.out.own w3.heap.size x rfl HK.out HCN.out hbase4 ?_; intro v' w7 ho7 hb7; have HO7 := Lib.hid ho7; have HB7 := Lib.hid (hb7 _ (Nat.le_refl _)); clear ho7 hb7)
      have HS7 : Hid (LaidS w base (some ⟨ba, oa, none⟩) m v' (l0 ++ (L ++ [x])) w7) := by
        refine ⟨HS4.out.bel.trans HB7.out, by rw [← List.append_assoc]; exact HO7.out, HS4.out.row.below HA.out HB7.out HB7.out.size, Nat.le_trans HS4.out.low HB7.out.size⟩
      go_roundw
      case rel => exact ⟨k + 1, by omega, by go_num, by rw [HN.out]; exact HS7.out⟩
      case measure => simp [intOf]; omega
    · obtain rfl : k = m.length := by omega
      have HO : Hid (LaidPost w base (l0 ++ m.map (mvN d)) (.returned u0) wr) := by
        have h := hs.own
        rw [List.take_length] at h
        exact ⟨_, rfl, h, hs.bel⟩
      clear hs
      go_wp2
      go_ret
      exact HO.out
end Go.Proofs.YtcgjmnhmhiddkaaDoor
/- The first part of a node, the first one of a node's: walked. -/
namespace Go.Proofs.YtcgjmnhmhiddkaaDoor
open Go Go.RowKit
set_option linter.unusedVariables false
set_option linter.unusedSimpArgs false

structure FstS (w0 : World) (A : Option Addr) (l : List Nd) (c : Nat) (w : World) : Prop where
  bel : Below w0.heap.size w0 w
  row : NRow w A l
  box : Blk w w0.heap.size #[.slice A l.length c] 25
theorem FstS.later {w0 w w' : World} {A : Option Addr} {l : List Nd} {c : Nat} (h : FstS w0 A l c w) (hb : Below w.heap.size w w') : FstS w0 A l c w' :=
  ⟨h.bel.trans (hb.mono h.bel.size), h.row.later hb, h.box.later hb⟩
end Go.Proofs.YtcgjmnhmhiddkaaDoor
