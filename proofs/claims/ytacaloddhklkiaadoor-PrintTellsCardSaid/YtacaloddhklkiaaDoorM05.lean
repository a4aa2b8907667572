/- The library's calls on strings, at a byte: walked. -/
import Derived.Test.YtacaloddhklkiaaDoorM02
import Derived.Test.YtacaloddhklkiaaDoorM04
import Derived.Deep.Cut
import Derived.BigQuiet
import Derived.IntWalk
import Derived.Deep.QuietTactic
import Derived.Lib.Bytealg
import Derived.Laws.Strings3
import Derived.Lib.BufferWrite
import Derived.Lib.UnsafeStr
import Derived.Laws.MakeOwn
import Derived.Deep.OwnRows
import Derived.Lib.Split
import Derived.Deep.LoopGhost
import Derived.Lib.Walk
import Derived.WalkSmall
import Derived.Lib.ValidU
import Derived.Lib.TrimUEq
import Derived.Shelf.Unicode.ValidAny
namespace Go.Proofs.YtacaloddhklkiaaDoor
open Go Go.RowKit
set_option linter.unusedVariables false

/-- The place of the first such byte, or -1. -/
theorem idx_miss {c : UInt8} : ∀ {l : List UInt8}, cutAt c l = none → Lib.indexByte l c = -1
  | [], _ => rfl
  | x :: l, h => by
    have hn := cutAt_none.1 h
    simp at hn
    unfold Lib.indexByte
    rw [if_neg (by simpa using Ne.symm hn.1), if_pos (by rw [idx_miss (cutAt_none.2 hn.2)]; rfl)]
theorem idx_hit {c : UInt8} : ∀ {l a b : List UInt8}, cutAt c l = some (a, b) → Lib.indexByte l c = (a.length : Int)
  | [], a, b, h => by cases h
  | x :: l, a, b, h => by
    unfold cutAt at h
    unfold Lib.indexByte
    by_cases e : x = c
    · rw [if_pos e] at h; cases h
      rw [if_pos (by simpa using e)]; rfl
    · rw [if_neg e] at h
      rw [if_neg (by simpa using e)]
      cases hc : cutAt c l with
      | none => rw [hc] at h; cases h
      | some p =>
        obtain ⟨p1, p2⟩ := p
        rw [hc] at h; cases h
        have hi := idx_hit hc
        rw [if_neg (by rw [hi]; simp), hi]; simp
/-! ### CutPrefix -/
/-! ### Clone -/
/-! ### Split -/
theorem pieces_hit {c : UInt8} : ∀ {l a b : List UInt8}, cutAt c l = some (a, b) → pieces c l = a :: pieces c b
  | [], a, b, h => by cases h
  | x :: l, a, b, h => by
    unfold cutAt at h
    by_cases e : x = c
    · rw [if_pos e] at h; cases h
      unfold pieces; rw [piecesA]; rw [if_pos e]
    · rw [if_neg e] at h
      cases hc : cutAt c l with
      | none => rw [hc] at h; cases h
      | some p =>
        obtain ⟨p1, p2⟩ := p
        rw [hc] at h; cases h
        have hi := pieces_hit hc
        unfold pieces at hi ⊢
        rw [piecesA, if_neg e]
        simp only [List.cons.injEq] at hi ⊢
        exact ⟨⟨trivial, hi.1⟩, hi.2⟩
theorem pieces_miss {c : UInt8} : ∀ {l : List UInt8}, cutAt c l = none → pieces c l = [l]
  | [], h => rfl
  | x :: l, h => by
    have hn := cutAt_none.1 h
    simp at hn
    have hi := pieces_miss (cutAt_none.2 hn.2)
    unfold pieces at hi ⊢
    rw [piecesA, if_neg (Ne.symm hn.1)]
    simp only [List.cons.injEq] at hi ⊢
    exact ⟨⟨trivial, hi.1⟩, hi.2⟩
theorem pieces_count (c : UInt8) : ∀ l : List UInt8, (pieces c l).length = Lib.countByte l c + 1
  | [] => rfl
  | x :: l => by
    have hi := pieces_count c l
    unfold pieces Lib.countByte at *
    rw [piecesA, List.count_cons]
    simp only [List.length_cons] at hi
    by_cases e : x = c
    · rw [if_pos e]; simp [e]; omega
    · rw [if_neg e]; simp [e]; omega
theorem count_le (c : UInt8) (l : List UInt8) : Lib.countByte l c ≤ l.length := List.count_le_length
/-- The pieces of the rest, behind those that are done. -/
def SplR (c : UInt8) (l : List UInt8) (wB : World) (b : Nat) (s0 s10 : Value) (w : World) (g : Nat) : Prop :=
  ∃ (done : List (List UInt8)) (rest : List UInt8), s0 = .string (bs rest) ∧ s10 = .int .i64 (done.length : Int) ∧ g + done.length + 1 = (pieces c l).length ∧ rest.length ≤ l.length ∧ done ++ pieces c rest = pieces c l
    ∧ Blk w b (Lib.cellsOf (done.map bs) (pieces c l).length) 9 ∧ Below wB.heap.size wB w
end Go.Proofs.YtacaloddhklkiaaDoor
/- Valid UTF-8: the model's decoder and the standard's table tell the same. -/
namespace Go.Proofs.YtacaloddhklkiaaDoor
open Go
set_option linter.unusedVariables false
/-- The first byte's demand is met. -/
def leadOk (n b0 b1 b2 b3 : Nat) : Prop := (leadV b0).1 ≠ 0 ∧ (leadV b0).1 ≤ n ∧ (leadV b0).2.1 ≤ b1 ∧ b1 ≤ (leadV b0).2.2 ∧ ((leadV b0).1 ≤ 2 ∨ (128 ≤ b2 ∧ b2 ≤ 191)) ∧ ((leadV b0).1 ≤ 3 ∨ (128 ≤ b3 ∧ b3 ≤ 191))
set_option maxRecDepth 100000 in
set_option maxHeartbeats 8000000 in
theorem lead_dec (n b0 b1 b2 b3 : Nat) (h0 : 128 ≤ b0) (h0' : b0 < 256) (h1 : b1 < 256) (h2 : b2 < 256) (h3 : b3 < 256) :
    (leadOk n b0 b1 b2 b3 → (Lib.decodeN n b0 b1 b2 b3).2 = (leadV b0).1 ∧ (leadV b0).1 ≠ 1) ∧ (¬ leadOk n b0 b1 b2 b3 → Lib.decodeN n b0 b1 b2 b3 = (65533, 1)) := by
  unfold leadOk leadV
  by_cases c1 : 194 ≤ b0 ∧ b0 ≤ 223
  · simp only [if_pos c1]
    unfold Lib.decodeN
    refine ⟨fun h => ?_, fun h => ?_⟩ <;> (repeat' split) <;> first | rfl | (exfalso; omega) | (constructor <;> simp <;> omega) | simp
  · simp only [if_neg c1]
    by_cases c2 : b0 = 224
    · simp only [if_pos c2]
      unfold Lib.decodeN
      refine ⟨fun h => ?_, fun h => ?_⟩ <;> (repeat' split) <;> first | rfl | (exfalso; omega) | (constructor <;> simp <;> omega) | simp
    · simp only [if_neg c2]
      by_cases c3 : b0 = 237
      · simp only [if_pos c3]
        unfold Lib.decodeN
        refine ⟨fun h => ?_, fun h => ?_⟩ <;> (repeat' split) <;> first | rfl | (exfalso; omega) | (constructor <;> simp <;> omega) | simp
      · simp only [if_neg c3]
        by_cases c4 : 225 ≤ b0 ∧ b0 ≤ 239
        · simp only [if_pos c4]
          unfold Lib.decodeN
          refine ⟨fun h => ?_, fun h => ?_⟩ <;> (repeat' split) <;> first | rfl | (exfalso; omega) | (constructor <;> simp <;> omega) | simp
        · simp only [if_neg c4]
          by_cases c5 : b0 = 240
          · simp only [if_pos c5]
            unfold Lib.decodeN
            refine ⟨fun h => ?_, fun h => ?_⟩ <;> (repeat' split) <;> first | rfl | (exfalso; omega) | (constructor <;> simp <;> omega) | simp
          · simp only [if_neg c5]
            by_cases c6 : 241 ≤ b0 ∧ b0 ≤ 243
            · simp only [if_pos c6]
              unfold Lib.decodeN
              refine ⟨fun h => ?_, fun h => ?_⟩ <;> (repeat' split) <;> first | rfl | (exfalso; omega) | (constructor <;> simp <;> omega) | simp
            · simp only [if_neg c6]
              by_cases c7 : b0 = 244
              · simp only [if_pos c7]
                unfold Lib.decodeN
                refine ⟨fun h => ?_, fun h => ?_⟩ <;> (repeat' split) <;> first | rfl | (exfalso; omega) | (constructor <;> simp <;> omega) | simp
              · simp only [if_neg c7]
                unfold Lib.decodeN
                refine ⟨fun h => ?_, fun h => ?_⟩ <;> (repeat' split) <;> first | rfl | (exfalso; omega) | (constructor <;> simp <;> omega) | simp
theorem valid_step (n : Nat) (l : List UInt8) (hne : l ≠ []) : Lib.validGoD (n + 1) l = if (Lib.decodeL l).1 = 65533 ∧ (Lib.decodeL l).2 = 1 then false else Lib.validGoD n (l.drop (Lib.decodeL l).2) := by
  rw [Lib.validGoD, if_neg hne]
theorem valid_go : ∀ (n : Nat) (l : List UInt8), l.length ≤ n → Lib.validGoD n l = utf8L l
  | 0, l, h => by
    have : l = [] := List.length_eq_zero_iff.1 (by omega)
    subst this; rfl
  | n + 1, [], h => by simp [Lib.validGoD]; rfl
  | n + 1, a :: l, h => by
    rw [valid_step n _ (by simp), Lib.decodeL_N]
    simp only [List.length_cons] at h
    by_cases ha : a.toNat < 128
    · rw [utf8_cons a l ha]
      have hd : Lib.decodeN (a :: l).length ((a :: l).getD 0 0).toNat ((a :: l).getD 1 0).toNat ((a :: l).getD 2 0).toNat ((a :: l).getD 3 0).toNat = (a.toNat, 1) := by
        unfold Lib.decodeN; rw [if_pos (by simpa using ha)]; rfl
      rw [hd]
      simp only
      rw [if_neg (by omega)]
      exact valid_go n l (by omega)
    · rw [utf8_lead (a :: l) (by simp) (by simpa using ha)]
      have hn : (a :: l).length = l.length + 1 := rfl
      obtain ⟨k1, k2⟩ := lead_dec (a :: l).length ((a :: l).getD 0 0).toNat ((a :: l).getD 1 0).toNat ((a :: l).getD 2 0).toNat ((a :: l).getD 3 0).toNat (by simpa using ha) (UInt8.toNat_lt _) (UInt8.toNat_lt _) (UInt8.toNat_lt _) (UInt8.toNat_lt _)
      by_cases hk : leadOk (a :: l).length ((a :: l).getD 0 0).toNat ((a :: l).getD 1 0).toNat ((a :: l).getD 2 0).toNat ((a :: l).getD 3 0).toNat
      · obtain ⟨e1, e2⟩ := k1 hk
        rw [if_neg (by rw [e1]; exact fun h => e2 h.2), e1]
        obtain ⟨q0, q1, q2, q3, q4, q5⟩ := hk
        rw [valid_go n _ (by rw [List.length_drop, hn]; omega)]
        have t1 : tailB (leadV ((a :: l).getD 0 0).toNat).2.1 (leadV ((a :: l).getD 0 0).toNat).2.2 ((a :: l).getD 1 0) = true := by unfold tailB; simp only [Bool.and_eq_true, decide_eq_true_eq]; exact ⟨q2, q3⟩
        have t2 : (decide ((leadV ((a :: l).getD 0 0).toNat).1 ≤ 2) || tailB 128 191 ((a :: l).getD 2 0)) = true := by unfold tailB; simp only [Bool.or_eq_true, Bool.and_eq_true, decide_eq_true_eq]; exact q4
        have t3 : (decide ((leadV ((a :: l).getD 0 0).toNat).1 ≤ 3) || tailB 128 191 ((a :: l).getD 3 0)) = true := by unfold tailB; simp only [Bool.or_eq_true, Bool.and_eq_true, decide_eq_true_eq]; exact q5
        have t0 := bne_iff_ne.2 q0
        rw [t0, t1, t2, t3, decide_eq_true q1]
        simp only [Bool.and_self, Bool.true_and]
      · rw [k2 hk, if_pos ⟨rfl, rfl⟩]
        symm
        rw [Bool.eq_false_iff]
        intro hx
        apply hk
        unfold tailB at hx
        simp only [Bool.or_eq_true, Bool.and_eq_true, decide_eq_true_eq, bne_iff_ne] at hx
        obtain ⟨⟨⟨⟨⟨q0, q1⟩, q2, q3⟩, q4⟩, q5⟩, _⟩ := hx
        exact ⟨q0, q1, q2, q3, q4, q5⟩
theorem valid_utf8 (l : List UInt8) : Lib.validD l = utf8L l := valid_go _ l (Nat.le_refl _)

theorem lead_vals (a : Nat) : (leadV a).1 = 0 ∨ (leadV a).1 = 2 ∨ (leadV a).1 = 3 ∨ (leadV a).1 = 4 := by
  unfold leadV
  repeat' split
  all_goals simp
/-- A valid text behind which stands another one. -/
theorem utf8_app : ∀ (n : Nat) (a b : List UInt8), a.length ≤ n → utf8L a = true → utf8L (a ++ b) = utf8L b
  | 0, a, b, h, _ => by
    have : a = [] := List.length_eq_zero_iff.1 (by omega)
    subst this; rfl
  | n + 1, [], b, h, _ => rfl
  | n + 1, c :: a, b, h, hv => by
    simp only [List.length_cons] at h
    by_cases hc : c.toNat < 128
    · rw [utf8_cons c a hc] at hv
      show utf8L (c :: (a ++ b)) = _
      rw [utf8_cons c _ hc]
      exact utf8_app n a b (by omega) hv
    · have hc' : 128 ≤ ((c :: a).getD 0 0).toNat := by simpa using hc
      have e0 : (c :: a ++ b).getD 0 0 = (c :: a).getD 0 0 := rfl
      rw [utf8_lead (c :: a) (by simp) hc'] at hv
      simp only [Bool.and_eq_true] at hv
      obtain ⟨⟨⟨⟨⟨q0, q1⟩, q2⟩, q3⟩, q4⟩, q5⟩ := hv
      rw [utf8_lead (c :: a ++ b) (by simp) (by rw [e0]; exact hc'), e0]
      generalize hk : leadV ((c :: a).getD 0 0).toNat = k at *
      simp only [decide_eq_true_eq] at q1
      have hk0 : k.1 ≠ 0 := by simpa using q0
      have g : ∀ i, i < (c :: a).length → (c :: a ++ b).getD i 0 = (c :: a).getD i 0 := fun i hi => by
        rw [List.getD_eq_getElem?_getD, List.getD_eq_getElem?_getD, List.getElem?_append_left hi]
      have hk4 : k.1 = 2 ∨ k.1 = 3 ∨ k.1 = 4 := by
        rw [← hk] at hk0 ⊢
        exact (lead_vals _).resolve_left hk0
      have t1 : tailB k.2.1 k.2.2 ((c :: a ++ b).getD 1 0) = true := by rw [g 1 (by omega)]; exact q2
      have t2 : (decide (k.1 ≤ 2) || tailB 128 191 ((c :: a ++ b).getD 2 0)) = true := by
        rcases Nat.lt_or_ge 2 k.1 with h2 | h2
        · rw [g 2 (by omega)]; exact q3
        · simp [h2]
      have t3 : (decide (k.1 ≤ 3) || tailB 128 191 ((c :: a ++ b).getD 3 0)) = true := by
        rcases Nat.lt_or_ge 3 k.1 with h2 | h2
        · rw [g 3 (by omega)]; exact q4
        · simp [h2]
      have t4 : decide (k.1 ≤ (c :: a ++ b).length) = true := by simp only [decide_eq_true_eq, List.length_append]; omega
      rw [t1, t2, t3, t4, q0]
      simp only [Bool.and_self, Bool.true_and]
      rw [List.drop_append_of_le_length q1]
      exact utf8_app n _ b (by rw [List.length_drop]; simp; omega) q5
theorem utf8_two {a b : List UInt8} (h : utf8L a = true) : utf8L (a ++ b) = utf8L b := utf8_app _ a b (Nat.le_refl _) h
/-- What begins a valid text is no tail. -/
theorem utf8_head {c : UInt8} {l : List UInt8} (h : utf8L (c :: l) = true) : c.toNat < 128 ∨ 192 ≤ c.toNat := by
  by_cases hc : c.toNat < 128
  · exact .inl hc
  · right
    rw [utf8_lead (c :: l) (by simp) (by simpa using hc)] at h
    simp only [Bool.and_eq_true] at h
    have h0 := h.1.1.1.1.1
    simp only [List.getD_cons_zero, bne_iff_ne] at h0
    unfold leadV at h0
    by_cases h1 : 192 ≤ c.toNat
    · exact h1
    · exfalso; apply h0
      repeat' split
      all_goals first | rfl | (exfalso; omega)
end Go.Proofs.YtacaloddhklkiaaDoor
/- Valid UTF-8: the library's call, and lex.Utf8. -/
namespace Go.Proofs.YtacaloddhklkiaaDoor
open Go Go.RowKit
set_option linter.unusedVariables false
set_option maxRecDepth 100000

end Go.Proofs.YtacaloddhklkiaaDoor
/- Nodes of descriptions: the plain mathematics. -/
namespace Go.Proofs.YtacaloddhklkiaaDoor
open Go
set_option linter.unusedVariables false

/-- A node. -/
structure Nd where
  kind : Int
  a : Int := 0
  b : Int := 0
  lo : Int := 0
  hi : Int := 0
  cls : BitVec 256 := 0#256
  text : List UInt8 := []
deriving DecidableEq
def nd0 : Nd := { kind := 0 }
def atN (l : List Nd) (i : Nat) : Nd := l.getD i nd0
/-- The node with its kind's fields alone. -/
def backN (n : Nd) : Nd :=
  if n.kind = 1 then { kind := 1 }
  else if n.kind = 2 then { kind := 2, cls := n.cls }
  else if n.kind = 3 then { kind := 3, text := n.text }
  else if n.kind = 6 ∨ n.kind = 8 ∨ n.kind = 9 then { kind := n.kind, a := n.a }
  else if n.kind = 7 then { kind := 7, a := n.a, lo := n.lo, hi := n.hi }
  else if n.kind = 4 ∨ n.kind = 5 then { kind := n.kind, a := n.a, b := n.b }
  else nd0
/-- May it be a node's text? -/
def textOk (t : List UInt8) : Bool := decide (t ≠ []) && utf8L t && decide ((34 : UInt8) ∉ t)
/-- Has the kind a part? -/
def partK (k : Int) : Prop := 4 ≤ k ∧ k ≤ 9
instance (k : Int) : Decidable (partK k) := by unfold partK; infer_instance
/-- The first one of a node's. -/
def firstP (l : List Nd) (i : Nat) : Nat :=
  if h : partK (atN l i).kind ∧ 0 ≤ (atN l i).a ∧ (atN l i).a < (i : Int) then firstP l (atN l i).a.toNat else i
termination_by i
decreasing_by omega
theorem firstP_le (l : List Nd) (i : Nat) : firstP l i ≤ i := by
  induction i using Nat.strongRecOn with
  | ind i ih =>
    rw [firstP]
    split
    · rename_i h
      have := ih (atN l i).a.toNat (by omega)
      omega
    · exact Nat.le_refl _
theorem firstP_go {l : List Nd} {i : Nat} (h : partK (atN l i).kind) (h0 : 0 ≤ (atN l i).a) (h1 : (atN l i).a < (i : Int)) : firstP l i = firstP l (atN l i).a.toNat := by
  rw [firstP, dif_pos ⟨h, h0, h1⟩]
theorem firstP_stop {l : List Nd} {i : Nat} (h : ¬ (partK (atN l i).kind ∧ 0 ≤ (atN l i).a ∧ (atN l i).a < (i : Int))) : firstP l i = i := by
  rw [firstP, dif_neg h]
/-- Is the node as it must be, where all ahead of it are? -/
def okN (l : List Nd) (i : Nat) (n : Nd) : Prop :=
  backN n = n ∧
  (n.kind = 1 ∨ n.kind = 2 ∨ (n.kind = 3 ∧ textOk n.text = true) ∨
  ((n.kind = 6 ∨ n.kind = 8 ∨ n.kind = 9) ∧ 0 ≤ n.a ∧ n.a = (i : Int) - 1) ∨
  (n.kind = 7 ∧ (0 ≤ n.a ∧ n.a = (i : Int) - 1) ∧ 0 ≤ n.lo ∧ n.lo ≤ n.hi ∧ n.hi ≤ 255) ∨
  ((n.kind = 4 ∨ n.kind = 5) ∧ (0 ≤ n.b ∧ n.b = (i : Int) - 1) ∧ 0 ≤ n.a ∧ n.a = (firstP l n.b.toNat : Int) - 1))
instance (l : List Nd) (i : Nat) (n : Nd) : Decidable (okN l i n) := by unfold okN; infer_instance
def fmd (l : List Nd) (i : Nat) : Bool := decide (okN l i (atN l i))
/-- Its form. -/
def Form (l : List Nd) : Prop := 0 < l.length ∧ (∀ i, i < l.length → okN l i (atN l i)) ∧ firstP l (l.length - 1) = 0
/-- What the nodes up to one tell. -/
theorem firstP_congr {l m : List Nd} : ∀ {i : Nat}, (∀ j, j ≤ i → atN l j = atN m j) → firstP l i = firstP m i := by
  intro i
  induction i using Nat.strongRecOn with
  | ind i ih =>
    intro h
    by_cases hc : partK (atN l i).kind ∧ 0 ≤ (atN l i).a ∧ (atN l i).a < (i : Int)
    · have hc2 := hc
      rw [h i (Nat.le_refl _)] at hc2
      rw [firstP_go hc.1 hc.2.1 hc.2.2, firstP_go hc2.1 hc2.2.1 hc2.2.2, ← h i (Nat.le_refl _)]
      exact ih _ (by omega) (fun j hj => h j (by omega))
    · have hc2 := hc
      rw [h i (Nat.le_refl _)] at hc2
      rw [firstP_stop hc, firstP_stop hc2]
theorem okN_congr {l m : List Nd} {i : Nat} (h : ∀ j, j ≤ i → atN l j = atN m j) (n : Nd) : okN l i n ↔ okN m i n := by
  unfold okN
  by_cases hb : 0 ≤ n.b ∧ n.b = (i : Int) - 1
  · rw [firstP_congr (l := l) (m := m) (i := n.b.toNat) (fun j hj => h j (by omega))]
  · simp [hb]
/-- The document's first one, of the node ahead of j: -1 where something is wrong. -/
def wantOf (n : Nd) (i : Nat) (k : Int) : Nd :=
  if n.kind = 1 then { kind := 1 }
  else if n.kind = 2 then { kind := 2, cls := n.cls }
  else if n.kind = 3 then { kind := 3, text := n.text }
  else if n.kind = 7 then { kind := 7, a := (i : Int) - 1, lo := n.lo, hi := n.hi }
  else if n.kind = 4 ∨ n.kind = 5 then { kind := n.kind, a := k - 1, b := (i : Int) - 1 }
  else { kind := n.kind, a := (i : Int) - 1 }
def refG (l : List Nd) : Nat → Int
  | 0 => -1
  | i + 1 =>
    let n := atN l i
    if n.kind = 1 ∨ n.kind = 2 then if n = wantOf n i 0 then (i : Int) else -1
    else if n.kind = 3 then if textOk n.text = true then (if n = wantOf n i 0 then (i : Int) else -1) else -1
    else if n.kind = 6 ∨ n.kind = 7 ∨ n.kind = 8 ∨ n.kind = 9 then
      if n.kind = 7 ∧ (n.lo < 0 ∨ n.lo > n.hi ∨ n.hi > 255) then -1
      else if n = wantOf n i 0 then refG l i else -1
    else if n.kind = 4 ∨ n.kind = 5 then
      let k := refG l i
      if k < 0 then -1
      else if h : k.toNat ≤ i then (if n = wantOf n i k then refG l k.toNat else -1) else -1
    else -1
termination_by j => j
theorem refG_lt (l : List Nd) (j : Nat) : refG l j < (j : Int) ∧ -1 ≤ refG l j := by
  induction j using Nat.strongRecOn with
  | ind j ih =>
    cases j with
    | zero => rw [refG]; omega
    | succ i =>
      rw [refG]
      simp only
      have h0 := ih i (by omega)
      split
      · split <;> omega
      · split
        · split
          · split <;> omega
          · omega
        · split
          · split
            · omega
            · split <;> omega
          · split
            · split
              · omega
              · split
                · rename_i hk
                  have h1 := ih (refG l i).toNat (by omega)
                  split <;> omega
                · omega
            · omega
theorem refG_ok (l : List Nd) : ∀ i, (∀ j, j ≤ i → okN l j (atN l j)) → refG l (i + 1) = (firstP l i : Int) := by
  intro i
  induction i using Nat.strongRecOn with
  | ind i ih =>
    intro h
    obtain ⟨hb, hk⟩ := h i (Nat.le_refl _)
    rw [refG]
    simp only
    generalize hn : atN l i = n at hb hk ⊢
    have stop : ¬ partK n.kind → firstP l i = i := fun hp => firstP_stop (by rw [hn]; exact fun hh => hp hh.1)
    rcases hk with hk | hk | ⟨hk, ht⟩ | ⟨hk, h0, h1⟩ | ⟨hk, ⟨h0, h1⟩, h2, h3, h4⟩ | ⟨hk, ⟨h0, h1⟩, h2, h3⟩
    · rw [if_pos (.inl hk), stop (by unfold partK; omega), if_pos]
      rw [← hb]; unfold backN wantOf; simp [hk]
    · rw [if_pos (.inr hk), stop (by unfold partK; omega), if_pos]
      rw [← hb]; unfold backN wantOf; simp [hk]
    · rw [if_neg (by omega), if_pos hk, if_pos ht, stop (by unfold partK; omega), if_pos]
      rw [← hb]; unfold backN wantOf; simp [hk]
    · rw [if_neg (by omega), if_neg (by omega), if_pos (by omega), if_neg (by omega), if_pos]
      · rw [firstP_go (by rw [hn]; unfold partK; omega) (by rw [hn]; omega) (by rw [hn]; omega), hn]
        obtain ⟨i', rfl⟩ : ∃ i', i = i' + 1 := ⟨i - 1, by omega⟩
        rw [ih i' (by omega) (fun j hj => h j (by omega)), show n.a.toNat = i' by omega]
      · rw [← hb]; unfold backN wantOf
        rcases hk with hk | hk | hk <;> simp [hk] <;> exact h1
    · rw [if_neg (by omega), if_neg (by omega), if_pos (by omega), if_neg (by omega), if_pos]
      · rw [firstP_go (by rw [hn]; unfold partK; omega) (by rw [hn]; omega) (by rw [hn]; omega), hn]
        obtain ⟨i', rfl⟩ : ∃ i', i = i' + 1 := ⟨i - 1, by omega⟩
        rw [ih i' (by omega) (fun j hj => h j (by omega)), show n.a.toNat = i' by omega]
      · rw [← hb]; unfold backN wantOf; simp [hk]; exact h1
    · obtain ⟨i', rfl⟩ : ∃ i', i = i' + 1 := ⟨i - 1, by omega⟩
      have hbn : n.b.toNat = i' := by omega
      rw [hbn] at h3
      have hle := firstP_le l i'
      rw [if_neg (by omega), if_neg (by omega), if_neg (by omega), if_pos hk, ih i' (by omega) (fun j hj => h j (by omega)), if_neg (by omega), dif_pos (by omega), if_pos]
      · have hf : firstP l (i' + 1) = firstP l n.a.toNat := by
          rw [firstP_go (by rw [hn]; unfold partK; omega) (by rw [hn]; omega) (by rw [hn]; omega), hn]
        obtain ⟨k, hk2⟩ : ∃ k, firstP l i' = k + 1 := ⟨firstP l i' - 1, by omega⟩
        rw [hf, hk2, Int.toNat_natCast, ih k (by omega) (fun j hj => h j (by omega)), show n.a.toNat = k by omega]
      · rw [← hb]; unfold backN wantOf
        rcases hk with hk | hk <;> simp [hk] <;> exact ⟨h3, by omega⟩
theorem refG_back (l : List Nd) : ∀ i, 0 ≤ refG l (i + 1) → refG l (i + 1) = (firstP l i : Int) ∧ ∀ j, firstP l i ≤ j → j ≤ i → okN l j (atN l j) := by
  intro i
  induction i using Nat.strongRecOn with
  | ind i ih =>
    intro h
    rw [refG] at h ⊢
    simp only at h ⊢
    generalize hn : atN l i = n at h ⊢
    have stop : ¬ partK n.kind → firstP l i = i := fun hp => firstP_stop (by rw [hn]; exact fun hh => hp hh.1)
    by_cases c1 : n.kind = 1 ∨ n.kind = 2
    · rw [if_pos c1] at h ⊢
      by_cases hw : n = wantOf n i 0
      · rw [if_pos hw, stop (by unfold partK; omega)]
        refine ⟨rfl, fun j hj1 hj2 => ?_⟩
        obtain rfl : j = i := by omega
        rw [hn]
        refine ⟨?_, by rcases c1 with c | c <;> simp [c]⟩
        conv => rhs; rw [hw]
        unfold backN wantOf; rcases c1 with c | c <;> simp [c]
      · rw [if_neg hw] at h; omega
    rw [if_neg c1] at h ⊢
    by_cases c2 : n.kind = 3
    · rw [if_pos c2] at h ⊢
      by_cases ht : textOk n.text = true
      · rw [if_pos ht] at h ⊢
        by_cases hw : n = wantOf n i 0
        · rw [if_pos hw, stop (by unfold partK; omega)]
          refine ⟨rfl, fun j hj1 hj2 => ?_⟩
          obtain rfl : j = i := by omega
          rw [hn]
          refine ⟨?_, by simp [c2, ht]⟩
          conv => rhs; rw [hw]
          unfold backN wantOf; simp [c2]
        · rw [if_neg hw] at h; omega
      · rw [if_neg ht] at h; omega
    rw [if_neg c2] at h ⊢
    by_cases c3 : n.kind = 6 ∨ n.kind = 7 ∨ n.kind = 8 ∨ n.kind = 9
    · rw [if_pos c3] at h ⊢
      by_cases c4 : n.kind = 7 ∧ (n.lo < 0 ∨ n.lo > n.hi ∨ n.hi > 255)
      · rw [if_pos c4] at h; omega
      rw [if_neg c4] at h ⊢
      by_cases hw : n = wantOf n i 0
      · rw [if_pos hw] at h ⊢
        have hna : n.a = (i : Int) - 1 := by
          rw [hw]; unfold wantOf
          rcases c3 with c | c | c | c <;> simp [c]
        cases i with
        | zero => rw [refG] at h; omega
        | succ i' =>
          obtain ⟨h1, h2⟩ := ih i' (by omega) h
          have hf : firstP l (i' + 1) = firstP l i' := by
            rw [firstP_go (by rw [hn]; unfold partK; omega) (by rw [hn]; omega) (by rw [hn]; omega), hn, show n.a.toNat = i' by omega]
          rw [hf]
          refine ⟨h1, fun j hj1 hj2 => ?_⟩
          by_cases hj : j = i' + 1
          · subst hj
            rw [hn]
            refine ⟨?_, by omega⟩
            conv => rhs; rw [hw]
            unfold backN wantOf
            rcases c3 with c | c | c | c <;> simp [c, hna]
          · exact h2 j hj1 (by omega)
      · rw [if_neg hw] at h; omega
    rw [if_neg c3] at h ⊢
    by_cases c4 : n.kind = 4 ∨ n.kind = 5
    · rw [if_pos c4] at h ⊢
      by_cases hk0 : refG l i < 0
      · rw [if_pos hk0] at h; omega
      rw [if_neg hk0] at h ⊢
      have hlt := (refG_lt l i).1
      rw [dif_pos (by omega)] at h ⊢
      by_cases hw : n = wantOf n i (refG l i)
      · rw [if_pos hw] at h ⊢
        have hna : n.a = refG l i - 1 := by
          rw [hw]; unfold wantOf
          rcases c4 with c | c <;> simp [c]
        have hnb : n.b = (i : Int) - 1 := by
          rw [hw]; unfold wantOf
          rcases c4 with c | c <;> simp [c]
        cases i with
        | zero => rw [refG] at hk0; omega
        | succ i' =>
          obtain ⟨h1, h2⟩ := ih i' (by omega) (by omega)
          have hle := firstP_le l i'
          rw [h1, Int.toNat_natCast] at h ⊢
          rw [h1] at hna
          cases hfp : firstP l i' with
          | zero => rw [hfp] at h; rw [refG] at h; omega
          | succ k =>
            rw [hfp] at h hna hle
            obtain ⟨g1, g2⟩ := ih k (by omega) h
            have hf : firstP l (i' + 1) = firstP l k := by
              rw [firstP_go (by rw [hn]; unfold partK; omega) (by rw [hn]; omega) (by rw [hn]; omega), hn, show n.a.toNat = k by omega]
            have hlek := firstP_le l k
            rw [hf]
            refine ⟨g1, fun j hj1 hj2 => ?_⟩
            by_cases hj : j = i' + 1
            · subst hj
              rw [hn]
              refine ⟨?_, ?_⟩
              · conv => rhs; rw [hw]
                unfold backN wantOf
                rcases c4 with c | c <;> simp [c, hna, hnb, h1, hfp]
              · refine .inr (.inr (.inr (.inr (.inr ⟨c4, by omega, by omega, ?_⟩))))
                rw [show n.b.toNat = i' by omega, hfp]; omega
            · by_cases hjk : j ≤ k
              · exact g2 j hj1 hjk
              · exact h2 j (by omega) (by omega)
      · rw [if_neg hw] at h; omega
    · rw [if_neg c4] at h; omega
/-- The document's form is the program's. -/
theorem form_ref (l : List Nd) : Form l ↔ 0 < l.length ∧ refG l l.length = 0 := by
  constructor
  · rintro ⟨h0, h1, h2⟩
    refine ⟨h0, ?_⟩
    have := refG_ok l (l.length - 1) (fun j hj => h1 j (by omega))
    rw [show l.length - 1 + 1 = l.length by omega, h2] at this
    exact this
  · rintro ⟨h0, h1⟩
    have h2 := refG_back l (l.length - 1)
    rw [show l.length - 1 + 1 = l.length by omega, h1] at h2
    obtain ⟨h3, h4⟩ := h2 (Int.le_refl _)
    have h5 : firstP l (l.length - 1) = 0 := by omega
    rw [h5] at h4
    exact ⟨h0, fun i hi => h4 i (Nat.zero_le _) (by omega), h5⟩
end Go.Proofs.YtacaloddhklkiaaDoor
