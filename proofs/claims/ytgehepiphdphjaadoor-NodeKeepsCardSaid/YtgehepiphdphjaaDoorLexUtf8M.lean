/- Valid UTF-8: the model's decoder and the standard's table tell the same. -/
import Derived.Test.YtgehepiphdphjaaDoorLexDec
import Derived.Lib.ValidU
import Derived.Lib.TrimUEq
namespace Go.Proofs.YtgehepiphdphjaaDoor
open Go
set_option linter.unusedVariables false
/-- The first byte's demand is met. -/
def leadOk (n b0 b1 b2 b3 : Nat) : Prop := (leadV b0).1 ≠ 0 ∧ (leadV b0).1 ≤ n ∧ (leadV b0).2.1 ≤ b1 ∧ b1 ≤ (leadV b0).2.2 ∧ ((leadV b0).1 ≤ 2 ∨ (128 ≤ b2 ∧ b2 ≤ 191)) ∧ ((leadV b0).1 ≤ 3 ∨ (128 ≤ b3 ∧ b3 ≤ 191))
set_option maxRecDepth 100000 in
set_option maxHeartbeats 8000000 in
theorem lead_dec (n b0 b1 b2 b3 : Nat) (h0 : 128 ≤ b0) (h0' : b0 < 256) (h1 : b1 < 256) (h2 : b2 < 256) (h3 : b3 < 256) :
    (leadOk n b0 b1 b2 b3 → (Lib.decodeN n b0 b1 b2 b3).2 = (leadV b0).1 ∧ (leadV b0).1 ≠ 1) ∧ (¬ leadOk n b0 b1 b2 b3 → Lib.decodeN n b0 b1 b2 b3 = (65533, 1)) := by
  unfold leadOk leadV
  by_cases c1 : 194 ≤ b0 ∧ b0 ≤ 223
  · simp only [if_pos c1]
    unfold Lib.decodeN
    refine ⟨fun h => ?_, fun h => ?_⟩ <;> (repeat' split) <;> first | rfl | (exfalso; omega) | (constructor <;> simp <;> omega) | simp
  · simp only [if_neg c1]
    by_cases c2 : b0 = 224
    · simp only [if_pos c2]
      unfold Lib.decodeN
      refine ⟨fun h => ?_, fun h => ?_⟩ <;> (repeat' split) <;> first | rfl | (exfalso; omega) | (constructor <;> simp <;> omega) | simp
    · simp only [if_neg c2]
      by_cases c3 : b0 = 237
      · simp only [if_pos c3]
        unfold Lib.decodeN
        refine ⟨fun h => ?_, fun h => ?_⟩ <;> (repeat' split) <;> first | rfl | (exfalso; omega) | (constructor <;> simp <;> omega) | simp
      · simp only [if_neg c3]
        by_cases c4 : 225 ≤ b0 ∧ b0 ≤ 239
        · simp only [if_pos c4]
          unfold Lib.decodeN
          refine ⟨fun h => ?_, fun h => ?_⟩ <;> (repeat' split) <;> first | rfl | (exfalso; omega) | (constructor <;> simp <;> omega) | simp
        · simp only [if_neg c4]
          by_cases c5 : b0 = 240
          · simp only [if_pos c5]
            unfold Lib.decodeN
            refine ⟨fun h => ?_, fun h => ?_⟩ <;> (repeat' split) <;> first | rfl | (exfalso; omega) | (constructor <;> simp <;> omega) | simp
          · simp only [if_neg c5]
            by_cases c6 : 241 ≤ b0 ∧ b0 ≤ 243
            · simp only [if_pos c6]
              unfold Lib.decodeN
              refine ⟨fun h => ?_, fun h => ?_⟩ <;> (repeat' split) <;> first | rfl | (exfalso; omega) | (constructor <;> simp <;> omega) | simp
            · simp only [if_neg c6]
              by_cases c7 : b0 = 244
              · simp only [if_pos c7]
                unfold Lib.decodeN
                refine ⟨fun h => ?_, fun h => ?_⟩ <;> (repeat' split) <;> first | rfl | (exfalso; omega) | (constructor <;> simp <;> omega) | simp
              · simp only [if_neg c7]
                unfold Lib.decodeN
                refine ⟨fun h => ?_, fun h => ?_⟩ <;> (repeat' split) <;> first | rfl | (exfalso; omega) | (constructor <;> simp <;> omega) | simp
theorem valid_step (n : Nat) (l : List UInt8) (hne : l ≠ []) : Lib.validGoD (n + 1) l = if (Lib.decodeL l).1 = 65533 ∧ (Lib.decodeL l).2 = 1 then false else Lib.validGoD n (l.drop (Lib.decodeL l).2) := by
  rw [Lib.validGoD, if_neg hne]
theorem valid_go : ∀ (n : Nat) (l : List UInt8), l.length ≤ n → Lib.validGoD n l = utf8L l
  | 0, l, h => by
    have : l = [] := List.length_eq_zero_iff.1 (by omega)
    subst this; rfl
  | n + 1, [], h => by simp [Lib.validGoD]; rfl
  | n + 1, a :: l, h => by
    rw [valid_step n _ (by simp), Lib.decodeL_N]
    simp only [List.length_cons] at h
    by_cases ha : a.toNat < 128
    · rw [utf8_cons a l ha]
      have hd : Lib.decodeN (a :: l).length ((a :: l).getD 0 0).toNat ((a :: l).getD 1 0).toNat ((a :: l).getD 2 0).toNat ((a :: l).getD 3 0).toNat = (a.toNat, 1) := by
        unfold Lib.decodeN; rw [if_pos (by simpa using ha)]; rfl
      rw [hd]
      simp only
      rw [if_neg (by omega)]
      exact valid_go n l (by omega)
    · rw [utf8_lead (a :: l) (by simp) (by simpa using ha)]
      have hn : (a :: l).length = l.length + 1 := rfl
      obtain ⟨k1, k2⟩ := lead_dec (a :: l).length ((a :: l).getD 0 0).toNat ((a :: l).getD 1 0).toNat ((a :: l).getD 2 0).toNat ((a :: l).getD 3 0).toNat (by simpa using ha) (UInt8.toNat_lt _) (UInt8.toNat_lt _) (UInt8.toNat_lt _) (UInt8.toNat_lt _)
      by_cases hk : leadOk (a :: l).length ((a :: l).getD 0 0).toNat ((a :: l).getD 1 0).toNat ((a :: l).getD 2 0).toNat ((a :: l).getD 3 0).toNat
      · obtain ⟨e1, e2⟩ := k1 hk
        rw [if_neg (by rw [e1]; exact fun h => e2 h.2), e1]
        obtain ⟨q0, q1, q2, q3, q4, q5⟩ := hk
        rw [valid_go n _ (by rw [List.length_drop, hn]; omega)]
        have t1 : tailB (leadV ((a :: l).getD 0 0).toNat).2.1 (leadV ((a :: l).getD 0 0).toNat).2.2 ((a :: l).getD 1 0) = true := by unfold tailB; simp only [Bool.and_eq_true, decide_eq_true_eq]; exact ⟨q2, q3⟩
        have t2 : (decide ((leadV ((a :: l).getD 0 0).toNat).1 ≤ 2) || tailB 128 191 ((a :: l).getD 2 0)) = true := by unfold tailB; simp only [Bool.or_eq_true, Bool.and_eq_true, decide_eq_true_eq]; exact q4
        have t3 : (decide ((leadV ((a :: l).getD 0 0).toNat).1 ≤ 3) || tailB 128 191 ((a :: l).getD 3 0)) = true := by unfold tailB; simp only [Bool.or_eq_true, Bool.and_eq_true, decide_eq_true_eq]; exact q5
        have t0 := bne_iff_ne.2 q0
        rw [t0, t1, t2, t3, decide_eq_true q1]
        simp only [Bool.and_self, Bool.true_and]
      · rw [k2 hk, if_pos ⟨rfl, rfl⟩]
        symm
        rw [Bool.eq_false_iff]
        intro hx
        apply hk
        unfold tailB at hx
        simp only [Bool.or_eq_true, Bool.and_eq_true, decide_eq_true_eq, bne_iff_ne] at hx
        obtain ⟨⟨⟨⟨⟨q0, q1⟩, q2, q3⟩, q4⟩, q5⟩, _⟩ := hx
        exact ⟨q0, q1, q2, q3, q4, q5⟩
theorem valid_utf8 (l : List UInt8) : Lib.validD l = utf8L l := valid_go _ l (Nat.le_refl _)

theorem lead_vals (a : Nat) : (leadV a).1 = 0 ∨ (leadV a).1 = 2 ∨ (leadV a).1 = 3 ∨ (leadV a).1 = 4 := by
  unfold leadV
  repeat' split
  all_goals simp
/-- A valid text behind which stands another one. -/
theorem utf8_app : ∀ (n : Nat) (a b : List UInt8), a.length ≤ n → utf8L a = true → utf8L (a ++ b) = utf8L b
  | 0, a, b, h, _ => by
    have : a = [] := List.length_eq_zero_iff.1 (by omega)
    subst this; rfl
  | n + 1, [], b, h, _ => rfl
  | n + 1, c :: a, b, h, hv => by
    simp only [List.length_cons] at h
    by_cases hc : c.toNat < 128
    · rw [utf8_cons c a hc] at hv
      show utf8L (c :: (a ++ b)) = _
      rw [utf8_cons c _ hc]
      exact utf8_app n a b (by omega) hv
    · have hc' : 128 ≤ ((c :: a).getD 0 0).toNat := by simpa using hc
      have e0 : (c :: a ++ b).getD 0 0 = (c :: a).getD 0 0 := rfl
      rw [utf8_lead (c :: a) (by simp) hc'] at hv
      simp only [Bool.and_eq_true] at hv
      obtain ⟨⟨⟨⟨⟨q0, q1⟩, q2⟩, q3⟩, q4⟩, q5⟩ := hv
      rw [utf8_lead (c :: a ++ b) (by simp) (by rw [e0]; exact hc'), e0]
      generalize hk : leadV ((c :: a).getD 0 0).toNat = k at *
      simp only [decide_eq_true_eq] at q1
      have hk0 : k.1 ≠ 0 := by simpa using q0
      have g : ∀ i, i < (c :: a).length → (c :: a ++ b).getD i 0 = (c :: a).getD i 0 := fun i hi => by
        rw [List.getD_eq_getElem?_getD, List.getD_eq_getElem?_getD, List.getElem?_append_left hi]
      have hk4 : k.1 = 2 ∨ k.1 = 3 ∨ k.1 = 4 := by
        rw [← hk] at hk0 ⊢
        exact (lead_vals _).resolve_left hk0
      have t1 : tailB k.2.1 k.2.2 ((c :: a ++ b).getD 1 0) = true := by rw [g 1 (by omega)]; exact q2
      have t2 : (decide (k.1 ≤ 2) || tailB 128 191 ((c :: a ++ b).getD 2 0)) = true := by
        rcases Nat.lt_or_ge 2 k.1 with h2 | h2
        · rw [g 2 (by omega)]; exact q3
        · simp [h2]
      have t3 : (decide (k.1 ≤ 3) || tailB 128 191 ((c :: a ++ b).getD 3 0)) = true := by
        rcases Nat.lt_or_ge 3 k.1 with h2 | h2
        · rw [g 3 (by omega)]; exact q4
        · simp [h2]
      have t4 : decide (k.1 ≤ (c :: a ++ b).length) = true := by simp only [decide_eq_true_eq, List.length_append]; omega
      rw [t1, t2, t3, t4, q0]
      simp only [Bool.and_self, Bool.true_and]
      rw [List.drop_append_of_le_length q1]
      exact utf8_app n _ b (by rw [List.length_drop]; simp; omega) q5
theorem utf8_two {a b : List UInt8} (h : utf8L a = true) : utf8L (a ++ b) = utf8L b := utf8_app _ a b (Nat.le_refl _) h
/-- What begins a valid text is no tail. -/
theorem utf8_head {c : UInt8} {l : List UInt8} (h : utf8L (c :: l) = true) : c.toNat < 128 ∨ 192 ≤ c.toNat := by
  by_cases hc : c.toNat < 128
  · exact .inl hc
  · right
    rw [utf8_lead (c :: l) (by simp) (by simpa using hc)] at h
    simp only [Bool.and_eq_true] at h
    have h0 := h.1.1.1.1.1
    simp only [List.getD_cons_zero, bne_iff_ne] at h0
    unfold leadV at h0
    by_cases h1 : 192 ≤ c.toNat
    · exact h1
    · exfalso; apply h0
      repeat' split
      all_goals first | rfl | (exfalso; omega)
end Go.Proofs.YtgehepiphdphjaaDoor
