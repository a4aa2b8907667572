/- Runes of a text, and valid UTF-8: the plain mathematics. -/
import Derived.Test.YtgehepiphdphjaaDoorLexMath
import Derived.Lib.DecodeN
import Derived.Lib.Strings
import Derived.Lib.IndexBytes
namespace Go.Proofs.YtgehepiphdphjaaDoor
open Go
set_option linter.unusedVariables false
set_option linter.unusedSimpArgs false

/-- A text of such bytes. -/
def bs (l : List UInt8) : ByteArray := ⟨l.toArray⟩
theorem bs_size (l : List UInt8) : (bs l).size = l.length := rfl
theorem bs_data (l : List UInt8) : (bs l).data.toList = l := rfl
theorem bs_self (s : ByteArray) : bs s.data.toList = s := Lib.mk_data s
theorem bs_inj {a b : List UInt8} (h : bs a = bs b) : a = b := by have := congrArg (fun x : ByteArray => x.data.toList) h; exact this
theorem bs_extract (l : List UInt8) (a b : Nat) : (bs l).extract a b = bs ((l.drop a).take (b - a)) := by
  rw [Lib.extract_eq]; rfl
theorem bs_get (l : List UInt8) (i : Nat) (h : i < (bs l).size) : (bs l)[i] = l[i]'(by rwa [bs_size] at h) := rfl
theorem bs_get! (l : List UInt8) (i : Nat) : (bs l).get! i = l.getD i 0 := by
  show l.toArray[i]! = _
  by_cases h : i < l.length
  · simp [h]
  · simp [h]; rfl
theorem bs_append (a b : List UInt8) : bs a ++ bs b = bs (a ++ b) := by
  show ByteArray.append _ _ = _
  unfold bs
  apply ByteArray.ext
  simp

theorem dec_small (l : List UInt8) (p : Nat) (hb : (l.getD p 0).toNat < 128) : Utf8.decode (bs l) p = ((l.getD p 0).toNat, 1) := by
  rw [Lib.decode_at, bs_get!]; unfold Lib.decodeN; rw [if_pos hb]
theorem dec_big (l : List UInt8) (p : Nat) (h : p < l.length) (hb : 128 ≤ (l.getD p 0).toNat) :
    128 ≤ (Utf8.decode (bs l) p).1 ∧ (Utf8.decode (bs l) p).1 < 2147483648 ∧ 1 ≤ (Utf8.decode (bs l) p).2 ∧ p + (Utf8.decode (bs l) p).2 ≤ l.length ∧ ∀ j, 1 ≤ j → j < (Utf8.decode (bs l) p).2 → 128 ≤ (l.getD (p + j) 0).toNat := by
  rw [Lib.decode_at]
  simp only [bs_get!, bs_size]
  have h1 := (l.getD p 0).toNat_lt
  have h2 := (l.getD (p + 1) 0).toNat_lt
  have h3 := (l.getD (p + 2) 0).toNat_lt
  have h4 := (l.getD (p + 3) 0).toNat_lt
  have key : ∀ w, w ≤ 4 → (2 ≤ w → 128 ≤ (l.getD (p + 1) 0).toNat) → (3 ≤ w → 128 ≤ (l.getD (p + 2) 0).toNat) → (4 ≤ w → 128 ≤ (l.getD (p + 3) 0).toNat) → ∀ j, 1 ≤ j → j < w → 128 ≤ (l.getD (p + j) 0).toNat := by
    intro w hw a b c j j1 j2
    rcases (by omega : j = 1 ∨ j = 2 ∨ j = 3) with rfl | rfl | rfl
    · exact a (by omega)
    · exact b (by omega)
    · exact c (by omega)
  generalize (l.getD p 0).toNat = b0 at *
  generalize hb1 : (l.getD (p + 1) 0).toNat = b1 at *
  generalize hb2 : (l.getD (p + 2) 0).toNat = b2 at *
  generalize hb3 : (l.getD (p + 3) 0).toNat = b3 at *
  unfold Lib.decodeN
  rw [if_neg (by omega)]
  split
  · split
    · refine ⟨by simp; omega, by simp; omega, by simp, by simp; omega, fun j j1 j2 => key 2 (by omega) (by omega) (by omega) (by omega) j j1 j2⟩
    · refine ⟨by simp, by simp, by simp, by simp; omega, fun j j1 j2 => key 1 (by omega) (by omega) (by omega) (by omega) j j1 j2⟩
  · split
    · split
      · refine ⟨by simp; omega, by simp; omega, by simp, by simp; omega, fun j j1 j2 => key 3 (by omega) (by omega) (by omega) (by omega) j j1 j2⟩
      · refine ⟨by simp, by simp, by simp, by simp; omega, fun j j1 j2 => key 1 (by omega) (by omega) (by omega) (by omega) j j1 j2⟩
    · split
      · split
        · refine ⟨by simp; omega, by simp; omega, by simp, by simp; omega, fun j j1 j2 => key 4 (by omega) (by omega) (by omega) (by omega) j j1 j2⟩
        · refine ⟨by simp, by simp, by simp, by simp; omega, fun j j1 j2 => key 1 (by omega) (by omega) (by omega) (by omega) j j1 j2⟩
      · refine ⟨by simp, by simp, by simp, by simp; omega, fun j j1 j2 => key 1 (by omega) (by omega) (by omega) (by omega) j j1 j2⟩

/-! ### valid UTF-8 -/
theorem utf8_cons (a : UInt8) (l : List UInt8) (h : a.toNat < 128) : utf8L (a :: l) = utf8L l := by rw [utf8L.eq_def]; simp only; rw [if_pos h]
theorem utf8_low : ∀ (a l : List UInt8), (∀ c ∈ a, c.toNat < 128) → utf8L (a ++ l) = utf8L l
  | [], l, h => rfl
  | c :: a, l, h => by
    show utf8L (c :: (a ++ l)) = _
    rw [utf8_cons _ _ (h c (by simp)), utf8_low a l fun d hd => h d (by simp [hd])]
/-- How many bytes of what size a first byte asks for: (how many, the second one's least, its greatest). -/
def leadV (a : Nat) : Nat × Nat × Nat :=
  if 194 ≤ a ∧ a ≤ 223 then (2, 128, 191) else if a = 224 then (3, 160, 191) else if a = 237 then (3, 128, 159) else if 225 ≤ a ∧ a ≤ 239 then (3, 128, 191)
  else if a = 240 then (4, 144, 191) else if 241 ≤ a ∧ a ≤ 243 then (4, 128, 191) else if a = 244 then (4, 128, 143) else (0, 0, 0)
/-- Valid, by the first byte's demand. -/
theorem utf8_lead (l : List UInt8) (h0 : 0 < l.length) (h : 128 ≤ (l.getD 0 0).toNat) :
    utf8L l = ((leadV (l.getD 0 0).toNat).1 != 0 && decide ((leadV (l.getD 0 0).toNat).1 ≤ l.length) && tailB (leadV (l.getD 0 0).toNat).2.1 (leadV (l.getD 0 0).toNat).2.2 (l.getD 1 0)
      && (decide ((leadV (l.getD 0 0).toNat).1 ≤ 2) || tailB 128 191 (l.getD 2 0)) && (decide ((leadV (l.getD 0 0).toNat).1 ≤ 3) || tailB 128 191 (l.getD 3 0)) && utf8L (l.drop (leadV (l.getD 0 0).toNat).1)) := by
  match l, h0 with
  | a :: l, _ =>
    simp only [List.getD_cons_zero] at h ⊢
    have h256 := a.toNat_lt
    rw [utf8L.eq_def]
    simp only
    rw [if_neg (by omega)]
    unfold leadV
    by_cases c1 : 194 ≤ a.toNat ∧ a.toNat ≤ 223
    · rw [if_pos c1]
      match l with
      | [] => simp
      | b :: l => simp [c1]
    · rw [if_neg c1]
      by_cases c2 : a.toNat = 224
      · rw [if_pos c2]
        match l with
        | [] => simp
        | [b] => simp [c1]
        | b :: c :: l => simp [c1, c2]
      · rw [if_neg c2]
        by_cases c3 : a.toNat = 237
        · rw [if_pos c3]
          match l with
          | [] => simp
          | [b] => simp [c1]
          | b :: c :: l => simp [c1, c2, c3]
        · rw [if_neg c3]
          by_cases c4 : 225 ≤ a.toNat ∧ a.toNat ≤ 239
          · rw [if_pos c4]
            match l with
            | [] => simp
            | [b] => simp [c1]
            | b :: c :: l => simp [c1, c2, c3, c4]
          · rw [if_neg c4]
            by_cases c5 : a.toNat = 240
            · rw [if_pos c5]
              match l with
              | [] => simp
              | [b] => simp [c1]
              | [b, c] => simp [c1, c2, c3, c4]
              | b :: c :: d :: l => simp [c1, c2, c3, c4, c5]
            · rw [if_neg c5]
              by_cases c6 : 241 ≤ a.toNat ∧ a.toNat ≤ 243
              · rw [if_pos c6]
                match l with
                | [] => simp
                | [b] => simp [c1]
                | [b, c] => simp [c1, c2, c3, c4]
                | b :: c :: d :: l => simp [c1, c2, c3, c4, c5, c6]
              · rw [if_neg c6]
                by_cases c7 : a.toNat = 244
                · rw [if_pos c7]
                  match l with
                  | [] => simp
                  | [b] => simp [c1]
                  | [b, c] => simp [c1, c2, c3, c4]
                  | b :: c :: d :: l => simp [c1, c2, c3, c4, c5, c6, c7]
                · rw [if_neg c7]
                  match l with
                  | [] => simp
                  | [b] => simp [c1]
                  | [b, c] => simp [c1, c2, c3, c4]
                  | b :: c :: d :: l => simp [c1, c2, c3, c4, c5, c6, c7]
end Go.Proofs.YtgehepiphdphjaaDoor
