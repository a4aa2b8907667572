/- The statement LexWhole of layer 3, walked. -/
import Derived.Test.YtgehepiphdphjaaDoorLexAwake
namespace Go.Proofs.YtgehepiphdphjaaDoor
open Go Go.RowKit
set_option linter.unusedVariables false
set_option linter.unusedSimpArgs false

theorem read_okn {l : List UInt8} {r : List Tok} {n : Nat} (h : readL l 0 0 = .ok r) (hn : r.length = n) (w : World) (hT : U8T w) (hl : l.length ≤ 1073741823) :
    Calls Tryd.prog 20 #[.string (bs l)] w (fun e w' => ∃ A c, e = .returned (.tuple #[.slice A n c, .int .i64 0, .int .i64 0]) ∧ TRow w' A r ∧ Below w.heap.size w w') := by
  subst hn; exact read_ok h w hT hl
theorem whole_at {l : List UInt8} {r : List Tok} (h : Whole l 0 0 r) {n : Nat} (hn : r.length = n + 1) : r.getD n tok0 = { kind := 10, at_ := l.length } ∧
    ∀ k, k < n → 1 ≤ (r.getD k tok0).kind ∧ (r.getD k tok0).kind ≤ 9 ∧ (r.getD k tok0).at_ < l.length ∧ l.getD (r.getD k tok0).at_ 0 ≠ 32 := by
  constructor
  · have := h.last
    rw [List.getLast?_eq_getElem?, hn] at this
    rw [List.getD_eq_getElem?_getD, show n = n + 1 - 1 from rfl, this]; simp
  · intro k hk
    have hm : r.getD k tok0 ∈ r.dropLast := by
      rw [List.getD_eq_getElem?_getD, List.getElem?_eq_getElem (by omega)]
      rw [List.mem_iff_getElem]
      exact ⟨k, by rw [List.length_dropLast]; omega, by rw [List.getElem_dropLast]; rfl⟩
    obtain ⟨a, b, c, d⟩ := h.kinds _ hm
    exact ⟨a, b, by simpa using c, by simpa using d⟩
theorem whole_rise {l : List UInt8} {r : List Tok} (h : Whole l 0 0 r) (k : Nat) (hk : k + 1 < r.length) : (r.getD k tok0).at_ < (r.getD (k + 1) tok0).at_ := by
  have := (List.pairwise_iff_getElem.1 h.rise) k (k + 1) (by omega) hk (by omega)
  rw [List.getD_eq_getElem?_getD, List.getD_eq_getElem?_getD, List.getElem?_eq_getElem (by omega), List.getElem?_eq_getElem hk]
  exact this
theorem whole_up {l : List UInt8} {r : List Tok} (h : Whole l 0 0 r) : ∀ k, k < r.length → k ≤ (r.getD k tok0).at_
  | 0, _ => Nat.zero_le _
  | k + 1, hk => by have := whole_up h k (by omega); have := whole_rise h k hk; omega
theorem whole_len {l : List UInt8} {r : List Tok} (h : Whole l 0 0 r) {n : Nat} (hn : r.length = n + 1) : n ≤ l.length := by
  have := whole_up h n (by omega)
  rw [(whole_at h hn).1] at this; exact this
theorem whole_gap {l : List UInt8} {r : List Tok} (h : Whole l 0 0 r) (i : Nat) (hi : i < (r.getD 0 tok0).at_) : l.getD i 0 = 32 := by
  cases r with
  | nil => exact absurd rfl h.ne
  | cons t r => exact h.gap t rfl i (Nat.zero_le _) (by simpa using hi)
structure WhS (w0 : World) (b o : Nat) (r : List Tok) (w : World) : Prop where
  bel : Below w0.heap.size w0 w
  row : TRow w (some ⟨b, o, none⟩) r
theorem WhS.later {w0 w w' : World} {b o : Nat} {r : List Tok} (h : WhS w0 b o r w) (hb : Below w.heap.size w w') : WhS w0 b o r w' := ⟨h.bel.trans (hb.mono h.bel.size), h.row.later hb⟩
def WhL (w0 : World) (b o : Nat) (r : List Tok) (n : Nat) (i : Value) (w : World) : Prop := ∃ k : Nat, k ≤ n ∧ i = .int .i64 (k : Int) ∧ WhS w0 b o r w
end Go.Proofs.YtgehepiphdphjaaDoor
