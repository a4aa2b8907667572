/- Bounds of pairs: walked. -/
import Derived.Test.YtidoofdofdhjpaaM03
import Derived.Test.YtidoofdofdhjpaaM29
namespace Go.Proofs.Ytidoofdofdhjpaa
open Go Go.RowKit
set_option linter.unusedVariables false
set_option linter.unusedSimpArgs false

end Go.Proofs.Ytidoofdofdhjpaa
/- The document's sizes: walked. -/
namespace Go.Proofs.Ytidoofdofdhjpaa
open Go Go.RowKit
set_option linter.unusedVariables false
set_option linter.unusedSimpArgs false

end Go.Proofs.Ytidoofdofdhjpaa
/- Sizes: what the laws call, of descriptions wherever they stand. -/
namespace Go.Proofs.Ytidoofdofdhjpaa
open Go Go.RowKit
set_option linter.unusedVariables false
set_option linter.unusedSimpArgs false

/-- A description that has its form, and isn't long. -/
structure Sm (l : List Nd) : Prop where
  form : Form l
  len : l.length ≤ 4096
  txt : Txt l
theorem Form.at_ {l : List Nd} (h : Form l) {n : Nd} (hn : n ∈ l) : ∃ i, i < l.length ∧ atN l i = n := by
  obtain ⟨i, hi, rfl⟩ := List.mem_iff_getElem.1 hn
  exact ⟨i, hi, by unfold atN; rw [List.getD_eq_getElem?_getD, List.getElem?_eq_getElem hi]; rfl⟩
theorem okN.ndOk {l : List Nd} {i : Nat} {n : Nd} (h : okN l i n) (ht : n.text.length ≤ 281474976710656) : NdOk n := by
  obtain ⟨hb, hk⟩ := h
  have hh : n.hi = 0 ∨ (0 ≤ n.hi ∧ n.hi ≤ 255) := by
    rcases hk with hk | hk | ⟨hk, _⟩ | ⟨hk, _⟩ | ⟨hk, _, h1, h2, h3⟩ | ⟨hk, _⟩
    · left; rw [← hb]; unfold backN; rw [if_pos hk]
    · left; rw [← hb]; unfold backN; rw [if_neg (by omega), if_pos hk]
    · left; rw [← hb]; unfold backN; rw [if_neg (by omega), if_neg (by omega), if_pos hk]
    · left; rw [← hb]; unfold backN; rw [if_neg (by omega), if_neg (by omega), if_neg (by omega), if_pos hk]
    · right; omega
    · left; rw [← hb]; unfold backN; rw [if_neg (by omega), if_neg (by omega), if_neg (by omega), if_neg (by omega), if_neg (by omega), if_pos hk]
  exact ⟨by omega, by omega, ht⟩
theorem Sm.ok {l : List Nd} (h : Sm l) : ∀ n ∈ l, NdOk n := fun n hn => by
  obtain ⟨i, hi, rfl⟩ := h.form.at_ hn
  exact (h.form.2.1 i hi).ndOk (txt_at h.txt i)
theorem Sm.mv {l : List Nd} (h : Sm l) {d : Int} (h1 : -1073741824 ≤ d) (h2 : d ≤ 1073741824) : ∀ n ∈ l, MvOk d n ∧ n.kind ≤ 9 := fun n hn => by
  have hl := h.len
  obtain ⟨i, hi, rfl⟩ := h.form.at_ hn
  exact ⟨(h.form.2.1 i hi).mvOk (by omega) (txt_at h.txt i) h1 h2, (h.form.2.1 i hi).kind9⟩
theorem Txt.snoc {l : List Nd} (h : Txt l) {n : Nd} (hn : n.text = []) : Txt (l ++ [n]) := fun m hm => by
  rcases List.mem_append.1 hm with h1 | h1
  · exact h m h1
  · rw [List.mem_singleton.1 h1, hn]; simp
theorem Txt.mv {l : List Nd} (h : Txt l) (d : Int) : Txt (l.map (mvN d)) := fun m hm => by
  obtain ⟨n, hn, rfl⟩ := List.mem_map.1 hm
  have e : (mvN d n).text = n.text := by unfold mvN; (repeat' split) <;> rfl
  rw [e]; exact h n hn
theorem Sm.wrap {l : List Nd} (h : Sm l) (hl : l.length ≤ 999) {kind : Int} (hk : kind = 6 ∨ kind = 8 ∨ kind = 9) : Sm (wrapL kind 0 0 l) :=
  ⟨wrap_form h.form hk ⟨rfl, rfl⟩, by unfold wrapL; rw [List.length_append]; simp; omega, by unfold wrapL; exact h.txt.snoc rfl⟩
theorem IsD.rwrap {l : List Nd} {v : Value} {w : World} (h : IsD l v w) (hs : Sm l) (kind lo hi : Int) : Calls Try.prog 20 #[.int .i64 kind, .int .i64 lo, .int .i64 hi, v] w (DPost w (wrapL kind lo hi l)) := by
  obtain ⟨A, c, hc, rfl, hr⟩ := h
  exact rwrap_any kind lo hi l A c hs.form.1 (by have := hs.len; omega) (hs.mv (by omega) (by omega)) w hr
theorem IsD.rpair {l m : List Nd} {u v : Value} {w : World} (h : IsD l u w) (k : IsD m v w) (hs : Sm l) (ks : Sm m) (kind : Int) : Calls Try.prog 26 #[.int .i64 kind, u, v] w (DPost w (pairL kind l m)) := by
  obtain ⟨A, c, hc, rfl, hr⟩ := h
  obtain ⟨B, d, hd, rfl, hq⟩ := k
  have h1 := hs.len
  have h2 := ks.len
  exact rpairs_any kind l m A B c d hs.form.1 ks.form.1 (by omega) (by omega) (hs.mv (by omega) (by omega)) (ks.mv (by omega) (by omega)) w hr hq
end Go.Proofs.Ytidoofdofdhjpaa
/- Ways of nothing of one node, the first that isn't right, right: walked. -/
namespace Go.Proofs.Ytidoofdofdhjpaa
open Go Go.RowKit
set_option linter.unusedVariables false
set_option linter.unusedSimpArgs false
set_option maxRecDepth 100000

/-- Right, as the program tells it. -/
def rgB (l : List Nd) : Bool := !(fstW l).2 && formB l
theorem rgB_iff (l : List Nd) : rgB l = true ↔ Rgt l := by
  unfold rgB Rgt
  rw [Bool.and_eq_true, formB_iff, Bool.not_eq_true', fstW_right]
  exact ⟨fun h => ⟨h.2, h.1⟩, fun h => ⟨h.2, h.1⟩⟩
/-- The first that isn't right, as it is answered. -/
def fstV (l : List Nd) : Value := .tuple #[.int .i64 ((fstW l).1 : Int), .bool (fstW l).2]
end Go.Proofs.Ytidoofdofdhjpaa
