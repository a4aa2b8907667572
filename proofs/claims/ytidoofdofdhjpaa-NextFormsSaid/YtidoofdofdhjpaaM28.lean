/- The anchor of layer 4: answers that the document fixes. -/
import Derived.Test.YtidoofdofdhjpaaM27
import Derived.Test.YtidoofdofdhjpaaM25
import Derived.Test.YtidoofdofdhjpaaM26
namespace Go.Proofs.Ytidoofdofdhjpaa
open Go Go.RowKit
set_option linter.unusedVariables false
set_option linter.unusedSimpArgs false

end Go.Proofs.Ytidoofdofdhjpaa
/- The statement NodeParts of layer 4, walked. -/
namespace Go.Proofs.Ytidoofdofdhjpaa
open Go Go.RowKit
set_option linter.unusedVariables false
set_option linter.unusedSimpArgs false

theorem Form.mvOk {l : List Nd} (h : Form l) (ht : Txt l) (hlen : l.length ≤ 1073741823) {d : Int} (h1 : -1073741824 ≤ d) (h2 : d ≤ 1073741824) : ∀ n ∈ l, MvOk d n := fun n hn => by
  obtain ⟨i, hi, e⟩ := List.mem_iff_getElem.1 hn
  have ha : atN l i = n := by unfold atN; rw [List.getD_eq_getElem?_getD, List.getElem?_eq_getElem hi]; exact e
  have := (h.2.1 i hi).mvOk (by omega) (txt_at ht i) h1 h2
  rwa [ha] at this
end Go.Proofs.Ytidoofdofdhjpaa
/- The statement NodeForms of layer 4, walked. -/
namespace Go.Proofs.Ytidoofdofdhjpaa
open Go Go.RowKit
set_option linter.unusedVariables false
set_option linter.unusedSimpArgs false

theorem okN.kind9 {l : List Nd} {i : Nat} {n : Nd} (h : okN l i n) : n.kind ≤ 9 := by
  obtain ⟨_, h⟩ := h; omega
end Go.Proofs.Ytidoofdofdhjpaa
/- The statement NodeTurned of layer 4, walked. -/
namespace Go.Proofs.Ytidoofdofdhjpaa
open Go Go.RowKit
set_option linter.unusedVariables false
set_option linter.unusedSimpArgs false

theorem NRow.take {w : World} {A : Option Addr} {l : List Nd} (h : NRow w A l) (n : Nat) : NRow w A (l.take n) := fun i hi => by
  rw [List.length_take] at hi
  have e : (l.take n).getD i nd0 = l.getD i nd0 := by
    rw [List.getD_eq_getElem?_getD, List.getD_eq_getElem?_getD, List.getElem?_take, if_pos (by omega)]
  rw [e]; exact h i (by omega)
theorem Txt.take {l : List Nd} (h : Txt l) (n : Nat) : Txt (l.take n) := fun x hx => h x (List.mem_of_mem_take hx)
def OwnB (base : Nat) (l : List Nd) (v : Value) (w : World) : Prop := OwnN w base v l ∧ base ≤ w.heap.size
theorem OwnB.later (base : Nat) (l : List Nd) (v : Value) (w w' : World) (h : OwnB base l v w) (hb : Below w.heap.size w w') : OwnB base l v w' := ⟨h.1.later hb, Nat.le_trans h.2 hb.size⟩
def New10 (n : Nd) (v : Value) (w : World) : Prop := ∃ b, v = .slice (some ⟨b, 0, none⟩) 1 1 ∧ Blk w b (ndC n) 58
theorem New10.later (n : Nd) (v : Value) (w w' : World) (h : New10 n v w) (hb : Below w.heap.size w w') : New10 n v w' := by obtain ⟨b, h1, h2⟩ := h; exact ⟨b, h1, h2.later hb⟩
theorem OwnN.base {w : World} {b b' : Nat} {v : Value} {l : List Nd} (h : OwnN w b v l) (hb : b' ≤ b) : OwnN w b' v l := by
  obtain ⟨h0, ⟨hv, hn⟩ | ⟨g, cap, cur, hv, hg, hr⟩⟩ := h
  · exact ⟨h0, .inl ⟨hv, hn⟩⟩
  · exact ⟨h0, .inr ⟨g, cap, cur, hv, Nat.le_trans hb hg, hr⟩⟩
end Go.Proofs.Ytidoofdofdhjpaa
