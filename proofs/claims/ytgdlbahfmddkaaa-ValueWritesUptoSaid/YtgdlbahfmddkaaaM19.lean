/- Bounds of pairs: walked. -/
import Derived.Test.YtgdlbahfmddkaaaM03
import Derived.Test.YtgdlbahfmddkaaaM18
import Derived.Test.YtgdlbahfmddkaaaM12
namespace Go.Proofs.Ytgdlbahfmddkaaa
open Go Go.RowKit
set_option linter.unusedVariables false
set_option linter.unusedSimpArgs false

end Go.Proofs.Ytgdlbahfmddkaaa
/- The document's sizes: walked. -/
namespace Go.Proofs.Ytgdlbahfmddkaaa
open Go Go.RowKit
set_option linter.unusedVariables false
set_option linter.unusedSimpArgs false

end Go.Proofs.Ytgdlbahfmddkaaa
/- Sizes: what the laws call, of descriptions wherever they stand. -/
namespace Go.Proofs.Ytgdlbahfmddkaaa
open Go Go.RowKit
set_option linter.unusedVariables false
set_option linter.unusedSimpArgs false

/-- A description that has its form, and isn't long. -/
structure Sm (l : List Nd) : Prop where
  form : Form l
  len : l.length ≤ 4096
  txt : Txt l
theorem Form.at_ {l : List Nd} (h : Form l) {n : Nd} (hn : n ∈ l) : ∃ i, i < l.length ∧ atN l i = n := by
  obtain ⟨i, hi, rfl⟩ := List.mem_iff_getElem.1 hn
  exact ⟨i, hi, by unfold atN; rw [List.getD_eq_getElem?_getD, List.getElem?_eq_getElem hi]; rfl⟩
theorem okN.ndOk {l : List Nd} {i : Nat} {n : Nd} (h : okN l i n) (ht : n.text.length ≤ 281474976710656) : NdOk n := by
  obtain ⟨hb, hk⟩ := h
  have hh : n.hi = 0 ∨ (0 ≤ n.hi ∧ n.hi ≤ 255) := by
    rcases hk with hk | hk | ⟨hk, _⟩ | ⟨hk, _⟩ | ⟨hk, _, h1, h2, h3⟩ | ⟨hk, _⟩
    · left; rw [← hb]; unfold backN; rw [if_pos hk]
    · left; rw [← hb]; unfold backN; rw [if_neg (by omega), if_pos hk]
    · left; rw [← hb]; unfold backN; rw [if_neg (by omega), if_neg (by omega), if_pos hk]
    · left; rw [← hb]; unfold backN; rw [if_neg (by omega), if_neg (by omega), if_neg (by omega), if_pos hk]
    · right; omega
    · left; rw [← hb]; unfold backN; rw [if_neg (by omega), if_neg (by omega), if_neg (by omega), if_neg (by omega), if_neg (by omega), if_pos hk]
  exact ⟨by omega, by omega, ht⟩
theorem Sm.ok {l : List Nd} (h : Sm l) : ∀ n ∈ l, NdOk n := fun n hn => by
  obtain ⟨i, hi, rfl⟩ := h.form.at_ hn
  exact (h.form.2.1 i hi).ndOk (txt_at h.txt i)
theorem Sm.mv {l : List Nd} (h : Sm l) {d : Int} (h1 : -1073741824 ≤ d) (h2 : d ≤ 1073741824) : ∀ n ∈ l, MvOk d n ∧ n.kind ≤ 9 := fun n hn => by
  have hl := h.len
  obtain ⟨i, hi, rfl⟩ := h.form.at_ hn
  exact ⟨(h.form.2.1 i hi).mvOk (by omega) (txt_at h.txt i) h1 h2, (h.form.2.1 i hi).kind9⟩
theorem Txt.snoc {l : List Nd} (h : Txt l) {n : Nd} (hn : n.text = []) : Txt (l ++ [n]) := fun m hm => by
  rcases List.mem_append.1 hm with h1 | h1
  · exact h m h1
  · rw [List.mem_singleton.1 h1, hn]; simp
theorem Txt.mv {l : List Nd} (h : Txt l) (d : Int) : Txt (l.map (mvN d)) := fun m hm => by
  obtain ⟨n, hn, rfl⟩ := List.mem_map.1 hm
  have e : (mvN d n).text = n.text := by unfold mvN; (repeat' split) <;> rfl
  rw [e]; exact h n hn
theorem Sm.wrap {l : List Nd} (h : Sm l) (hl : l.length ≤ 999) {kind : Int} (hk : kind = 6 ∨ kind = 8 ∨ kind = 9) : Sm (wrapL kind 0 0 l) :=
  ⟨wrap_form h.form hk ⟨rfl, rfl⟩, by unfold wrapL; rw [List.length_append]; simp; omega, by unfold wrapL; exact h.txt.snoc rfl⟩
theorem Sm.rep {l : List Nd} (h : Sm l) (hl : l.length ≤ 999) {lo hi : Int} (h1 : 0 ≤ lo) (h2 : lo ≤ hi) (h3 : hi ≤ 255) : Sm (wrapL 7 lo hi l) :=
  ⟨wrap_form7 h.form h1 h2 h3, by unfold wrapL; rw [List.length_append]; simp; omega, by unfold wrapL; exact h.txt.snoc rfl⟩
theorem Sm.pair {l m : List Nd} (h : Sm l) (k : Sm m) (hl : l.length + m.length ≤ 999) {kind : Int} (hk : kind = 4 ∨ kind = 5) : Sm (pairL kind l m) :=
  ⟨pair_form h.form k.form hk, by unfold pairL; rw [List.length_append, List.length_append, List.length_map]; simp; omega, by
    unfold pairL
    refine Txt.snoc (fun n hn => ?_) rfl
    rcases List.mem_append.1 hn with h1 | h1
    · exact h.txt n h1
    · exact k.txt.mv _ n h1⟩
theorem Sm.sub {l : List Nd} (h : Sm l) {i : Nat} (hi : i < l.length) : Sm (subL l i) :=
  ⟨sub_form hi (h.form.okTo hi), by have := h.len; rw [subL_length hi]; omega, by
    unfold subL
    refine Txt.mv (fun n hn => ?_) _
    unfold seg at hn
    exact h.txt n (List.mem_of_mem_drop (List.mem_of_mem_take hn))⟩
theorem IsD.rwrap {l : List Nd} {v : Value} {w : World} (h : IsD l v w) (hs : Sm l) (kind lo hi : Int) : Calls Try.prog 21 #[.int .i64 kind, .int .i64 lo, .int .i64 hi, v] w (DPost w (wrapL kind lo hi l)) := by
  obtain ⟨A, c, hc, rfl, hr⟩ := h
  exact rwrap_any kind lo hi l A c hs.form.1 (by have := hs.len; omega) (hs.mv (by omega) (by omega)) w hr
theorem IsD.rsub {l : List Nd} {v : Value} {w : World} (h : IsD l v w) (hs : Sm l) {i : Nat} (hi : i < l.length) : Calls Try.prog 19 #[v, .int .i64 (i : Int)] w (DPost w (subL l i)) := by
  obtain ⟨A, c, hc, rfl, hr⟩ := h
  exact rsub_any l A c i hc hi (by have := hs.len; omega) (hs.form.okTo hi) hs.txt w hr
end Go.Proofs.Ytgdlbahfmddkaaa
/- Values in memory. -/
namespace Go.Proofs.Ytgdlbahfmddkaaa
open Go Go.RowKit
set_option linter.unusedVariables false
set_option linter.unusedSimpArgs false

/-- A value's cells, its kids standing where they do. -/
def vlC (v : Vl) (B : Option Addr) (c : Nat) : Array Value := #[.int .i64 v.kind, .int .u8 ((v.byte.toNat : Nat) : Int), .string (bs v.text), .int .i64 v.pick, .slice B v.kids.len c]
/-- Values in a row, from the i-th place on. -/
def VRow (w : World) : Option Addr → Nat → Vs → Prop
  | _, _, .nil => True
  | A, i, .cons k b t p ks r => (∃ g o, A = some ⟨g, o, none⟩ ∧ g < w.heap.size ∧ ∃ B c, ks.len ≤ c ∧ (∀ j, j < 5 → w.cell? ⟨g, o + i * 5 + j, none⟩ = (vlC ⟨k, b, t, p, ks⟩ B c)[j]?) ∧ VRow w B 0 ks) ∧ VRow w A (i + 1) r
theorem VRow.later {w w' : World} (hb : Below w.heap.size w w') : ∀ {s : Vs} {A : Option Addr} {i : Nat}, VRow w A i s → VRow w' A i s
  | .nil, A, i, h => trivial
  | .cons k b t p ks r, A, i, h => by
    obtain ⟨⟨g, o, h1, h2, B, c, h3, h4, h5⟩, h6⟩ := h
    exact ⟨⟨g, o, h1, Nat.lt_of_lt_of_le h2 hb.size, B, c, h3, fun j hj => (hb.cell (p := ⟨g, o + i * 5 + j, none⟩) h2).trans (h4 j hj), VRow.later hb h5⟩, VRow.later hb h6⟩
/-- What stands at a place. -/
def VAt (w : World) (g o : Nat) (v : Vl) : Prop := ∃ B c, v.kids.len ≤ c ∧ (∀ j, j < 5 → w.cell? ⟨g, o + j, none⟩ = (vlC v B c)[j]?) ∧ VRow w B 0 v.kids
theorem Vs.len_cons (k : Int) (b : UInt8) (t : List UInt8) (p : Int) (ks r : Vs) : (Vs.cons k b t p ks r).len = r.len + 1 := rfl
theorem VRow.at_ {w : World} : ∀ {s : Vs} {A : Option Addr} {i j : Nat}, VRow w A i s → j < s.len → ∃ g o, A = some ⟨g, o, none⟩ ∧ g < w.heap.size ∧ VAt w g (o + (i + j) * 5) (s.at j)
  | .nil, A, i, j, h, hj => absurd hj (Nat.not_lt_zero j)
  | .cons k b t p ks r, A, i, 0, h, hj => by
    obtain ⟨⟨g, o, h1, h2, B, c, h3, h4, h5⟩, h6⟩ := h
    exact ⟨g, o, h1, h2, B, c, h3, h4, h5⟩
  | .cons k b t p ks r, A, i, j + 1, h, hj => by
    obtain ⟨g, o, h1, h2, h3⟩ := VRow.at_ h.2 (j := j) (by rw [Vs.len_cons] at hj; omega)
    exact ⟨g, o, h1, h2, by rw [show i + (j + 1) = i + 1 + j by omega]; exact h3⟩
theorem VRow.of {w : World} {g o : Nat} (hg : g < w.heap.size) : ∀ {s : Vs} {i : Nat}, (∀ j, j < s.len → VAt w g (o + (i + j) * 5) (s.at j)) → VRow w (some ⟨g, o, none⟩) i s
  | .nil, i, h => trivial
  | .cons k b t p ks r, i, h => by
    obtain ⟨B, c, h3, h4, h5⟩ := h 0 (by rw [Vs.len_cons]; omega)
    exact ⟨⟨g, o, rfl, hg, B, c, h3, h4, h5⟩, VRow.of hg (fun j hj => by
      have := h (j + 1) (by rw [Vs.len_cons]; omega)
      rw [show i + 1 + j = i + (j + 1) by omega]; exact this)⟩
/-- A value that is handed on. -/
def IsV (w : World) (u : Value) (v : Vl) : Prop := ∃ B c, v.kids.len ≤ c ∧ u = .agg (vlC v B c) ∧ VRow w B 0 v.kids
theorem IsV.later {w w' : World} {u : Value} {v : Vl} (h : IsV w u v) (hb : Below w.heap.size w w') : IsV w' u v := by
  obtain ⟨B, c, h1, h2, h3⟩ := h
  exact ⟨B, c, h1, h2, h3.later hb⟩
theorem VAt.five {w : World} {g o : Nat} {v : Vl} (h : VAt w g o v) : ∃ B c, v.kids.len ≤ c ∧ w.cell? ⟨g, o, none⟩ = some (.int .i64 v.kind) ∧ w.cell? ⟨g, o + 1, none⟩ = some (.int .u8 ((v.byte.toNat : Nat) : Int)) ∧ w.cell? ⟨g, o + 2, none⟩ = some (.string (bs v.text)) ∧ w.cell? ⟨g, o + 3, none⟩ = some (.int .i64 v.pick) ∧ w.cell? ⟨g, o + 4, none⟩ = some (.slice B v.kids.len c) ∧ VRow w B 0 v.kids := by
  obtain ⟨B, c, h1, h2, h3⟩ := h
  exact ⟨B, c, h1, h2 0 (by decide), h2 1 (by decide), h2 2 (by decide), h2 3 (by decide), h2 4 (by decide), h3⟩
end Go.Proofs.Ytgdlbahfmddkaaa
