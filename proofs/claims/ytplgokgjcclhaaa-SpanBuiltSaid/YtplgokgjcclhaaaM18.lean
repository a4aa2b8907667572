/- Sizes of nodes: the loop, walked. -/
import Derived.Test.YtplgokgjcclhaaaM17
import Derived.Test.YtplgokgjcclhaaaM03
namespace Go.Proofs.Ytplgokgjcclhaaa
open Go Go.RowKit
set_option linter.unusedVariables false
set_option linter.unusedSimpArgs false

theorem OwnI.lower {w : World} {base base' : Nat} {v : Value} {l : List Int} (h : OwnI w base v l) (hb : base' ≤ base) : OwnI w base' v l := by
  obtain ⟨h0, ⟨hv, hn⟩ | ⟨g, cap, cur, hv, hg, hr⟩⟩ := h
  · exact ⟨h0, .inl ⟨hv, hn⟩⟩
  · exact ⟨h0, .inr ⟨g, cap, cur, hv, Nat.le_trans hb hg, hr⟩⟩
/-- What a node of a description must be, for its size to be told. -/
structure NdOk (n : Nd) : Prop where
  kind : 1 ≤ n.kind ∧ n.kind ≤ 9
  hi : -9223372036854775808 ≤ n.hi ∧ n.hi ≤ 9223372036854775807
  text : n.text.length ≤ 281474976710656
theorem natI_snoc (S : List Nat) (x : Nat) : natI S ++ [(x : Int)] = natI (S ++ [x]) := by unfold natI; simp
end Go.Proofs.Ytplgokgjcclhaaa
/- Bounds of pairs: walked. -/
namespace Go.Proofs.Ytplgokgjcclhaaa
open Go Go.RowKit
set_option linter.unusedVariables false
set_option linter.unusedSimpArgs false

end Go.Proofs.Ytplgokgjcclhaaa
/- The document's sizes: walked. -/
namespace Go.Proofs.Ytplgokgjcclhaaa
open Go Go.RowKit
set_option linter.unusedVariables false
set_option linter.unusedSimpArgs false

end Go.Proofs.Ytplgokgjcclhaaa
/- Sizes: what the laws call, of descriptions wherever they stand. -/
namespace Go.Proofs.Ytplgokgjcclhaaa
open Go Go.RowKit
set_option linter.unusedVariables false
set_option linter.unusedSimpArgs false

/-- A description that has its form, and isn't long. -/
structure Sm (l : List Nd) : Prop where
  form : Form l
  len : l.length ≤ 4096
  txt : Txt l
theorem Form.at_ {l : List Nd} (h : Form l) {n : Nd} (hn : n ∈ l) : ∃ i, i < l.length ∧ atN l i = n := by
  obtain ⟨i, hi, rfl⟩ := List.mem_iff_getElem.1 hn
  exact ⟨i, hi, by unfold atN; rw [List.getD_eq_getElem?_getD, List.getElem?_eq_getElem hi]; rfl⟩
theorem okN.ndOk {l : List Nd} {i : Nat} {n : Nd} (h : okN l i n) (ht : n.text.length ≤ 281474976710656) : NdOk n := by
  obtain ⟨hb, hk⟩ := h
  have hh : n.hi = 0 ∨ (0 ≤ n.hi ∧ n.hi ≤ 255) := by
    rcases hk with hk | hk | ⟨hk, _⟩ | ⟨hk, _⟩ | ⟨hk, _, h1, h2, h3⟩ | ⟨hk, _⟩
    · left; rw [← hb]; unfold backN; rw [if_pos hk]
    · left; rw [← hb]; unfold backN; rw [if_neg (by omega), if_pos hk]
    · left; rw [← hb]; unfold backN; rw [if_neg (by omega), if_neg (by omega), if_pos hk]
    · left; rw [← hb]; unfold backN; rw [if_neg (by omega), if_neg (by omega), if_neg (by omega), if_pos hk]
    · right; omega
    · left; rw [← hb]; unfold backN; rw [if_neg (by omega), if_neg (by omega), if_neg (by omega), if_neg (by omega), if_neg (by omega), if_pos hk]
  exact ⟨by omega, by omega, ht⟩
theorem Sm.ok {l : List Nd} (h : Sm l) : ∀ n ∈ l, NdOk n := fun n hn => by
  obtain ⟨i, hi, rfl⟩ := h.form.at_ hn
  exact (h.form.2.1 i hi).ndOk (txt_at h.txt i)
theorem Sm.mv {l : List Nd} (h : Sm l) {d : Int} (h1 : -1073741824 ≤ d) (h2 : d ≤ 1073741824) : ∀ n ∈ l, MvOk d n ∧ n.kind ≤ 9 := fun n hn => by
  have hl := h.len
  obtain ⟨i, hi, rfl⟩ := h.form.at_ hn
  exact ⟨(h.form.2.1 i hi).mvOk (by omega) (txt_at h.txt i) h1 h2, (h.form.2.1 i hi).kind9⟩
theorem Txt.snoc {l : List Nd} (h : Txt l) {n : Nd} (hn : n.text = []) : Txt (l ++ [n]) := fun m hm => by
  rcases List.mem_append.1 hm with h1 | h1
  · exact h m h1
  · rw [List.mem_singleton.1 h1, hn]; simp
theorem Txt.mv {l : List Nd} (h : Txt l) (d : Int) : Txt (l.map (mvN d)) := fun m hm => by
  obtain ⟨n, hn, rfl⟩ := List.mem_map.1 hm
  have e : (mvN d n).text = n.text := by unfold mvN; (repeat' split) <;> rfl
  rw [e]; exact h n hn
theorem Sm.wrap {l : List Nd} (h : Sm l) (hl : l.length ≤ 999) {kind : Int} (hk : kind = 6 ∨ kind = 8 ∨ kind = 9) : Sm (wrapL kind 0 0 l) :=
  ⟨wrap_form h.form hk ⟨rfl, rfl⟩, by unfold wrapL; rw [List.length_append]; simp; omega, by unfold wrapL; exact h.txt.snoc rfl⟩
theorem Sm.rep {l : List Nd} (h : Sm l) (hl : l.length ≤ 999) {lo hi : Int} (h1 : 0 ≤ lo) (h2 : lo ≤ hi) (h3 : hi ≤ 255) : Sm (wrapL 7 lo hi l) :=
  ⟨wrap_form7 h.form h1 h2 h3, by unfold wrapL; rw [List.length_append]; simp; omega, by unfold wrapL; exact h.txt.snoc rfl⟩
theorem Sm.pair {l m : List Nd} (h : Sm l) (k : Sm m) (hl : l.length + m.length ≤ 999) {kind : Int} (hk : kind = 4 ∨ kind = 5) : Sm (pairL kind l m) :=
  ⟨pair_form h.form k.form hk, by unfold pairL; rw [List.length_append, List.length_append, List.length_map]; simp; omega, by
    unfold pairL
    refine Txt.snoc (fun n hn => ?_) rfl
    rcases List.mem_append.1 hn with h1 | h1
    · exact h.txt n h1
    · exact k.txt.mv _ n h1⟩
theorem Sm.sub {l : List Nd} (h : Sm l) {i : Nat} (hi : i < l.length) : Sm (subL l i) :=
  ⟨sub_form hi (h.form.okTo hi), by have := h.len; rw [subL_length hi]; omega, by
    unfold subL
    refine Txt.mv (fun n hn => ?_) _
    unfold seg at hn
    exact h.txt n (List.mem_of_mem_drop (List.mem_of_mem_take hn))⟩
theorem IsD.rwrap {l : List Nd} {v : Value} {w : World} (h : IsD l v w) (hs : Sm l) (kind lo hi : Int) : Calls Try.prog 16 #[.int .i64 kind, .int .i64 lo, .int .i64 hi, v] w (DPost w (wrapL kind lo hi l)) := by
  obtain ⟨A, c, hc, rfl, hr⟩ := h
  exact rwrap_any kind lo hi l A c hs.form.1 (by have := hs.len; omega) (hs.mv (by omega) (by omega)) w hr
theorem IsD.rpair {l m : List Nd} {u v : Value} {w : World} (h : IsD l u w) (k : IsD m v w) (hs : Sm l) (ks : Sm m) (kind : Int) : Calls Try.prog 15 #[.int .i64 kind, u, v] w (DPost w (pairL kind l m)) := by
  obtain ⟨A, c, hc, rfl, hr⟩ := h
  obtain ⟨B, d, hd, rfl, hq⟩ := k
  have h1 := hs.len
  have h2 := ks.len
  exact rpairs_any kind l m A B c d hs.form.1 ks.form.1 (by omega) (by omega) (hs.mv (by omega) (by omega)) (ks.mv (by omega) (by omega)) w hr hq
theorem IsD.rsub {l : List Nd} {v : Value} {w : World} (h : IsD l v w) (hs : Sm l) {i : Nat} (hi : i < l.length) : Calls Try.prog 13 #[v, .int .i64 (i : Int)] w (DPost w (subL l i)) := by
  obtain ⟨A, c, hc, rfl, hr⟩ := h
  exact rsub_any l A c i hc hi (by have := hs.len; omega) (hs.form.okTo hi) hs.txt w hr
end Go.Proofs.Ytplgokgjcclhaaa
