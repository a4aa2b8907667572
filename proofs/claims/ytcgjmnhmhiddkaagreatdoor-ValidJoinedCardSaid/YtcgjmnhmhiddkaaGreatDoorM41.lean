/- Descriptions that have their form, and aren't long; what the document's calls make of them. -/
import Derived.Test.YtcgjmnhmhiddkaaGreatDoorM36
import Derived.Test.YtcgjmnhmhiddkaaGreatDoorM21
import Derived.Test.YtcgjmnhmhiddkaaGreatDoorM08
import Derived.Test.YtcgjmnhmhiddkaaGreatDoorM40
import Derived.Test.YtcgjmnhmhiddkaaGreatDoorM39
import Derived.Test.YtcgjmnhmhiddkaaGreatDoorM15
import Derived.Test.YtcgjmnhmhiddkaaGreatDoorM22
namespace Go.Proofs.YtcgjmnhmhiddkaaGreatDoor
open Go Go.RowKit
set_option linter.unusedVariables false
set_option linter.unusedSimpArgs false

/-- A description that has its form, and isn't long. -/
structure Sd (l : List Nd) : Prop where
  form : Form l
  len : l.length ≤ 4096
  txt : Txt l
theorem Form.at_' {l : List Nd} (h : Form l) {n : Nd} (hn : n ∈ l) : ∃ i, i < l.length ∧ atN l i = n := by
  obtain ⟨i, hi, rfl⟩ := List.mem_iff_getElem.1 hn
  exact ⟨i, hi, by unfold atN; rw [List.getD_eq_getElem?_getD, List.getElem?_eq_getElem hi]; rfl⟩
theorem Sd.mv {l : List Nd} (h : Sd l) {d : Int} (h1 : -1073741824 ≤ d) (h2 : d ≤ 1073741824) : ∀ n ∈ l, MvOk d n ∧ n.kind ≤ 9 := fun n hn => by
  have hl := h.len
  obtain ⟨i, hi, rfl⟩ := h.form.at_' hn
  exact ⟨(h.form.2.1 i hi).mvOk (by omega) (txt_at h.txt i) h1 h2, (h.form.2.1 i hi).kind9⟩
theorem Txt.snoc' {l : List Nd} (h : Txt l) {n : Nd} (hn : n.text = []) : Txt (l ++ [n]) := fun m hm => by
  rcases List.mem_append.1 hm with h1 | h1
  · exact h m h1
  · rw [List.mem_singleton.1 h1, hn]; simp
theorem Txt.mv' {l : List Nd} (h : Txt l) (d : Int) : Txt (l.map (mvN d)) := fun m hm => by
  obtain ⟨n, hn, rfl⟩ := List.mem_map.1 hm
  have e : (mvN d n).text = n.text := by unfold mvN; (repeat' split) <;> rfl
  rw [e]; exact h n hn
theorem Sd.wrap {l : List Nd} (h : Sd l) (hl : l.length ≤ 999) {kind : Int} (hk : kind = 6 ∨ kind = 8 ∨ kind = 9) : Sd (wrapL kind 0 0 l) :=
  ⟨wrap_form h.form hk ⟨rfl, rfl⟩, by unfold wrapL; rw [List.length_append]; simp; omega, by unfold wrapL; exact h.txt.snoc' rfl⟩
theorem Sd.rep {l : List Nd} (h : Sd l) (hl : l.length ≤ 999) {lo hi : Int} (h1 : 0 ≤ lo) (h2 : lo ≤ hi) (h3 : hi ≤ 255) : Sd (wrapL 7 lo hi l) :=
  ⟨wrap_form7 h.form h1 h2 h3, by unfold wrapL; rw [List.length_append]; simp; omega, by unfold wrapL; exact h.txt.snoc' rfl⟩
theorem Sd.pair {l m : List Nd} (h : Sd l) (k : Sd m) (hl : l.length + m.length ≤ 999) {kind : Int} (hk : kind = 4 ∨ kind = 5) : Sd (pairL kind l m) :=
  ⟨pair_form h.form k.form hk, by unfold pairL; rw [List.length_append, List.length_append, List.length_map]; simp; omega, by
    unfold pairL
    refine Txt.snoc' (fun n hn => ?_) rfl
    rcases List.mem_append.1 hn with h1 | h1
    · exact h.txt n h1
    · exact k.txt.mv' _ n h1⟩
theorem Sd.sub {l : List Nd} (h : Sd l) {i : Nat} (hi : i < l.length) : Sd (subL l i) :=
  ⟨sub_form hi (h.form.okTo hi), by have := h.len; rw [subL_length hi]; omega, by
    unfold subL
    refine Txt.mv' (fun n hn => ?_) _
    unfold seg at hn
    exact h.txt n (List.mem_of_mem_drop (List.mem_of_mem_take hn))⟩
theorem IsD.rwrap' {l : List Nd} {v : Value} {w : World} (h : IsD l v w) (hs : Sd l) (kind lo hi : Int) : Calls Tryz.prog 20 #[.int .i64 kind, .int .i64 lo, .int .i64 hi, v] w (DPost w (wrapL kind lo hi l)) := by
  obtain ⟨A, c, hc, rfl, hr⟩ := h
  exact rwrap_any kind lo hi l A c hs.form.1 (by have := hs.len; omega) (hs.mv (by omega) (by omega)) w hr
theorem IsD.rpair' {l m : List Nd} {u v : Value} {w : World} (h : IsD l u w) (k : IsD m v w) (hs : Sd l) (ks : Sd m) (kind : Int) : Calls Tryz.prog 18 #[.int .i64 kind, u, v] w (DPost w (pairL kind l m)) := by
  obtain ⟨A, c, hc, rfl, hr⟩ := h
  obtain ⟨B, d, hd, rfl, hq⟩ := k
  have h1 := hs.len
  have h2 := ks.len
  exact rpairs_any kind l m A B c d hs.form.1 ks.form.1 (by omega) (by omega) (hs.mv (by omega) (by omega)) (ks.mv (by omega) (by omega)) w hr hq
end Go.Proofs.YtcgjmnhmhiddkaaGreatDoor
/- How deep descriptions built of others are: plain mathematics. -/
namespace Go.Proofs.YtcgjmnhmhiddkaaGreatDoor
open Go
set_option linter.unusedVariables false
set_option linter.unusedSimpArgs false

end Go.Proofs.YtcgjmnhmhiddkaaGreatDoor
/- The anchor of layer 6. -/
namespace Go.Proofs.YtcgjmnhmhiddkaaGreatDoor
open Go Go.RowKit
set_option linter.unusedVariables false
set_option linter.unusedSimpArgs false
set_option maxRecDepth 100000

theorem IsD.pdeep {l : List Nd} {v : Value} {w : World} (h : IsD l v w) (hp : PrOk l) (hT : T10 w) {x : Nat} (hx : deepN l = x) : Calls Tryz.prog 14 #[v] w (Ans w (.int .i64 (x : Int))) := by
  obtain ⟨A, c, hc, rfl, hr⟩ := h
  subst hx
  exact pdeep_any l hp A c w hr hT
end Go.Proofs.YtcgjmnhmhiddkaaGreatDoor
/- The statement ValidOnly of layer 9, walked. -/
namespace Go.Proofs.YtcgjmnhmhiddkaaGreatDoor
open Go Go.RowKit
set_option linter.unusedVariables false
set_option linter.unusedSimpArgs false
set_option maxRecDepth 100000

/-- The tables. -/
structure TbS (w0 w : World) : Prop where
  bel : Below w0.heap.size w0 w
  t : T10 w
  u : U8T w
theorem TbS.later {w0 w w' : World} (h : TbS w0 w) (hb : Below w.heap.size w w') : TbS w0 w' := ⟨h.bel.trans (hb.mono h.bel.size), h.t.later hb, h.u.later hb⟩
/-- .. and a description. -/
structure TdS (w0 : World) (b : Nat) (an : Option Addr) (n kn : Nat) (D : List Nd) (w : World) : Prop where
  s : TbS w0 w
  box : Blk w b #[.slice an n kn] 25
  row : NRow w an D
theorem TdS.later {w0 w w' : World} {b : Nat} {an : Option Addr} {n kn : Nat} {D : List Nd} (h : TdS w0 b an n kn D w) (hb : Below w.heap.size w w') : TdS w0 b an n kn D w' := ⟨h.s.later hb, h.box.later hb, h.row.later hb⟩
theorem TdS.new {w0 w w' : World} (h : TbS w0 w) (hb : Below w.heap.size w w') {an : Option Addr} {n kn : Nat} {D : List Nd} (hr : NRow w' an D) : TdS w0 w'.heap.size an n kn D (w'.alloc (.cells #[.slice an n kn] 25)) :=
  ⟨h.later (hb.trans ((Below.refl _ _).alloc hb.size _)), Blk.new _ _ _, hr.later ((Below.refl _ _).alloc (Nat.le_refl _) _)⟩
theorem TdS.isD {w0 w : World} {b : Nat} {an : Option Addr} {n kn : Nat} {D : List Nd} (h : TdS w0 b an n kn D w) (hn : D.length = n) (hk : n ≤ kn) : IsD D (.agg #[.slice an n kn]) w := ⟨an, kn, by omega, by rw [hn], h.row⟩
theorem VOk.pr {l : List UInt8} {D : List Nd} (h : VOk l D) (hl : l.length ≤ 2000) : PrOk D := ⟨h.form, h.len, fun n hn => Nat.le_trans (h.txt n hn) hl⟩
theorem VOk.right {l : List UInt8} {D : List Nd} (h : VOk l D) : rgB D = true := by
  unfold rgB
  rw [(formB_iff D).2 h.form, h.fst]; rfl
theorem isD_same {a b : List Nd} {u v : Value} {w : World} (h : IsD a u w) (k : IsD b v w) (ha : a.length ≤ 4096) (hb : b.length ≤ 4096) {x : Bool} (hx : decide (a = b) = x) : Calls Tryz.prog 10 #[u, v] w (Ans w (.bool x)) := by
  obtain ⟨A, c, hc, rfl, hr⟩ := h
  obtain ⟨B, d, hd, rfl, hq⟩ := k
  subst hx
  exact refnsame_any a b A B c d w hr hq (by omega) (by omega)
/-- A parsed description's row, and its numbers. -/
theorem OwnN.parts {w : World} {base : Nat} {v : Value} {D : List Nd} (h : OwnN w base v D) : ∃ an kn, v = .slice an D.length kn ∧ D.length ≤ kn ∧ NRow w an D := by
  obtain ⟨A, c, hc, hv, hr⟩ := h.isD
  injection hv with hv
  exact ⟨A, c, by simpa using hv, hc, hr⟩
end Go.Proofs.YtcgjmnhmhiddkaaGreatDoor
