/- Rows of classes in memory: one that is read, one that a call owns, and what an append leaves. -/
import Derived.Test.YtidoofdofdhjpaaM13
import Derived.Test.YtidoofdofdhjpaaM14
import Derived.Test.YtidoofdofdhjpaaM07
namespace Go.Proofs.Ytidoofdofdhjpaa
open Go Go.RowKit
set_option linter.unusedVariables false

/-- The cells of classes, one behind the other. -/
def flat4 : List (BitVec 256) → List Value
  | [] => []
  | s :: l => .int .u64 (wd s 0) :: .int .u64 (wd s 1) :: .int .u64 (wd s 2) :: .int .u64 (wd s 3) :: flat4 l
theorem flat4_length : ∀ l, (flat4 l).length = l.length * 4
  | [] => rfl
  | s :: l => by simp only [flat4, List.length_cons, flat4_length l]; omega
theorem flat4_append : ∀ l m, flat4 (l ++ m) = flat4 l ++ flat4 m
  | [], _ => rfl
  | s :: l, m => by simp only [List.cons_append, flat4, flat4_append l m]
theorem flat4_get : ∀ (l : List (BitVec 256)) (i j : Nat), i < l.length → j < 4 → (flat4 l)[i * 4 + j]? = some (.int .u64 (wd (l.getD i 0) j))
  | [], i, j, hi, _ => by simp at hi
  | s :: l, 0, j, _, hj => by
    rcases (by omega : j = 0 ∨ j = 1 ∨ j = 2 ∨ j = 3) with rfl | rfl | rfl | rfl <;> rfl
  | s :: l, i + 1, j, hi, hj => by
    have ih := flat4_get l i j (by simpa using hi) hj
    rw [show (i + 1) * 4 + j = i * 4 + j + 1 + 1 + 1 + 1 by omega]
    simpa [flat4] using ih

/-- A row of classes that is read: at whatever place. -/
def LRow (w : World) (a : Option Addr) (l : List (BitVec 256)) : Prop :=
  ∀ i, i < l.length → ∃ b off, a = some ⟨b, off, none⟩ ∧ b < w.heap.size ∧ ∀ j, j < 4 → w.cell? ⟨b, off + i * 4 + j, none⟩ = some (.int .u64 (wd (l.getD i 0) j))
theorem LRow.later {w w' : World} {a : Option Addr} {l : List (BitVec 256)} (h : LRow w a l) (hb : Below w.heap.size w w') : LRow w' a l := fun i hi => by
  obtain ⟨b, off, ha, hlt, hc⟩ := h i hi
  exact ⟨b, off, ha, Nat.lt_of_lt_of_le hlt hb.size, fun j hj => (hb.cell (p := ⟨b, off + i * 4 + j, none⟩) hlt).trans (hc j hj)⟩
theorem LRow.nil (w : World) (a : Option Addr) : LRow w a [] := fun i hi => by simp at hi
theorem LRow.cells {w : World} {a : Option Addr} {l : List (BitVec 256)} (h : LRow w a l) (i : Nat) (hi : i < l.length) : ∃ b off, a = some ⟨b, off, none⟩ ∧ b < w.heap.size ∧
    (w.cell? ⟨b, off + i * 4, none⟩ = some (.int .u64 (wd (l.getD i 0) 0)) ∧ w.cell? ⟨b, off + i * 4 + 1, none⟩ = some (.int .u64 (wd (l.getD i 0) 1)) ∧ w.cell? ⟨b, off + i * 4 + 2, none⟩ = some (.int .u64 (wd (l.getD i 0) 2)) ∧ w.cell? ⟨b, off + i * 4 + 3, none⟩ = some (.int .u64 (wd (l.getD i 0) 3))) := by
  obtain ⟨b, off, ha, hlt, hc⟩ := h i hi
  exact ⟨b, off, ha, hlt, hc 0 (by omega), hc 1 (by omega), hc 2 (by omega), hc 3 (by omega)⟩
theorem CRow.lrow {w : World} {b n : Nat} {f : Nat → BitVec 256} (h : CRow w b n f) {l : List (BitVec 256)} (hl : (List.range n).map f = l) : LRow w (some ⟨b, 0, none⟩) l := by
  subst hl
  intro i hi
  have hi' : i < n := by simpa using hi
  refine ⟨b, 0, rfl, h.lt, fun j hj => ?_⟩
  have := h.cell i hi' j hj
  simpa [hi'] using this

/-- A value that is a row of these classes. -/
def IsRow (l : List (BitVec 256)) (v : Value) (w : World) : Prop := ∃ a cap, v = .slice a l.length cap ∧ LRow w a l
theorem IsRow.later (l : List (BitVec 256)) (v : Value) (w w' : World) (h : IsRow l v w) (hb : Below w.heap.size w w') : IsRow l v w' := by
  obtain ⟨a, cap, hv, hr⟩ := h
  exact ⟨a, cap, hv, hr.later hb⟩
/-- A row of classes that a call owns: it may append to it. -/
def OwnC (w : World) (base : Nat) (v : Value) (l : List (BitVec 256)) : Prop := w.ownsRow base 35 4 v l.length (flat4 l)
theorem OwnC.cases {w : World} {base : Nat} {v : Value} {l : List (BitVec 256)} (h : OwnC w base v l) :
    (v = .slice none 0 0 ∧ l = []) ∨ ∃ g cap, v = .slice (some ⟨g, 0, none⟩) l.length cap ∧ base ≤ g ∧ CRow w g l.length (fun i => l.getD i 0) := by
  obtain ⟨_, ⟨hv, hn⟩ | ⟨g, cap, cur, hv, hb, hg, hc, hm, hs, ht⟩⟩ := h
  · exact .inl ⟨hv, List.length_eq_zero_iff.1 hn⟩
  · refine .inr ⟨g, cap, hv, hb, ?_, fun i hi j hj => ?_, fun o => ?_⟩
    · exact Blk.lt (w := w) (b := g) (vs := cur) (t := 35) hg
    · have hc2 := Blk.cell (w := w) (b := g) (vs := cur) (t := 35) hg (i * 4 + j)
      rw [hc2, ← flat4_get l i j hi hj, ← ht, List.getElem?_take, if_pos (by omega)]
      simp
    · exact Blk.frozen (w := w) (b := g) (vs := cur) (t := 35) hg o
theorem OwnC.later {w w' : World} {base : Nat} {v : Value} {l : List (BitVec 256)} (h : OwnC w base v l) (hb : Below w.heap.size w w') : OwnC w' base v l := ownsRow_later h hb
theorem OwnC.nil (w : World) (base : Nat) : OwnC w base (.slice none 0 0) [] := ⟨rfl, .inl ⟨rfl, rfl⟩⟩
theorem OwnC.isRow {w : World} {base : Nat} {v : Value} {l : List (BitVec 256)} (h : OwnC w base v l) : IsRow l v w := by
  rcases h.cases with ⟨hv, hl⟩ | ⟨g, cap, hv, _, hr⟩
  · subst hl; exact ⟨none, 0, hv, LRow.nil _ _⟩
  · refine ⟨_, cap, hv, hr.lrow ?_⟩
    apply List.ext_getElem
    · simp
    · intro i h1 h2; simp [h2]

/-- A store into a row of its own. -/
theorem OwnC.putAt {w : World} {base g cap : Nat} {l : List (BitVec 256)} (h : OwnC w base (.slice (some ⟨g, 0, none⟩) l.length cap) l) (i : Nat) (hi : i < l.length) (t : BitVec 256) :
    OwnC (Go.Proofs.Ytidoofdofdhjpaa.putAt w g (i * 4) t) base (.slice (some ⟨g, 0, none⟩) l.length cap) (l.set i t) := by
  obtain ⟨_, ⟨hv, hn⟩ | ⟨g', cap', cur, hv, hb, hg, hc, hm, hs, ht⟩⟩ := h
  · cases hv
  · cases hv
    have hB : Blk w g cur 35 := hg
    have hB2 := (((hB.setCell (i * 4) (.int .u64 (wd t 0))).setCell (i * 4 + 1) (.int .u64 (wd t 1))).setCell (i * 4 + 2) (.int .u64 (wd t 2))).setCell (i * 4 + 3) (.int .u64 (wd t 3))
    refine ⟨by rw [flat4_length], .inr ⟨g, cap, _, by rw [List.length_set], hb, hB2, by rw [List.length_set]; exact hc, hm, by simpa using hs, ?_⟩⟩
    apply List.ext_getElem?
    intro k
    rw [List.length_set, List.getElem?_take]
    by_cases hk : k < l.length * 4
    · rw [if_pos hk]
      obtain ⟨x, j, rfl, hj⟩ : ∃ x j, k = x * 4 + j ∧ j < 4 := ⟨k / 4, k % 4, by omega, by omega⟩
      rw [flat4_get _ _ _ (by rw [List.length_set]; omega) hj]
      have hcur : cur.toList[x * 4 + j]? = some (.int .u64 (wd (l.getD x 0) j)) := by
        rw [← flat4_get l x j (by omega) hj, ← ht, List.getElem?_take, if_pos (by omega)]
      have hsz : ∀ m, m < l.length * 4 → m < cur.size := fun m hm2 => by
        rw [hs]; have := Nat.mul_le_mul_right 4 hc; omega
      simp only [Array.toList_setIfInBounds, List.getElem?_set, List.length_set, Array.length_toList]
      by_cases e : x = i
      · subst e
        have hgd : (l.set x t).getD x 0 = t := by simp [hi]
        rw [hgd]
        rcases (by omega : j = 0 ∨ j = 1 ∨ j = 2 ∨ j = 3) with rfl | rfl | rfl | rfl
        · rw [if_neg (by omega), if_neg (by omega), if_neg (by omega), if_pos (by omega), if_pos (hsz _ (by omega))]
        · rw [if_neg (by omega), if_neg (by omega), if_pos (by omega), if_pos (hsz _ (by omega))]
        · rw [if_neg (by omega), if_pos (by omega), if_pos (hsz _ (by omega))]
        · rw [if_pos (by omega), if_pos (hsz _ (by omega))]
      · rw [if_neg (by omega), if_neg (by omega), if_neg (by omega), if_neg (by omega), hcur]
        have hgd : (l.set i t).getD x 0 = l.getD x 0 := by simp [Ne.symm e]
        rw [hgd]
    · rw [if_neg hk, List.getElem?_eq_none (by rw [flat4_length, List.length_set]; omega)]

theorem infoCls : (Try.prog.info? 35).map (fun i => (i.zero, i.size, i.bytes)) = some (some (.agg #[.int .u64 0, .int .u64 0, .int .u64 0, .int .u64 0]), 4, 32) := by kernel_rfl

end Go.Proofs.Ytidoofdofdhjpaa
/- splitAll of package split: each class of a row that the other one splits is cut in two, within the row's own memory. -/
namespace Go.Proofs.Ytidoofdofdhjpaa
open Go Go.RowKit
set_option linter.unusedVariables false

section
variable {base g : Nat} {l cur : List (BitVec 256)} {a : BitVec 256} {w0 : World} {k : Nat} {v : Value} {w w' : World}
end

end Go.Proofs.Ytidoofdofdhjpaa
/- Parts and Heads of package split: the parts of a list of classes, by least bytes, and their least bytes. -/
namespace Go.Proofs.Ytidoofdofdhjpaa
open Go Go.RowKit
set_option linter.unusedVariables false

end Go.Proofs.Ytidoofdofdhjpaa
/- Heads of package split, and what the document's package tells two rows by: the same classes, the same bytes. -/
namespace Go.Proofs.Ytidoofdofdhjpaa
open Go Go.RowKit
set_option linter.unusedVariables false

/-! ### rows of bytes that a call owns -/
def bytesV (l : List Nat) : List Value := l.map fun c : Nat => Value.int .u8 (c : Int)
theorem bytesV_snoc (l : List Nat) (c : Nat) : bytesV (l ++ [c]) = bytesV l ++ [.int .u8 (c : Int)] := by simp [bytesV]
/-- A value that is a row of these bytes. -/
def IsBytes (l : List Nat) (v : Value) (w : World) : Prop := ∃ a cap, v = .slice a l.length cap ∧ Row8 w a l
theorem Row8.later' {w w' : World} {a : Option Addr} {l : List Nat} (h : Row8 w a l) (hb : Below w.heap.size w w') : Row8 w' a l :=
  ⟨h.1, h.2.1, fun i hi => by
    obtain ⟨b, off, ha, hl, hc⟩ := h.2.2 i hi
    exact ⟨b, off, ha, Nat.lt_of_lt_of_le hl hb.size, (hb.cell (p := ⟨b, off + i, none⟩) hl).trans hc⟩⟩
theorem IsBytes.later (l : List Nat) (v : Value) (w w' : World) (h : IsBytes l v w) (hb : Below w.heap.size w w') : IsBytes l v w' := by
  obtain ⟨a, cap, hv, hr⟩ := h
  exact ⟨a, cap, hv, hr.later' hb⟩
def Own8 (w : World) (base : Nat) (v : Value) (l : List Nat) : Prop := w.ownsRow base 5 1 v l.length (bytesV l)
theorem Own8.nil (w : World) (base : Nat) : Own8 w base (.slice none 0 0) [] := ⟨rfl, .inl ⟨rfl, rfl⟩⟩
theorem Own8.later {w w' : World} {base : Nat} {v : Value} {l : List Nat} (h : Own8 w base v l) (hb : Below w.heap.size w w') : Own8 w' base v l := ownsRow_later h hb
theorem infoU8 : (Try.prog.info? 5).map (fun i => (i.zero, i.size, i.bytes)) = some (some (.int .u8 0), 1, 1) := by kernel_rfl

/-- An append of a byte to a row of its own. -/
theorem wp_append_u8 {w : World} {o : Oper} {a : Act} {K : Act → World → Prop} {Q : Exit → Act → World → Prop} (s x : Operand)
    (ho : o.op = .call { callee := .builtin .append, args := #[s, x], argTypes := #[48, 48] })
    (base : Nat) (v : Value) (l : List Nat) (hs : a.eval s = v) (hown : Own8 w base v l)
    (b : Nat) (c : Nat) (hx : a.eval x = .slice (some ⟨b, 0, none⟩) 1 1) (hnew : Blk w b #[.int .u8 (c : Int)] 5) (hlen : l.length < 1073741824) (hbase : base ≤ w.heap.size)
    (h : ∀ v' w', Own8 w' base v' (l ++ [c]) → (∀ B, B ≤ base → Below B w w') → K (a.put o.dst v') w') : o.wp Try.prog a w K Q := by
  obtain ⟨ib, hib, hz0, hz1, hz2⟩ := info_parts infoU8
  have hnews : ∀ (j : Nat) (u : Value), [Value.int .u8 (c : Int)][j]? = some u → w.cell? ((⟨b, 0, none⟩ : Addr).add j) = some u := by
    intro j u hu
    cases j with
    | zero => simp at hu; subst hu; exact hnew.cell 0
    | succ j => simp at hu
  refine wp_append_own w s x 48 ho base 5 ib _ 1 1 Try.underlying48 hib hz0 hz1 hz2 rfl (by decide) v l.length (bytesV l) hs hown ⟨b, 0, none⟩ 1 1 [.int .u8 (c : Int)] hx rfl hnews (by simp [Value.oneCell']) (by unfold maxLen; omega) (by omega) hbase ?_
  intro v' w' h1 h2 _
  refine h v' w' (by unfold Own8; rw [List.length_append, bytesV_snoc]; exact h1) fun B hB => ?_
  exact (Below.refl B w).grown h2 (Nat.le_trans hB hbase) fun k hk => Nat.le_trans hB ((World.ownsRow.lt hown k hk).1)

theorem wpList_append_u8 {w : World} {ops : Array Oper} {rest : List Oper} {o : Oper} {a : Act} {Q : Exit → Act → World → Prop} (hgd : o.guard = none) (s x : Operand)
    (ho : o.op = .call { callee := .builtin .append, args := #[s, x], argTypes := #[48, 48] })
    (base : Nat) (v : Value) (l : List Nat) (hs : a.eval s = v) (hown : Own8 w base v l)
    (b : Nat) (c : Nat) (hx : a.eval x = .slice (some ⟨b, 0, none⟩) 1 1) (hnew : Blk w b #[.int .u8 (c : Int)] 5) (hlen : l.length < 1073741824) (hbase : base ≤ w.heap.size)
    (h : ∀ v' w', Own8 w' base v' (l ++ [c]) → (∀ B, B ≤ base → Below B w w') → wpList Try.prog ops Q rest (a.put o.dst v') w') : wpList Try.prog ops Q (o :: rest) a w :=
  wpList_plain hgd fun K hK => wp_append_u8 s x ho base v l hs hown b c hx hnew hlen hbase fun v' w' h1 h2 => hK _ _ (h v' w' h1 h2)
end Go.Proofs.Ytidoofdofdhjpaa
