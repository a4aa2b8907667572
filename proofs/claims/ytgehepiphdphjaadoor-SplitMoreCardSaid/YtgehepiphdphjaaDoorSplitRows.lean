/- Rows of classes in memory: one that is read, one that a call owns, and what an append leaves. -/
import Derived.Test.YtgehepiphdphjaaDoorSplitMath
import Derived.Test.YtgehepiphdphjaaDoorSortStable
import Derived.Test.YtgehepiphdphjaaDoorRef01
namespace Go.Proofs.YtgehepiphdphjaaDoor
open Go Go.RowKit
set_option linter.unusedVariables false

/-- The cells of classes, one behind the other. -/
def flat4 : List (BitVec 256) → List Value
  | [] => []
  | s :: l => .int .u64 (wd s 0) :: .int .u64 (wd s 1) :: .int .u64 (wd s 2) :: .int .u64 (wd s 3) :: flat4 l
theorem flat4_length : ∀ l, (flat4 l).length = l.length * 4
  | [] => rfl
  | s :: l => by simp only [flat4, List.length_cons, flat4_length l]; omega
theorem flat4_append : ∀ l m, flat4 (l ++ m) = flat4 l ++ flat4 m
  | [], _ => rfl
  | s :: l, m => by simp only [List.cons_append, flat4, flat4_append l m]
theorem flat4_get : ∀ (l : List (BitVec 256)) (i j : Nat), i < l.length → j < 4 → (flat4 l)[i * 4 + j]? = some (.int .u64 (wd (l.getD i 0) j))
  | [], i, j, hi, _ => by simp at hi
  | s :: l, 0, j, _, hj => by
    rcases (by omega : j = 0 ∨ j = 1 ∨ j = 2 ∨ j = 3) with rfl | rfl | rfl | rfl <;> rfl
  | s :: l, i + 1, j, hi, hj => by
    have ih := flat4_get l i j (by simpa using hi) hj
    rw [show (i + 1) * 4 + j = i * 4 + j + 1 + 1 + 1 + 1 by omega]
    simpa [flat4] using ih

/-- A row of classes that is read: at whatever place. -/
def LRow (w : World) (a : Option Addr) (l : List (BitVec 256)) : Prop :=
  ∀ i, i < l.length → ∃ b off, a = some ⟨b, off, none⟩ ∧ b < w.heap.size ∧ ∀ j, j < 4 → w.cell? ⟨b, off + i * 4 + j, none⟩ = some (.int .u64 (wd (l.getD i 0) j))
theorem LRow.later {w w' : World} {a : Option Addr} {l : List (BitVec 256)} (h : LRow w a l) (hb : Below w.heap.size w w') : LRow w' a l := fun i hi => by
  obtain ⟨b, off, ha, hlt, hc⟩ := h i hi
  exact ⟨b, off, ha, Nat.lt_of_lt_of_le hlt hb.size, fun j hj => (hb.cell (p := ⟨b, off + i * 4 + j, none⟩) hlt).trans (hc j hj)⟩
theorem LRow.nil (w : World) (a : Option Addr) : LRow w a [] := fun i hi => by simp at hi
theorem LRow.cells {w : World} {a : Option Addr} {l : List (BitVec 256)} (h : LRow w a l) (i : Nat) (hi : i < l.length) : ∃ b off, a = some ⟨b, off, none⟩ ∧ b < w.heap.size ∧
    (w.cell? ⟨b, off + i * 4, none⟩ = some (.int .u64 (wd (l.getD i 0) 0)) ∧ w.cell? ⟨b, off + i * 4 + 1, none⟩ = some (.int .u64 (wd (l.getD i 0) 1)) ∧ w.cell? ⟨b, off + i * 4 + 2, none⟩ = some (.int .u64 (wd (l.getD i 0) 2)) ∧ w.cell? ⟨b, off + i * 4 + 3, none⟩ = some (.int .u64 (wd (l.getD i 0) 3))) := by
  obtain ⟨b, off, ha, hlt, hc⟩ := h i hi
  exact ⟨b, off, ha, hlt, hc 0 (by omega), hc 1 (by omega), hc 2 (by omega), hc 3 (by omega)⟩
theorem CRow.lrow {w : World} {b n : Nat} {f : Nat → BitVec 256} (h : CRow w b n f) {l : List (BitVec 256)} (hl : (List.range n).map f = l) : LRow w (some ⟨b, 0, none⟩) l := by
  subst hl
  intro i hi
  have hi' : i < n := by simpa using hi
  refine ⟨b, 0, rfl, h.lt, fun j hj => ?_⟩
  have := h.cell i hi' j hj
  simpa [hi'] using this

/-- A value that is a row of these classes. -/
def IsRow (l : List (BitVec 256)) (v : Value) (w : World) : Prop := ∃ a cap, v = .slice a l.length cap ∧ LRow w a l
theorem IsRow.later (l : List (BitVec 256)) (v : Value) (w w' : World) (h : IsRow l v w) (hb : Below w.heap.size w w') : IsRow l v w' := by
  obtain ⟨a, cap, hv, hr⟩ := h
  exact ⟨a, cap, hv, hr.later hb⟩
/-- It answers a row of these classes, and nothing that was there turns. -/
def AnsRow (w : World) (l : List (BitVec 256)) (e : Ending) (w' : World) : Prop := ∃ v, e = .returned v ∧ IsRow l v w' ∧ Below w.heap.size w w'

/-- A row of classes that a call owns: it may append to it. -/
def OwnC (w : World) (base : Nat) (v : Value) (l : List (BitVec 256)) : Prop := w.ownsRow base 29 4 v l.length (flat4 l)
theorem OwnC.cases {w : World} {base : Nat} {v : Value} {l : List (BitVec 256)} (h : OwnC w base v l) :
    (v = .slice none 0 0 ∧ l = []) ∨ ∃ g cap, v = .slice (some ⟨g, 0, none⟩) l.length cap ∧ base ≤ g ∧ CRow w g l.length (fun i => l.getD i 0) := by
  obtain ⟨_, ⟨hv, hn⟩ | ⟨g, cap, cur, hv, hb, hg, hc, hm, hs, ht⟩⟩ := h
  · exact .inl ⟨hv, List.length_eq_zero_iff.1 hn⟩
  · refine .inr ⟨g, cap, hv, hb, ?_, fun i hi j hj => ?_, fun o => ?_⟩
    · exact Blk.lt (w := w) (b := g) (vs := cur) (t := 29) hg
    · have hc2 := Blk.cell (w := w) (b := g) (vs := cur) (t := 29) hg (i * 4 + j)
      rw [hc2, ← flat4_get l i j hi hj, ← ht, List.getElem?_take, if_pos (by omega)]
      simp
    · exact Blk.frozen (w := w) (b := g) (vs := cur) (t := 29) hg o
theorem OwnC.later {w w' : World} {base : Nat} {v : Value} {l : List (BitVec 256)} (h : OwnC w base v l) (hb : Below w.heap.size w w') : OwnC w' base v l := ownsRow_later h hb
theorem OwnC.nil (w : World) (base : Nat) : OwnC w base (.slice none 0 0) [] := ⟨rfl, .inl ⟨rfl, rfl⟩⟩
theorem OwnC.isRow {w : World} {base : Nat} {v : Value} {l : List (BitVec 256)} (h : OwnC w base v l) : IsRow l v w := by
  rcases h.cases with ⟨hv, hl⟩ | ⟨g, cap, hv, _, hr⟩
  · subst hl; exact ⟨none, 0, hv, LRow.nil _ _⟩
  · refine ⟨_, cap, hv, hr.lrow ?_⟩
    apply List.ext_getElem
    · simp
    · intro i h1 h2; simp [h2]

/-- A store into a row of its own. -/
theorem OwnC.putAt {w : World} {base g cap : Nat} {l : List (BitVec 256)} (h : OwnC w base (.slice (some ⟨g, 0, none⟩) l.length cap) l) (i : Nat) (hi : i < l.length) (t : BitVec 256) :
    OwnC (Go.Proofs.YtgehepiphdphjaaDoor.putAt w g (i * 4) t) base (.slice (some ⟨g, 0, none⟩) l.length cap) (l.set i t) := by
  obtain ⟨_, ⟨hv, hn⟩ | ⟨g', cap', cur, hv, hb, hg, hc, hm, hs, ht⟩⟩ := h
  · cases hv
  · cases hv
    have hB : Blk w g cur 29 := hg
    have hB2 := (((hB.setCell (i * 4) (.int .u64 (wd t 0))).setCell (i * 4 + 1) (.int .u64 (wd t 1))).setCell (i * 4 + 2) (.int .u64 (wd t 2))).setCell (i * 4 + 3) (.int .u64 (wd t 3))
    refine ⟨by rw [flat4_length], .inr ⟨g, cap, _, by rw [List.length_set], hb, hB2, by rw [List.length_set]; exact hc, hm, by simpa using hs, ?_⟩⟩
    apply List.ext_getElem?
    intro k
    rw [List.length_set, List.getElem?_take]
    by_cases hk : k < l.length * 4
    · rw [if_pos hk]
      obtain ⟨x, j, rfl, hj⟩ : ∃ x j, k = x * 4 + j ∧ j < 4 := ⟨k / 4, k % 4, by omega, by omega⟩
      rw [flat4_get _ _ _ (by rw [List.length_set]; omega) hj]
      have hcur : cur.toList[x * 4 + j]? = some (.int .u64 (wd (l.getD x 0) j)) := by
        rw [← flat4_get l x j (by omega) hj, ← ht, List.getElem?_take, if_pos (by omega)]
      have hsz : ∀ m, m < l.length * 4 → m < cur.size := fun m hm2 => by
        rw [hs]; have := Nat.mul_le_mul_right 4 hc; omega
      simp only [Array.toList_setIfInBounds, List.getElem?_set, List.length_set, Array.length_toList]
      by_cases e : x = i
      · subst e
        have hgd : (l.set x t).getD x 0 = t := by simp [hi]
        rw [hgd]
        rcases (by omega : j = 0 ∨ j = 1 ∨ j = 2 ∨ j = 3) with rfl | rfl | rfl | rfl
        · rw [if_neg (by omega), if_neg (by omega), if_neg (by omega), if_pos (by omega), if_pos (hsz _ (by omega))]
        · rw [if_neg (by omega), if_neg (by omega), if_pos (by omega), if_pos (hsz _ (by omega))]
        · rw [if_neg (by omega), if_pos (by omega), if_pos (hsz _ (by omega))]
        · rw [if_pos (by omega), if_pos (hsz _ (by omega))]
      · rw [if_neg (by omega), if_neg (by omega), if_neg (by omega), if_neg (by omega), hcur]
        have hgd : (l.set i t).getD x 0 = l.getD x 0 := by simp [Ne.symm e]
        rw [hgd]
    · rw [if_neg hk, List.getElem?_eq_none (by rw [flat4_length, List.length_set]; omega)]

theorem infoCls : (Tryd.prog.info? 29).map (fun i => (i.zero, i.size, i.bytes)) = some (some (.agg #[.int .u64 0, .int .u64 0, .int .u64 0, .int .u64 0]), 4, 32) := by kernel_rfl

/-- An append to a row of its own; the cells that it had stay, too, where they were. -/
theorem wp_append_cls {w : World} {o : Oper} {a : Act} {K : Act → World → Prop} {Q : Exit → Act → World → Prop} (s x : Operand)
    (ho : o.op = .call { callee := .builtin .append, args := #[s, x], argTypes := #[22, 22] })
    (base : Nat) (v : Value) (l : List (BitVec 256)) (hs : a.eval s = v) (hown : OwnC w base v l)
    (b : Nat) (t : BitVec 256) (hx : a.eval x = .slice (some ⟨b, 0, none⟩) 1 1) (hnew : Blk w b (cells4 t) 29) (hlen : l.length < 1073741824) (hbase : base ≤ w.heap.size)
    (h : ∀ v' w', OwnC w' base v' (l ++ [t]) → w.grownBy w' v.ownBlock → (∀ g, v.ownBlock = some g → ∀ i, i < l.length → ∀ j, j < 4 → w'.cell? ⟨g, i * 4 + j, none⟩ = some (.int .u64 (wd (l.getD i 0) j))) → (v'.ownBlock = v.ownBlock ∨ ∃ g', v'.ownBlock = some g' ∧ w.heap.size ≤ g') → K (a.put o.dst v') w') : o.wp Tryd.prog a w K Q := by
  obtain ⟨ib, hib, hz0, hz1, hz2⟩ := info_parts infoCls
  have hnews : ∀ (j : Nat) (u : Value), (flat4 [t])[j]? = some u → w.cell? ((⟨b, 0, none⟩ : Addr).add j) = some u := by
    intro j u hu
    have hadd : (⟨b, 0, none⟩ : Addr).add j = ⟨b, j, none⟩ := by unfold Addr.add; split <;> simp_all
    rw [hadd, hnew.cell]
    match j, hu with
    | 0, hu => exact hu
    | 1, hu => exact hu
    | 2, hu => exact hu
    | 3, hu => exact hu
    | n + 4, hu => simp [flat4] at hu
  have hone : ∀ u ∈ flat4 [t], u.oneCell' = true := by
    intro u hu
    simp only [flat4, List.mem_cons, List.not_mem_nil, or_false] at hu
    rcases hu with rfl | rfl | rfl | rfl <;> rfl
  obtain ⟨v', w', hr, h2, h3, _⟩ := run_append_own (P := Tryd.prog) w base 22 o.type 29 ib _ 4 32 Tryd.underlying22 hib hz0 hz1 hz2 rfl (by decide) v l.length (flat4 l) hown ⟨b, 0, none⟩ 1 1 (flat4 [t]) rfl hnews hone (by unfold maxLen; omega) (by omega) hbase
  have h2' : OwnC w' base v' (l ++ [t]) := by unfold OwnC; rw [List.length_append, flat4_append]; exact h2
  have keep : ∀ g, v.ownBlock = some g → ∀ i, i < l.length → ∀ j, j < 4 → w'.cell? ⟨g, i * 4 + j, none⟩ = some (.int .u64 (wd (l.getD i 0) j)) := by
    intro g hg i hi j hj
    rcases hown.2 with ⟨rfl, hn⟩ | ⟨g', cap, cur, rfl, hbg, hgg, hnc, hcm, hcs, htake⟩
    · cases hg
    · simp only [Value.ownBlock, Option.some.injEq] at hg
      subst hg
      have hB : Blk w g' cur 29 := hgg
      by_cases hroom : l.length + 1 ≤ cap
      · have hr2 := run_append_room (P := Tryd.prog) w 22 o.type 29 ib Tryd.underlying22 hib g' l.length cap cur hgg ⟨b, 0, none⟩ 1 1 (flat4 [t]) (by rw [hz1]; rfl) hnews hone hroom (by rw [hz1, hcs]; simp [flat4]; omega)
        rw [hr] at hr2
        simp only [Result.ok.injEq] at hr2
        obtain ⟨hv', _⟩ := hr2
        rcases h2'.cases with ⟨hv, _⟩ | ⟨g2, cap2, hv, _, hrow⟩
        · rw [hv'] at hv; cases hv
        · rw [hv'] at hv
          simp only [Value.slice.injEq, Option.some.injEq, Addr.mk.injEq] at hv
          have hgg2 : g' = g2 := hv.1.1
          subst hgg2
          have := hrow.cell i (by simp; omega) j hj
          rw [this]
          simp [List.getElem?_append_left hi]
      · have holds := World.ownsRow.cells (w := w) (base := base) (e := 29) (size := 4) (v := .slice (some ⟨g', 0, none⟩) l.length cap) (n := l.length) (xs := flat4 l) hown (g := g') rfl
        have hr2 := run_append_grow (P := Tryd.prog) w 22 o.type 29 ib _ Tryd.underlying22 hib hz0 ⟨g', 0, none⟩ l.length cap (flat4 l) (by rw [hz1]; exact flat4_length l) holds ⟨b, 0, none⟩ 1 1 (flat4 [t]) (by rw [hz1]; rfl) hnews (by omega) (by omega) (by rw [hz2]; exact growslice_fits (by omega) (by omega))
        rw [hr] at hr2
        simp only [Result.ok.injEq] at hr2
        rw [hr2.2]
        have hlt := hB.lt
        have := Below.cell (B := w.heap.size) (((Below.refl _ w).drew).alloc (Nat.le_refl _) (.cells ((flat4 l).toArray ++ (flat4 [t]).toArray ++ Builtin.zeroCells (Value.cells (.agg #[.int .u64 0, .int .u64 0, .int .u64 0, .int .u64 0])) (grownCap w (l.length + 1) cap 29 - (l.length + 1))) 29)) (p := ⟨g', i * 4 + j, none⟩) hlt
        refine this.trans ?_
        have hh := holds (i * 4 + j) _ (flat4_get l i j hi hj)
        have hadd : (⟨g', 0, none⟩ : Addr).add (i * 4 + j) = ⟨g', i * 4 + j, none⟩ := by unfold Addr.add; split <;> simp_all
        rw [hadd] at hh; exact hh
  have place : v'.ownBlock = v.ownBlock ∨ ∃ g', v'.ownBlock = some g' ∧ w.heap.size ≤ g' := by
    rcases hown.2 with ⟨rfl, hn⟩ | ⟨g', cap, cur, rfl, hbg, hgg, hnc, hcm, hcs, htake⟩
    · have hl0 : l = [] := List.length_eq_zero_iff.1 hn
      subst hl0
      obtain ⟨v2, w2, hr2, h4, _, _⟩ := run_append_own (P := Tryd.prog) w w.heap.size 22 o.type 29 ib _ 4 32 Tryd.underlying22 hib hz0 hz1 hz2 rfl (by decide) (.slice none 0 0) 0 [] ⟨rfl, .inl ⟨rfl, rfl⟩⟩ ⟨b, 0, none⟩ 1 1 (flat4 [t]) rfl hnews hone (by unfold maxLen; omega) (by omega) (Nat.le_refl _)
      rw [hr] at hr2
      simp only [Result.ok.injEq] at hr2
      obtain ⟨rfl, rfl⟩ := hr2
      rcases h4.2 with ⟨_, h5⟩ | ⟨g2, cap2, cur2, hv, hb2, _⟩
      · omega
      · exact .inr ⟨g2, by rw [hv]; rfl, hb2⟩
    · by_cases hroom : l.length + 1 ≤ cap
      · have hr2 := run_append_room (P := Tryd.prog) w 22 o.type 29 ib Tryd.underlying22 hib g' l.length cap cur hgg ⟨b, 0, none⟩ 1 1 (flat4 [t]) (by rw [hz1]; rfl) hnews hone hroom (by rw [hz1, hcs]; simp [flat4]; omega)
        rw [hr] at hr2
        simp only [Result.ok.injEq] at hr2
        exact .inl (by rw [hr2.1]; rfl)
      · have holds := World.ownsRow.cells (w := w) (base := base) (e := 29) (size := 4) (v := .slice (some ⟨g', 0, none⟩) l.length cap) (n := l.length) (xs := flat4 l) hown (g := g') rfl
        have hr2 := run_append_grow (P := Tryd.prog) w 22 o.type 29 ib _ Tryd.underlying22 hib hz0 ⟨g', 0, none⟩ l.length cap (flat4 l) (by rw [hz1]; exact flat4_length l) holds ⟨b, 0, none⟩ 1 1 (flat4 [t]) (by rw [hz1]; rfl) hnews (by omega) (by omega) (by rw [hz2]; exact growslice_fits (by omega) (by omega))
        rw [hr] at hr2
        simp only [Result.ok.injEq] at hr2
        exact .inr ⟨w.heap.size, by rw [hr2.1]; rfl, Nat.le_refl _⟩
  unfold Oper.wp execOp
  simp only [ho, resolve, invoke, builtin, Sem.run_bind, Sem.run_pure, Result.andThen_ok, List.map_toArray, List.map_cons, List.map_nil, hs, hx, hr]
  exact h v' w' h2' h3 keep place
end Go.Proofs.YtgehepiphdphjaaDoor
