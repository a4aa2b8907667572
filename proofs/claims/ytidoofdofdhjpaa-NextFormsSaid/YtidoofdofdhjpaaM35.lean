/- Rows of items: what an item opens to, in memory. -/
import Derived.Test.YtidoofdofdhjpaaM34
import Derived.Laws.CopyRow
namespace Go.Proofs.Ytidoofdofdhjpaa
open Go Go.RowKit
set_option linter.unusedVariables false
set_option linter.unusedSimpArgs false
set_option maxRecDepth 100000
set_option maxHeartbeats 16000000

/-- A row's cells: two items, and how many there are. -/
def rowC (r : List Itm) : List Value := flatIt (r ++ List.replicate (2 - r.length) it0) ++ [.int .i64 (r.length : Int)]
def rwsC (L : List (List Itm)) : Array Value := (rowC (L.getD 0 []) ++ rowC (L.getD 1 []) ++ [Value.int .i64 (L.length : Int)]).toArray
/-- Rows that fit in. -/
def RwOk (L : List (List Itm)) : Prop := L.length ≤ 2 ∧ ∀ r ∈ L, r.length ≤ 2
theorem rowC_len {r : List Itm} (h : r.length ≤ 2) : (rowC r).length = 9 := by
  unfold rowC
  rw [List.length_append, flatIt_length, List.length_append, List.length_replicate]
  show (r.length + (2 - r.length)) * 4 + 1 = 9
  omega
theorem RwOk.at {L : List (List Itm)} (h : RwOk L) (i : Nat) : (L.getD i []).length ≤ 2 := by
  rw [List.getD_eq_getElem?_getD]
  cases hi : L[i]? with
  | none => simp
  | some r => simp; exact h.2 r (List.mem_of_getElem? hi)
theorem rwsC_size {L : List (List Itm)} (h : RwOk L) : (rwsC L).size = 19 := by
  unfold rwsC
  rw [List.size_toArray, List.length_append, List.length_append, rowC_len (h.at 0), rowC_len (h.at 1)]; rfl
theorem rwsC_many {L : List (List Itm)} (h : RwOk L) : (rwsC L)[18]? = some (.int .i64 (L.length : Int)) := by
  unfold rwsC
  rw [List.getElem?_toArray, List.getElem?_append_right (by rw [List.length_append, rowC_len (h.at 0), rowC_len (h.at 1)]; omega), List.length_append, rowC_len (h.at 0), rowC_len (h.at 1)]
  rfl
theorem rwsC_row {L : List (List Itm)} (h : RwOk L) {i j : Nat} (hi : i < 2) (hj : j < 9) : (rwsC L)[i * 9 + j]? = (rowC (L.getD i []))[j]? := by
  unfold rwsC
  rw [List.getElem?_toArray]
  have h0 := rowC_len (h.at 0)
  have h1 := rowC_len (h.at 1)
  rcases (by omega : i = 0 ∨ i = 1) with rfl | rfl
  · rw [Nat.zero_mul, Nat.zero_add, List.getElem?_append_left (by rw [List.length_append]; omega), List.getElem?_append_left (by omega)]
  · rw [List.getElem?_append_left (by rw [List.length_append]; omega), List.getElem?_append_right (by omega), h0]
    congr 1; omega
theorem rows3 {r : List Itm} (h : r.length ≤ 2) : r = [] ∨ (∃ a, r = [a]) ∨ ∃ a b, r = [a, b] := by
  match r, h with
  | [], _ => exact .inl rfl
  | [a], _ => exact .inr (.inl ⟨a, rfl⟩)
  | [a, b], _ => exact .inr (.inr ⟨a, b, rfl⟩)
  | _ :: _ :: _ :: _, h => exact absurd h (by simp)
/-- A row more. -/
theorem rws_step {L : List (List Itm)} (hL : L.length < 2) (h : RwOk L) {r : List Itm} (hr : r.length ≤ 2) :
    ((((rwsC L).toList.take (L.length * 9) ++ flatIt r ++ (rwsC L).toList.drop (L.length * 9 + (flatIt r).length)).toArray.setIfInBounds (L.length * 9 + 8) (.int .i64 (r.length : Int))).setIfInBounds 18 (.int .i64 ((L.length : Int) + 1))) = rwsC (L ++ [r]) := by
  match L, hL, h with
  | [], _, _ => rcases rows3 hr with rfl | ⟨a, rfl⟩ | ⟨a, b, rfl⟩ <;> rfl
  | [q], _, h =>
    have hq := h.2 q (List.mem_cons_self ..)
    rcases rows3 hq with rfl | ⟨c, rfl⟩ | ⟨c, d, rfl⟩ <;> rcases rows3 hr with rfl | ⟨a, rfl⟩ | ⟨a, b, rfl⟩ <;> rfl
  | _ :: _ :: _, hL, _ => exact absurd hL (by simp)
/-- Items copied into a block. -/
theorem run_copy_it (w : World) (ty : TypeId) (g o dCap : Nat) (A : Option Addr) (c : Nat) (r : List Itm) (cur : Array Value) (t : TypeId) (hg : Blk w g cur t) (hr : r.length ≤ 2) (hfit : o + r.length * 4 ≤ cur.size) (hrow : ItRow w A r) :
    (Builtin.copy_ #[25, 25] ty #[.slice (some ⟨g, o, none⟩) 2 dCap, .slice A r.length c]).run Try.prog w = .ok (.int .i64 (r.length : Int)) (w.setRow g (cur.toList.take o ++ flatIt r ++ cur.toList.drop (o + (flatIt r).length)).toArray) := by
  obtain ⟨ib, hib, hz0, hz1, hz2⟩ := info_parts infoIt
  have hst := run_storeCells_at Try.prog g o t (flatIt r) 0 cur w hg (by rw [flatIt_length]; exact hfit) (flatIt_ones r)
  have hmn : Nat.min r.length 2 = r.length := Nat.min_eq_left hr
  have hf : (Builtin.firstCells ib.size r.length (.slice A r.length c)).run Try.prog w = .ok (flatIt r).toArray w := by
    by_cases hne : 0 < r.length
    · obtain ⟨b, oo, rfl, -, -⟩ := hrow 0 hne
      exact run_firstCells_some (P := Try.prog) w ib.size r.length ⟨b, oo, none⟩ r.length c (flatIt r) (by rw [flatIt_length, hz1]) hrow.news
    · have hl : r = [] := List.length_eq_zero_iff.1 (by omega)
      subst hl
      cases A with
      | none => rfl
      | some x => exact run_firstCells_some (P := Try.prog) w ib.size 0 x 0 c [] (by simp) (by simp)
  simp [Builtin.copy_, run_underlying Try.underlying25, Builtin.lenOf, sizeOf, typeInfo, hib, hmn, hf, hst]
  rfl
/-- What the adding of a row leaves: just that block has turned. -/
def HaddP (w : World) (g : Nat) (L : List (List Itm)) (e : Ending) (w' : World) : Prop := e = .returned (.tuple #[]) ∧ Blk w' g (rwsC L) 113 ∧ w.grownBy w' (some g)
structure HadS (w0 : World) (g : Nat) (L : List (List Itm)) (A : Option Addr) (r : List Itm) (w : World) : Prop where
  bel : Below w0.heap.size w0 w
  blk : Blk w g (rwsC L) 113
  row : ItRow w A r
theorem HadS.later {w0 w w' : World} {g : Nat} {L : List (List Itm)} {A : Option Addr} {r : List Itm} (h : HadS w0 g L A r w) (hb : Below w.heap.size w w') : HadS w0 g L A r w' := ⟨h.bel.trans (hb.mono h.bel.size), h.blk.later hb, h.row.later hb⟩
theorem setRow_grown (w : World) (g : Nat) (cs : Array Value) : w.grownBy (w.setRow g cs) (some g) := ⟨rfl, rfl, rfl, by rw [setRow_size]; omega, fun k hk hne => setRow_other w g k cs (fun e => hne (by rw [e]))⟩
theorem setCell_grown (w : World) (g j : Nat) (v : Value) : w.grownBy (w.setCell ⟨g, j, none⟩ v) (some g) := by
  have h := (Below.refl w.heap.size w)
  refine ⟨rfl, rfl, rfl, by simp [World.setCell], fun k hk hne => ?_⟩
  unfold World.setCell
  simp only [Array.getElem?_modify]
  rw [if_neg (fun e => hne (by rw [← e]))]
theorem grown_trans {a b c : World} {ro : Option Nat} (h : a.grownBy b ro) (k : b.grownBy c ro) : a.grownBy c ro := ⟨k.os.trans h.os, k.tape.trans h.tape, k.output.trans h.output, Nat.le_trans h.size k.size, fun i hi hne => (k.block i (Nat.lt_of_lt_of_le hi h.size) hne).trans (h.block i hi hne)⟩
theorem rw_mid {X : Array Value} (hX : X.size = 19) {k n : Nat} (hk : k < 2) {F : List Value} (hF : F.length = n * 4) (hn : n ≤ 2) : (X.toList.take (k * 9) ++ F ++ X.toList.drop (k * 9 + F.length)).toArray.size = 19 ∧ (X.toList.take (k * 9) ++ F ++ X.toList.drop (k * 9 + F.length)).toArray[18]? = X[18]? := by
  have hl : X.toList.length = 19 := by rw [Array.length_toList, hX]
  constructor
  · rw [List.size_toArray, List.length_append, List.length_append, List.length_take, List.length_drop, hF, hl]; omega
  · have h1 : (X.toList.take (k * 9) ++ F).length = k * 9 + n * 4 := by rw [List.length_append, List.length_take, hF, hl]; omega
    rw [List.getElem?_toArray, List.getElem?_append_right (by rw [h1]; omega), h1, hF, List.getElem?_drop, ← Array.getElem?_toList]
    congr 1; omega
theorem hdAdd_any (L : List (List Itm)) (hL : L.length < 2) (hok : RwOk L) (r : List Itm) (hr : r.length ≤ 2) (g : Nat) (A : Option Addr) (c : Nat) (w : World) (hg : Blk w g (rwsC L) 113) (hrow : ItRow w A r) :
    Calls Try.prog 86 #[.pointer (some ⟨g, 0, none⟩), .slice A r.length c] w (HaddP w g (L ++ [r])) := by
  have HI : Hid (HadS w g L A r w) := ⟨Below.refl _ _, hg, hrow⟩
  have HCP := Lib.hid (fun (w' : World) (h : HadS w g L A r w') (ty : TypeId) => run_copy_it w' ty g (L.length * 9) 2 A c r (rwsC L) 113 h.blk hr (by rw [rwsC_size hok]; omega) h.row)
  have HST := Lib.hid (rws_step hL hok hr)
  have HM := Lib.hid (rwsC_many hok)
  have hlz : (L.length : Int) < 2 := by omega
  have hlz0 : ¬ (L.length : Int) < 0 := by omega
  obtain ⟨hz1, hz2⟩ := rw_mid (rwsC_size hok) hL (flatIt_length r) hr
  rw [rwsC_many hok] at hz2
  have HSZ := Lib.hid hz1
  have HM2 := Lib.hid hz2
  clear hg hrow hz1 hz2
  go_enter Try.func86, Try.ntmps86
  go_upto_region 0 with (fail)
  refine wp_region_stable (S := (HadS w g L A r)) (hSt := fun _ _ h hb => h.later hb) (plan := [[(0, none)], [(0, none)], [(6, some 1)], [(7, some 2)], [(8, some 3)], [(5, some 0)], [(10, some 5)], [(11, some 6), (9, some 4)], [(12, some 7)]]) (by kernel_rfl) (by kernel_rfl) (by kernel_rfl) ?hS ?_
  rotate_left
  iterate 9 first
    | (refine chain_skip (by rfl) (by rfl) ?_)
    | (apply chain_want (by rfl)
       · intro act wx hS hr
         simp at hr
         have c18 : wx.cell? ⟨g, 18, none⟩ = some (.int .i64 (L.length : Int)) := by rw [hS.blk.cell]; exact HM.out
         go_simp
         (try go_ints)
         first
           | exact Done.same
      )
  show ∀ w', _ → _
  intro wz hz
  simp [Act.put]
  case hS => exact HI.out
  have HZ := Lib.hid hz
  have hcp := HCP.out wz hz
  generalize ((rwsC L).toList.take (L.length * 9) ++ flatIt r ++ (rwsC L).toList.drop (L.length * 9 + (flatIt r).length)).toArray = cs at *
  have HB2 : Hid (Blk (wz.setRow g cs) g cs 113) := setRow_heap _ _ _ _ _ _ hz.blk
  have HG2 := Lib.hid (setRow_grown wz g cs)
  generalize wz.setRow g cs = w2 at *
  generalize hk : L.length = k at *
  have HK := Lib.hid hk
  have hk2 : k < 2 := hL
  clear hz hk hL
  have c18 : w2.cell? ⟨g, 18, none⟩ = some (.int .i64 (k : Int)) := by rw [HB2.out.cell]; exact HM2.out
  have f18 := HB2.out.frozen 18
  have f8 := HB2.out.frozen (k * 9 + 8)
  obtain ⟨u8, c8⟩ : ∃ v, w2.cell? ⟨g, k * 9 + 8, none⟩ = some v := by rw [HB2.out.cell]; exact ⟨_, Array.getElem?_eq_getElem (by rw [HSZ.out]; omega)⟩
  have hne : ¬ 18 = k * 9 + 8 := by omega
  go_wp2
  go_end0
  have hb3 := (HB2.out.setCell (k * 9 + 8) (.int .i64 (r.length : Int))).setCell 18 (.int .i64 ((k : Int) + 1))
  rw [HST.out] at hb3
  have hg1 : w.grownBy wz (some g) := ⟨HZ.out.bel.os, HZ.out.bel.tape, HZ.out.bel.output, HZ.out.bel.size, fun j hj _ => HZ.out.bel.block j hj⟩
  exact ⟨rfl, hb3, grown_trans hg1 (grown_trans HG2.out (grown_trans (setCell_grown _ _ _ _) (setCell_grown _ _ _ _)))⟩
/-- The item of a whole node. -/
theorem hdWhole_any (n : Int) (w : World) : Calls Try.prog 87 #[.int .i64 n] w (Ans w (.agg #[.int .i64 1, .int .i64 n, .int .i64 0, .int .i64 0])) := by
  go_enter Try.func87, Try.ntmps87
  go_upto_region 1 with (fail)
  have HB := Lib.hid ((Below.refl w.heap.size w).alloc (Nat.le_refl _) (.cells #[.int .i64 0, .int .i64 0, .int .i64 0, .int .i64 0] 44))
  have HN := Lib.hid (Blk.new w #[.int .i64 0, .int .i64 0, .int .i64 0, .int .i64 0] 44)
  generalize w.alloc (.cells #[.int .i64 0, .int .i64 0, .int .i64 0, .int .i64 0] 44) = w1 at *
  have f0 := HN.out.frozen 0
  have f1 := HN.out.frozen 1
  have f2 := HN.out.frozen 2
  have f3 := HN.out.frozen 3
  have c0 := HN.out.cell 0
  have c1 := HN.out.cell 1
  have c2 := HN.out.cell 2
  have c3 := HN.out.cell 3
  simp at c0 c1 c2 c3
  go_wp2
  refine bodyPost_ret (v := .agg #[.int .i64 1, .int .i64 n, .int .i64 0, .int .i64 0]) ?_ rfl ⟨rfl, ?_⟩
  · simp [results, Try.results87, go_sem]
    go_simp
    try rfl
  · have hg : w.heap.size ≤ w.heap.size := Nat.le_refl _
    repeat' (refine Below.setCell (p := ⟨w.heap.size, _, none⟩) ?_ hg _)
    exact HB.out
end Go.Proofs.Ytidoofdofdhjpaa
/- What an item opens to: walked. -/
namespace Go.Proofs.Ytidoofdofdhjpaa
open Go Go.RowKit
set_option linter.unusedVariables false
set_option linter.unusedSimpArgs false
set_option maxRecDepth 100000
set_option maxHeartbeats 16000000

/-- The boxes of a node and of an item, beside the rows. -/
structure HonS (w0 : World) (g : Nat) (L : List (List Itm)) (n : Nd) (x : Itm) (w : World) : Prop where
  gr : w0.grownBy w (some g)
  blk : Blk w g (rwsC L) 113
  bn : Blk w w0.heap.size (ndC n) 58
  bx : Blk w (w0.heap.size + 1) (itV x) 44
theorem grown_below {a b c : World} {ro : Option Nat} (h : a.grownBy b ro) (k : Below b.heap.size b c) : a.grownBy c ro := grown_trans h ⟨k.os, k.tape, k.output, k.size, fun j hj _ => k.block j hj⟩
theorem HonS.later {w0 w w' : World} {g : Nat} {L : List (List Itm)} {n : Nd} {x : Itm} (h : HonS w0 g L n x w) (hb : Below w.heap.size w w') : HonS w0 g L n x w' := ⟨grown_below h.gr hb, h.blk.later hb, h.bn.later hb, h.bx.later hb⟩
theorem HonS.new {w : World} {g : Nat} {L : List (List Itm)} (n : Nd) (x : Itm) (hg : Blk w g (rwsC L) 113) : HonS w g L n x ((w.alloc (.cells (ndC n) 58)).alloc (.cells (itV x) 44)) := by
  have hb1 := (Below.refl w.heap.size w).alloc (Nat.le_refl _) (.cells (ndC n) 58)
  have hb2 := hb1.alloc (hb1.size) (.cells (itV x) 44)
  refine ⟨grown_below (World.grownBy.refl _ _) hb2, hg.later hb2, (Blk.new w _ _).later ((Below.refl _ _).alloc (Nat.le_refl _) _), ?_⟩
  have := Blk.new (w.alloc (.cells (ndC n) 58)) (itV x) 44
  rwa [World.size_alloc] at this
/-- A row more. -/
theorem HonS.add {w0 w w' : World} {g : Nat} {L M : List (List Itm)} {n : Nd} {x : Itm} {e : Ending} (h : HonS w0 g L n x w) (hlt : g < w0.heap.size) (k : HaddP w g M e w') : HonS w0 g M n x w' :=
  ⟨grown_trans h.gr k.2.2, k.2.1, (k.2.2.block _ h.bn.lt (by intro e; cases e; omega)).trans h.bn, (k.2.2.block _ h.bx.lt (by intro e; cases e; omega)).trans h.bx⟩
/-- What the opening of a node leaves. -/
def HonP (w0 : World) (g : Nat) (L : List (List Itm)) (e : Ending) (w : World) : Prop := e = .returned (.tuple #[]) ∧ Blk w g (rwsC L) 113 ∧ w0.grownBy w (some g)
theorem rw_ok0 : RwOk [] := ⟨by simp, fun r hr => by cases hr⟩
theorem rw_ok1 {r : List Itm} (h : r.length ≤ 2) : RwOk [r] := ⟨by simp, fun q hq => by rw [List.mem_singleton.1 hq]; exact h⟩
theorem ItRow.two {w : World} {b : Nat} {p q : Itm} (h : Blk w b #[.int .i64 p.kind, .int .i64 p.node, .int .i64 p.lo, .int .i64 p.hi, .int .i64 q.kind, .int .i64 q.node, .int .i64 q.lo, .int .i64 q.hi] 44) : ItRow w (some ⟨b, 0, none⟩) [p, q] := fun i hi => by
  have hi : i < 2 := hi
  refine ⟨b, 0, rfl, h.lt, fun j hj => ?_⟩
  rw [h.cell]
  rcases (by omega : i = 0 ∨ i = 1) with rfl | rfl <;> rcases (by omega : j = 0 ∨ j = 1 ∨ j = 2 ∨ j = 3) with rfl | rfl | rfl | rfl <;> rfl
def New2 (p q : Itm) (v : Value) (w : World) : Prop := ∃ b, v = .slice (some ⟨b, 0, none⟩) 2 2 ∧ Blk w b #[.int .i64 p.kind, .int .i64 p.node, .int .i64 p.lo, .int .i64 p.hi, .int .i64 q.kind, .int .i64 q.node, .int .i64 q.lo, .int .i64 q.hi] 44
theorem New2.later (p q : Itm) (v : Value) (w w' : World) (h : New2 p q v w) (hb : Below w.heap.size w w') : New2 p q v w' := by
  obtain ⟨b, h1, h2⟩ := h
  exact ⟨b, h1, h2.later hb⟩
/-- What a whole node opens to. -/
def nodR (n : Nd) (x : Itm) : List (List Itm) :=
  if n.kind = 1 then [[]]
  else if n.kind = 3 then [[⟨3, x.node, 0, 0⟩]]
  else if n.kind = 4 then [[⟨1, n.a, 0, 0⟩, ⟨1, n.b, 0, 0⟩]]
  else if n.kind = 5 then [[⟨1, n.a, 0, 0⟩], [⟨1, n.b, 0, 0⟩]]
  else if n.kind = 6 then [[], [⟨1, n.a, 0, 0⟩, x]]
  else if n.kind = 7 then [[⟨2, x.node, n.lo, n.hi⟩]]
  else []
set_option maxHeartbeats 32000000 in
theorem hdOpenNode_any (n : Nd) (x : Itm) (g : Nat) (w : World) (hg : Blk w g (rwsC []) 113) :
    Calls Try.prog 88 #[.pointer (some ⟨g, 0, none⟩), .agg (ndC n), .agg (itV x)] w (HonP w g (nodR n x)) := by
  have HS := Lib.hid (HonS.new n x hg)
  have HLT := Lib.hid hg.lt
  obtain ⟨nk, na, nb, nlo, nhi, ncls, ntext⟩ := n
  obtain ⟨kk, nn, lo, hi⟩ := x
  obtain ⟨T, hT⟩ : ∃ T, nodR ⟨nk, na, nb, nlo, nhi, ncls, ntext⟩ ⟨kk, nn, lo, hi⟩ = T := ⟨_, rfl⟩
  have HT0 := Lib.hid hT
  rw [hT]
  clear hT hg
  go_enter Try.func88, Try.ntmps88
  go_upto_region 1 with (fail)
  generalize (w.alloc (.cells (ndC ⟨nk, na, nb, nlo, nhi, ncls, ntext⟩) 58)).alloc (.cells (itV ⟨kk, nn, lo, hi⟩) 44) = w1 at HS ⊢
  have SS := HS
  by_cases k1 : nk = 1
  · subst k1
    have HT : Hid (T = [[]]) := by unfold Hid; rw [← HT0.out]; rfl
    clear HT0
    have g := SS.out.bn
    unfold ndC at g
    obtain ⟨g0, g1, g2, g3, g4, g5, g6, g7, g8, g9⟩ := ten_cells g
    have hit := SS.out.bx
    unfold itV at hit
    simp only at hit
    have x0 := hit.cell 0
    have x1 := hit.cell 1
    have x2 := hit.cell 2
    have x3 := hit.cell 3
    simp at x0 x1 x2 x3
    clear g hit
    go_wp2_with fail
    refine (hdAdd_any [] (by simp) rw_ok0 [] (by simp) g none 0 _ HS.out.blk (ItRow.nil _ _)).mono ?_
    intro e w2 hadd
    obtain rfl := hadd.1
    have HZZ := Lib.hid (HS.out.add (M := [[]]) HLT.out hadd)
    clear hadd g0 g1 g2 g3 g4 g5 g6 g7 g8 g9 x0 x1 x2 x3
    go_wp2
    go_end0
    exact ⟨rfl, by rw [HT.out]; exact HZZ.out.blk, HZZ.out.gr⟩
  · have e1 : (nk == 1) = false := by simpa using k1
    by_cases k3 : nk = 3
    · subst k3
      have HT : Hid (T = [[⟨3, nn, 0, 0⟩]]) := by unfold Hid; rw [← HT0.out]; rfl
      clear HT0
      have g := SS.out.bn
      unfold ndC at g
      obtain ⟨g0, g1, g2, g3, g4, g5, g6, g7, g8, g9⟩ := ten_cells g
      have hit := SS.out.bx
      unfold itV at hit
      simp only at hit
      have x0 := hit.cell 0
      have x1 := hit.cell 1
      have x2 := hit.cell 2
      have x3 := hit.cell 3
      simp at x0 x1 x2 x3
      clear g hit
      go_wp2_with fail
      have hb2 := (Below.refl w1.heap.size w1).alloc (Nat.le_refl _) (.cells (itV ⟨3, nn, 0, 0⟩) 44)
      refine (hdAdd_any [] (by simp) rw_ok0 [⟨3, nn, 0, 0⟩] (by simp) g (some ⟨w1.heap.size, 0, none⟩) 1 _ (HS.out.later hb2).blk (ItRow.one (Blk.new _ _ _))).mono ?_
      intro e w2 hadd
      obtain rfl := hadd.1
      have HZZ := Lib.hid ((HS.out.later hb2).add (M := [[⟨3, nn, 0, 0⟩]]) HLT.out hadd)
      clear hadd hb2 g0 g1 g2 g3 g4 g5 g6 g7 g8 g9 x0 x1 x2 x3
      go_wp2
      go_end0
      exact ⟨rfl, by rw [HT.out]; exact HZZ.out.blk, HZZ.out.gr⟩
    · have e3 : (nk == 3) = false := by simpa using k3
      by_cases k4 : nk = 4
      · subst k4
        have HT : Hid (T = [[⟨1, na, 0, 0⟩, ⟨1, nb, 0, 0⟩]]) := by unfold Hid; rw [← HT0.out]; rfl
        clear HT0
        have g := SS.out.bn
        unfold ndC at g
        obtain ⟨g0, g1, g2, g3, g4, g5, g6, g7, g8, g9⟩ := ten_cells g
        have hit := SS.out.bx
        unfold itV at hit
        simp only at hit
        have x0 := hit.cell 0
        have x1 := hit.cell 1
        have x2 := hit.cell 2
        have x3 := hit.cell 3
        simp at x0 x1 x2 x3
        clear g hit
        go_upto_region 7 with (fail)
        clear g0 g1 g2 g3 g4 g5 g6 g7 g8 g9 x0 x1 x2 x3
        refine wp_region_stable_tail 8 (S := (HonS w g [] ⟨4, na, nb, nlo, nhi, ncls, ntext⟩ ⟨kk, nn, lo, hi⟩)) (hSt := fun _ _ h hb => h.later hb) (plan := [[(0, none)], [(4, none)], [(23, some 1)], [(24, some 2)], [(4, none)], [(26, some 4)], [(27, some 5)], [(25, some 3), (28, some 6)]]) rfl rfl (by kernel_rfl) (by kernel_rfl) (by kernel_rfl) (by kernel_rfl) ?hS ?_
        rotate_left
        iterate 7 first
          | (refine chain_skip (by rfl) (by rfl) ?_)
          | (apply chain_want (by rfl)
             · intro act wx hS hr
               simp at hr
               have SS := Lib.hid hS
               have g := SS.out.bn
               unfold ndC at g
               obtain ⟨g0, g1, g2, g3, g4, g5, g6, g7, g8, g9⟩ := ten_cells g
               have hit := SS.out.bx
               unfold itV at hit
               simp only at hit
               have x0 := hit.cell 0
               have x1 := hit.cell 1
               have x2 := hit.cell 2
               have x3 := hit.cell 3
               simp at x0 x1 x2 x3
               clear g hit
               go_simp
               (try go_ints)
               first
                 | ((with_reducible refine (hdWhole_any _ _).mono ?_); rintro e w' ⟨rfl, hb⟩; exact Done.mk hb)
                 | exact Done.same
            )
        (refine chain_rel (New2 ⟨1, na, 0, 0⟩ ⟨1, nb, 0, 0⟩) (New2.later ⟨1, na, 0, 0⟩ ⟨1, nb, 0, 0⟩) (by rfl) ?_ ?_
         · intro act wx hS hr
           simp at hr
           have SS := Lib.hid hS
           have g := SS.out.bn
           unfold ndC at g
           obtain ⟨g0, g1, g2, g3, g4, g5, g6, g7, g8, g9⟩ := ten_cells g
           have hit := SS.out.bx
           unfold itV at hit
           simp only at hit
           have x0 := hit.cell 0
           have x1 := hit.cell 1
           have x2 := hit.cell 2
           have x3 := hit.cell 3
           simp at x0 x1 x2 x3
           clear g hit
           all_goals go_simp
           exact Done.rel ((Below.refl _ _).alloc (Nat.le_refl _) _) ⟨_, rfl, Blk.new _ _ _⟩
        )
        show ∀ w', _ → _
        intro wz hz
        simp [Act.put]
        case hS => exact HS.out
        intro v7 hv7
        obtain ⟨b7, rfl, hk7⟩ := hv7
        have HZ := Lib.hid hz
        have HK7 := Lib.hid hk7
        clear hz SS HS hk7
        go_wp2_with fail
        refine (hdAdd_any [] (by simp) rw_ok0 [⟨1, na, 0, 0⟩, ⟨1, nb, 0, 0⟩] (by simp) g (some ⟨b7, 0, none⟩) 2 _ HZ.out.blk (ItRow.two (p := ⟨1, na, 0, 0⟩) (q := ⟨1, nb, 0, 0⟩) HK7.out)).mono ?_
        intro e w2 hadd
        obtain rfl := hadd.1
        have HZZ := Lib.hid (HZ.out.add (M := [[⟨1, na, 0, 0⟩, ⟨1, nb, 0, 0⟩]]) HLT.out hadd)
        clear hadd
        go_wp2
        go_end0
        exact ⟨rfl, by rw [HT.out]; exact HZZ.out.blk, HZZ.out.gr⟩
      · have e4 : (nk == 4) = false := by simpa using k4
        by_cases k5 : nk = 5
        · subst k5
          have HT : Hid (T = [[⟨1, na, 0, 0⟩], [⟨1, nb, 0, 0⟩]]) := by unfold Hid; rw [← HT0.out]; rfl
          clear HT0
          have g := SS.out.bn
          unfold ndC at g
          obtain ⟨g0, g1, g2, g3, g4, g5, g6, g7, g8, g9⟩ := ten_cells g
          have hit := SS.out.bx
          unfold itV at hit
          simp only at hit
          have x0 := hit.cell 0
          have x1 := hit.cell 1
          have x2 := hit.cell 2
          have x3 := hit.cell 3
          simp at x0 x1 x2 x3
          clear g hit
          go_wp2_with fail
          refine (hdWhole_any _ _).mono ?_
          rintro e w2 ⟨rfl, hb⟩
          have HZ := Lib.hid (HS.out.later hb)
          clear hb g0 g1 g2 g3 g4 g5 g6 g7 g8 g9 x0 x1 x2 x3
          go_wp2_with fail
          have hb2 := (Below.refl w2.heap.size w2).alloc (Nat.le_refl _) (.cells (itV ⟨1, na, 0, 0⟩) 44)
          refine (hdAdd_any [] (by simp) rw_ok0 [⟨1, na, 0, 0⟩] (by simp) g (some ⟨w2.heap.size, 0, none⟩) 1 _ (HZ.out.later hb2).blk (ItRow.one (Blk.new _ _ _))).mono ?_
          intro e w3 hadd
          obtain rfl := hadd.1
          have HZ3 := Lib.hid ((HZ.out.later hb2).add (M := [[⟨1, na, 0, 0⟩]]) HLT.out hadd)
          clear hadd hb2 HZ SS
          have SS := HZ3
          have g := SS.out.bn
          unfold ndC at g
          obtain ⟨g0, g1, g2, g3, g4, g5, g6, g7, g8, g9⟩ := ten_cells g
          have hit := SS.out.bx
          unfold itV at hit
          simp only at hit
          have x0 := hit.cell 0
          have x1 := hit.cell 1
          have x2 := hit.cell 2
          have x3 := hit.cell 3
          simp at x0 x1 x2 x3
          clear g hit
          go_wp2_with fail
          refine (hdWhole_any _ _).mono ?_
          rintro e w4 ⟨rfl, hb⟩
          have HZ4 := Lib.hid (HZ3.out.later hb)
          clear hb g0 g1 g2 g3 g4 g5 g6 g7 g8 g9 x0 x1 x2 x3
          go_wp2_with fail
          have hb2 := (Below.refl w4.heap.size w4).alloc (Nat.le_refl _) (.cells (itV ⟨1, nb, 0, 0⟩) 44)
          refine (hdAdd_any [[⟨1, na, 0, 0⟩]] (by simp) (rw_ok1 (by simp)) [⟨1, nb, 0, 0⟩] (by simp) g (some ⟨w4.heap.size, 0, none⟩) 1 _ (HZ4.out.later hb2).blk (ItRow.one (Blk.new _ _ _))).mono ?_
          intro e w5 hadd
          obtain rfl := hadd.1
          have HZZ := Lib.hid ((HZ4.out.later hb2).add (M := [[⟨1, na, 0, 0⟩], [⟨1, nb, 0, 0⟩]]) HLT.out hadd)
          clear hadd hb2
          go_wp2
          go_end0
          exact ⟨rfl, by rw [HT.out]; exact HZZ.out.blk, HZZ.out.gr⟩
        · have e5 : (nk == 5) = false := by simpa using k5
          by_cases k6 : nk = 6
          · subst k6
            have HT : Hid (T = [[], [⟨1, na, 0, 0⟩, ⟨kk, nn, lo, hi⟩]]) := by unfold Hid; rw [← HT0.out]; rfl
            clear HT0
            have g := SS.out.bn
            unfold ndC at g
            obtain ⟨g0, g1, g2, g3, g4, g5, g6, g7, g8, g9⟩ := ten_cells g
            have hit := SS.out.bx
            unfold itV at hit
            simp only at hit
            have x0 := hit.cell 0
            have x1 := hit.cell 1
            have x2 := hit.cell 2
            have x3 := hit.cell 3
            simp at x0 x1 x2 x3
            clear g hit
            go_wp2_with fail
            refine (hdAdd_any [] (by simp) rw_ok0 [] (by simp) g none 0 _ HS.out.blk (ItRow.nil _ _)).mono ?_
            intro e w2 hadd
            obtain rfl := hadd.1
            have HZ2 := Lib.hid (HS.out.add (M := [[]]) HLT.out hadd)
            clear hadd g0 g1 g2 g3 g4 g5 g6 g7 g8 g9 x0 x1 x2 x3 SS HS
            go_upto_region 13 with (fail)
            refine wp_region_stable_tail 6 (S := (HonS w g [[]] ⟨6, na, nb, nlo, nhi, ncls, ntext⟩ ⟨kk, nn, lo, hi⟩)) (hSt := fun _ _ h hb => h.later hb) (plan := [[(0, none)], [(4, none)], [(50, some 1)], [(51, some 2)], [(5, none)], [(52, some 3), (53, some 4)]]) rfl rfl (by kernel_rfl) (by kernel_rfl) (by kernel_rfl) (by kernel_rfl) ?hS ?_
            rotate_left
            iterate 5 first
              | (refine chain_skip (by rfl) (by rfl) ?_)
              | (apply chain_want (by rfl)
                 · intro act wx hS hr
                   simp at hr
                   have SS := Lib.hid hS
                   have g := SS.out.bn
                   unfold ndC at g
                   obtain ⟨g0, g1, g2, g3, g4, g5, g6, g7, g8, g9⟩ := ten_cells g
                   have hit := SS.out.bx
                   unfold itV at hit
                   simp only at hit
                   have x0 := hit.cell 0
                   have x1 := hit.cell 1
                   have x2 := hit.cell 2
                   have x3 := hit.cell 3
                   simp at x0 x1 x2 x3
                   clear g hit
                   go_simp
                   (try go_ints)
                   first
                     | ((with_reducible refine (hdWhole_any _ _).mono ?_); rintro e w' ⟨rfl, hb⟩; exact Done.mk hb)
                     | exact Done.same
                )
            (refine chain_rel (New2 ⟨1, na, 0, 0⟩ ⟨kk, nn, lo, hi⟩) (New2.later ⟨1, na, 0, 0⟩ ⟨kk, nn, lo, hi⟩) (by rfl) ?_ ?_
             · intro act wx hS hr
               simp at hr
               have SS := Lib.hid hS
               have g := SS.out.bn
               unfold ndC at g
               obtain ⟨g0, g1, g2, g3, g4, g5, g6, g7, g8, g9⟩ := ten_cells g
               have hit := SS.out.bx
               unfold itV at hit
               simp only at hit
               have x0 := hit.cell 0
               have x1 := hit.cell 1
               have x2 := hit.cell 2
               have x3 := hit.cell 3
               simp at x0 x1 x2 x3
               clear g hit
               all_goals go_simp
               exact Done.rel ((Below.refl _ _).alloc (Nat.le_refl _) _) ⟨_, rfl, Blk.new _ _ _⟩
            )
            show ∀ w', _ → _
            intro wz hz
            simp [Act.put]
            case hS => exact HZ2.out
            intro v7 hv7
            obtain ⟨b7, rfl, hk7⟩ := hv7
            have HZ := Lib.hid hz
            have HK7 := Lib.hid hk7
            clear hz HZ2 hk7
            go_wp2_with fail
            refine (hdAdd_any [[]] (by simp) (rw_ok1 (by simp)) [⟨1, na, 0, 0⟩, ⟨kk, nn, lo, hi⟩] (by simp) g (some ⟨b7, 0, none⟩) 2 _ HZ.out.blk (ItRow.two (p := ⟨1, na, 0, 0⟩) (q := ⟨kk, nn, lo, hi⟩) HK7.out)).mono ?_
            intro e w3 hadd
            obtain rfl := hadd.1
            have HZZ := Lib.hid (HZ.out.add (M := [[], [⟨1, na, 0, 0⟩, ⟨kk, nn, lo, hi⟩]]) HLT.out hadd)
            clear hadd
            go_wp2
            go_end0
            exact ⟨rfl, by rw [HT.out]; exact HZZ.out.blk, HZZ.out.gr⟩
          · have e6 : (nk == 6) = false := by simpa using k6
            by_cases k7 : nk = 7
            · subst k7
              have HT : Hid (T = [[⟨2, nn, nlo, nhi⟩]]) := by unfold Hid; rw [← HT0.out]; rfl
              clear HT0
              have g := SS.out.bn
              unfold ndC at g
              obtain ⟨g0, g1, g2, g3, g4, g5, g6, g7, g8, g9⟩ := ten_cells g
              have hit := SS.out.bx
              unfold itV at hit
              simp only at hit
              have x0 := hit.cell 0
              have x1 := hit.cell 1
              have x2 := hit.cell 2
              have x3 := hit.cell 3
              simp at x0 x1 x2 x3
              clear g hit
              go_wp2_with fail
              have hb2 := (Below.refl w1.heap.size w1).alloc (Nat.le_refl _) (.cells (itV ⟨2, nn, nlo, nhi⟩) 44)
              refine (hdAdd_any [] (by simp) rw_ok0 [⟨2, nn, nlo, nhi⟩] (by simp) g (some ⟨w1.heap.size, 0, none⟩) 1 _ (HS.out.later hb2).blk (ItRow.one (Blk.new _ _ _))).mono ?_
              intro e w2 hadd
              obtain rfl := hadd.1
              have HZZ := Lib.hid ((HS.out.later hb2).add (M := [[⟨2, nn, nlo, nhi⟩]]) HLT.out hadd)
              clear hadd hb2 g0 g1 g2 g3 g4 g5 g6 g7 g8 g9 x0 x1 x2 x3
              go_wp2
              go_end0
              exact ⟨rfl, by rw [HT.out]; exact HZZ.out.blk, HZZ.out.gr⟩
            · have e7 : (nk == 7) = false := by simpa using k7
              have HT : Hid (T = []) := by unfold Hid; rw [← HT0.out]; unfold nodR; simp only; rw [if_neg k1, if_neg k3, if_neg k4, if_neg k5, if_neg k6, if_neg k7]
              clear HT0 k1 k3 k4 k5 k6 k7
              have g := SS.out.bn
              unfold ndC at g
              obtain ⟨g0, g1, g2, g3, g4, g5, g6, g7, g8, g9⟩ := ten_cells g
              have hit := SS.out.bx
              unfold itV at hit
              simp only at hit
              have x0 := hit.cell 0
              have x1 := hit.cell 1
              have x2 := hit.cell 2
              have x3 := hit.cell 3
              simp at x0 x1 x2 x3
              clear g hit
              have HZZ := HS
              go_wp2
              go_end0
              exact ⟨rfl, by rw [HT.out]; exact HZZ.out.blk, HZZ.out.gr⟩
end Go.Proofs.Ytidoofdofdhjpaa
/- What an item opens to: walked, the whole. -/
namespace Go.Proofs.Ytidoofdofdhjpaa
open Go Go.RowKit
set_option linter.unusedVariables false
set_option linter.unusedSimpArgs false
set_option maxRecDepth 100000
set_option maxHeartbeats 16000000

theorem blk_typ {w : World} {b c : Nat} {vs us : Array Value} {t u : TypeId} (h : Blk w b vs t) (k : Blk w c us u) (hne : t ≠ u) : b ≠ c := by
  rintro rfl
  unfold Blk at h k
  rw [h] at k
  cases k
  exact hne rfl
theorem bel_grown {B : Nat} {a b c : World} {g : Nat} (h : Below B a b) (hB : B ≤ b.heap.size) (k : b.grownBy c (some g)) (hg : B ≤ g) : Below B a c :=
  h.trans ⟨k.os, k.tape, k.output, k.size, fun j hj => k.block j (by omega) (by intro e; cases e; omega)⟩
structure HopS (w0 : World) (A : Option Addr) (l : List Nd) (c : Nat) (x : Itm) (L : List (List Itm)) (bn : Nat) (n : Nd) (w : World) : Prop where
  bel : Below w0.heap.size w0 w
  row : NRow w A l
  bd : Blk w w0.heap.size #[.slice A l.length c] 24
  bx : Blk w (w0.heap.size + 1) (itV x) 44
  br : Blk w (w0.heap.size + 2) (rwsC []) 113
  bg : Blk w (w0.heap.size + 3) (rwsC L) 113
  bn : Blk w bn (ndC n) 58
theorem HopS.later {w0 w w' : World} {A : Option Addr} {l : List Nd} {c : Nat} {x : Itm} {L : List (List Itm)} {bn : Nat} {n : Nd} (h : HopS w0 A l c x L bn n w) (hb : Below w.heap.size w w') : HopS w0 A l c x L bn n w' :=
  ⟨h.bel.trans (hb.mono h.bel.size), h.row.later hb, h.bd.later hb, h.bx.later hb, h.br.later hb, h.bg.later hb, h.bn.later hb⟩
theorem HopS.turn {w0 w w' : World} {A : Option Addr} {l : List Nd} {c : Nat} {x : Itm} {L M : List (List Itm)} {bn : Nat} {n : Nd} (h : HopS w0 A l c x L bn n w) (hr : NRow w0 A l) (k : Blk w' (w0.heap.size + 3) (rwsC M) 113) (kg : w.grownBy w' (some (w0.heap.size + 3))) : HopS w0 A l c x M bn n w' := by
  have hb := bel_grown h.bel h.bel.size kg (by omega)
  have hk : ∀ (b : Nat) (cs : Array Value) (t : TypeId), Blk w b cs t → b ≠ w0.heap.size + 3 → Blk w' b cs t := fun b cs t hb hne => (kg.block b hb.lt (by intro e; cases e; exact hne rfl)).trans hb
  exact ⟨hb, hr.later hb, hk _ _ _ h.bd (by omega), hk _ _ _ h.bx (by omega), hk _ _ _ h.br (by omega), k, hk _ _ _ h.bn (blk_typ h.bn h.bg (by decide))⟩
/-- The four boxes. -/
structure Hop0 (w0 : World) (A : Option Addr) (l : List Nd) (c : Nat) (x : Itm) (w : World) : Prop where
  bel : Below w0.heap.size w0 w
  row : NRow w A l
  bd : Blk w w0.heap.size #[.slice A l.length c] 24
  bx : Blk w (w0.heap.size + 1) (itV x) 44
  br : Blk w (w0.heap.size + 2) (rwsC []) 113
  bg : Blk w (w0.heap.size + 3) (rwsC []) 113
theorem Hop0.later {w0 w w' : World} {A : Option Addr} {l : List Nd} {c : Nat} {x : Itm} (h : Hop0 w0 A l c x w) (hb : Below w.heap.size w w') : Hop0 w0 A l c x w' :=
  ⟨h.bel.trans (hb.mono h.bel.size), h.row.later hb, h.bd.later hb, h.bx.later hb, h.br.later hb, h.bg.later hb⟩
theorem Hop0.new {w : World} {A : Option Addr} {l : List Nd} (c : Nat) (x : Itm) (hr : NRow w A l) : Hop0 w A l c x ((((w.alloc (.cells #[.slice A l.length c] 24)).alloc (.cells (itV x) 44)).alloc (.cells (rwsC []) 113)).alloc (.cells (rwsC []) 113)) := by
  have hb : ∀ (w : World) (o : Obj), Below w.heap.size w (w.alloc o) := fun w o => (Below.refl _ _).alloc (Nat.le_refl _) _
  have h1 := Blk.new w #[.slice A l.length c] 24
  have e1 : (w.alloc (.cells #[.slice A l.length c] 24)).heap.size = w.heap.size + 1 := World.size_alloc _ _
  have hB1 := hb w (.cells #[.slice A l.length c] 24)
  generalize w.alloc (.cells #[.slice A l.length c] 24) = w1 at *
  have h2 := Blk.new' e1.symm (itV x) 44
  have e2 : (w1.alloc (.cells (itV x) 44)).heap.size = w.heap.size + 2 := by rw [World.size_alloc, e1]
  have hB2 := hb w1 (.cells (itV x) 44)
  generalize w1.alloc (.cells (itV x) 44) = w2 at *
  have h3 := Blk.new' e2.symm (rwsC []) 113
  have e3 : (w2.alloc (.cells (rwsC []) 113)).heap.size = w.heap.size + 3 := by rw [World.size_alloc, e2]
  have hB3 := hb w2 (.cells (rwsC []) 113)
  generalize w2.alloc (.cells (rwsC []) 113) = w3 at *
  have h4 := Blk.new' e3.symm (rwsC []) 113
  have hB4 := hb w3 (.cells (rwsC []) 113)
  generalize w3.alloc (.cells (rwsC []) 113) = w4 at *
  have hBB : Below w.heap.size w w4 := ((hB1.trans (hB2.mono (by omega))).trans (hB3.mono (by omega))).trans (hB4.mono (by omega))
  exact ⟨hBB, hr.later hBB, ((h1.later hB2).later hB3).later hB4, (h2.later hB3).later hB4, h3.later hB4, h4⟩
theorem rwI_one {l : List Nd} {x : Itm} {i : Nat} (h1 : x.kind = 1) (hx : x.node = (i : Int)) : rwI l x = nodR (atN l i) x := by
  unfold rwI opnS nodR
  simp only [h1, hx, Int.toNat_natCast]
  rw [if_neg (by omega), if_neg (by omega)]
theorem opens_zero : rwsC [] = #[Value.int .i64 0, .int .i64 0, .int .i64 0, .int .i64 0, .int .i64 0, .int .i64 0, .int .i64 0, .int .i64 0, .int .i64 0, .int .i64 0, .int .i64 0, .int .i64 0, .int .i64 0, .int .i64 0, .int .i64 0, .int .i64 0, .int .i64 0, .int .i64 0, .int .i64 0] := rfl
theorem rwsC_ones {L : List (List Itm)} : (rwsC L).all (·.oneCell') = true := by
  rw [Array.all_eq_true_iff_forall_mem]
  intro v hv
  unfold rwsC at hv
  rw [List.mem_toArray, List.mem_append, List.mem_append] at hv
  have h : ∀ r, v ∈ rowC r → v.oneCell' = true := fun r hr => by
    unfold rowC at hr
    rcases List.mem_append.1 hr with h | h
    · exact flatIt_ones _ v h
    · rw [List.mem_singleton.1 h]; rfl
  rcases hv with (h1 | h1) | h1
  · exact h _ h1
  · exact h _ h1
  · rw [List.mem_singleton.1 h1]; rfl
theorem rwsC_info {L : List (List Itm)} (h : RwOk L) : (Try.prog.info? 113).map (·.size) = some (rwsC L).size := by
  rw [rwsC_size h]; kernel_rfl
theorem setRow_blk {w : World} {g : Nat} {cs cs' : Array Value} {t : TypeId} (h : Blk w g cs t) : Blk (w.setRow g cs') g cs' t := setRow_heap _ _ _ _ _ _ h
theorem hdOpens_any (l : List Nd) (A : Option Addr) (c : Nat) (x : Itm) (hF : Form l) (h0 : 0 < l.length) (hx : HdF l x) (hrd : rdyS l [x] = false) (hlen : l.length ≤ 1073741824) (w : World) (hrow : NRow w A l) :
    Calls Try.prog 66 #[.agg #[.slice A l.length c], .agg (itV x)] w (Ans w (.agg (rwsC (rwI l x)))) := by
  obtain ⟨i, hil, hin⟩ := hx.inl h0
  have hkd := hx.kind
  have hr1 := rwI_one (l := l) (x := x) (i := i)
  have hRI : ∀ T, rwI l x = T → Hid (rwI l x = T) := fun T h => h
  obtain ⟨kk, nn, lo, hi'⟩ := x
  simp only at hin hkd hr1
  subst hin
  have HS := Lib.hid (Hop0.new c ⟨kk, (i : Int), lo, hi'⟩ hrow)
  have HN := Lib.hid (fun (w' : World) (h : NRow w' A l) => hdNode_any l A c ⟨kk, (i : Int), lo, hi'⟩ i hil rfl hlen w' h)
  have HR := Lib.hid hrow
  obtain ⟨T, hT⟩ : ∃ T, rwI l ⟨kk, (i : Int), lo, hi'⟩ = T := ⟨_, rfl⟩
  have HT0 := Lib.hid hT
  have HOK : Hid (RwOk T) := by unfold Hid; rw [← hT]; exact rw_len _ _
  rw [hT]
  clear hT hrow
  rw [opens_zero] at HS
  go_enter Try.func66, Try.ntmps66
  go_upto_region 2 with (fail)
  unfold itV at HS HN ⊢
  simp only at HS HN ⊢
  generalize (((w.alloc (.cells #[.slice A l.length c] 24)).alloc (.cells #[.int .i64 kk, .int .i64 (i : Int), .int .i64 lo, .int .i64 hi'] 44)).alloc (.cells #[Value.int .i64 0, .int .i64 0, .int .i64 0, .int .i64 0, .int .i64 0, .int .i64 0, .int .i64 0, .int .i64 0, .int .i64 0, .int .i64 0, .int .i64 0, .int .i64 0, .int .i64 0, .int .i64 0, .int .i64 0, .int .i64 0, .int .i64 0, .int .i64 0, .int .i64 0] 113)).alloc (.cells #[Value.int .i64 0, .int .i64 0, .int .i64 0, .int .i64 0, .int .i64 0, .int .i64 0, .int .i64 0, .int .i64 0, .int .i64 0, .int .i64 0, .int .i64 0, .int .i64 0, .int .i64 0, .int .i64 0, .int .i64 0, .int .i64 0, .int .i64 0, .int .i64 0, .int .i64 0] 113) = w1 at HS ⊢
  have e0 := HS.out.bd.cell 0
  have hit := HS.out.bx
  unfold itV at hit
  simp only at hit
  have x0 := hit.cell 0
  have x1 := hit.cell 1
  have x2 := hit.cell 2
  have x3 := hit.cell 3
  simp at x0 x1 x2 x3 e0
  clear hit
  go_wp2_with fail
  refine (HN.out _ HS.out.row).mono ?_
  rintro e w2 ⟨rfl, hb⟩
  generalize hn : atN l i = n at *
  obtain ⟨nk, na, nb, nlo, nhi, ncls, ntext⟩ := n
  have HS2 := Lib.hid (HS.out.later hb)
  clear hb x0 x1 x2 x3 e0 HN HS
  unfold ndC
  simp only
  go_upto_region 3 with (fail)
  have hb3 := (Below.refl w2.heap.size w2).alloc (Nat.le_refl _) (.cells (ndC ⟨nk, na, nb, nlo, nhi, ncls, ntext⟩) 58)
  have HBN := Lib.hid (Blk.new w2 (ndC ⟨nk, na, nb, nlo, nhi, ncls, ntext⟩) 58)
  have HS3 := HS2.out.later hb3
  have HS4 : HopS w A l c ⟨kk, (i : Int), lo, hi'⟩ [] w2.heap.size ⟨nk, na, nb, nlo, nhi, ncls, ntext⟩ (w2.alloc (.cells (ndC ⟨nk, na, nb, nlo, nhi, ncls, ntext⟩) 58)) := ⟨HS3.bel, HS3.row, HS3.bd, HS3.bx, HS3.br, HS3.bg, HBN.out⟩
  clear HS3 HS2 HBN hb3
  have HS : Hid _ := HS4
  clear HS4
  unfold ndC at HS
  simp only at HS
  generalize (w2.alloc (.cells #[.int .i64 nk, .int .i64 na, .int .i64 nb, .int .i64 nlo, .int .i64 nhi, .int .u64 (wd ncls 0), .int .u64 (wd ncls 1), .int .u64 (wd ncls 2), .int .u64 (wd ncls 3), .string (bs ntext)] 58)) = w3 at HS ⊢
  generalize w2.heap.size = bn at HS ⊢
  have SS := HS
  by_cases k5 : kk = 5
  · have HT5 : Hid (T = if lo = 0 then [[]] else []) := by
      unfold Hid; rw [← HT0.out]; unfold rwI opnS; simp only; rw [if_pos k5]
    have hk5 : (kk == 5) = true := by simpa using k5
    clear hr1 HT0 hRI k5
    have g := SS.out.bn
    unfold ndC at g
    obtain ⟨g0, g1, g2, g3, g4, g5, g6, g7, g8, g9⟩ := ten_cells g
    have hit := SS.out.bx
    unfold itV at hit
    simp only at hit
    have x0 := hit.cell 0
    have x1 := hit.cell 1
    have x2 := hit.cell 2
    have x3 := hit.cell 3
    have e0 := SS.out.bd.cell 0
    simp at x0 x1 x2 x3 e0
    clear g hit
    by_cases hl0 : lo = 0
    · have HT : Hid (T = [[]]) := by unfold Hid; rw [HT5.out, if_pos hl0]
      have e1 : (lo == 0) = true := by simpa using hl0
      clear HT5 hl0
      go_wp2_with fail
      refine (hdAdd_any [] (by simp) rw_ok0 [] (by simp) _ none 0 _ HS.out.bg (ItRow.nil _ _)).mono ?_
      intro e w4 hadd
      obtain rfl := hadd.1
      have HZ := Lib.hid (HS.out.turn (M := [[]]) HR.out hadd.2.1 hadd.2.2)
      clear hadd x0 x1 x2 x3 e0 g0 g1 g2 g3 g4 g5 g6 g7 g8 g9
      have HZT := HZ.out
      rw [← HT.out] at HZT
      have HZU := Lib.hid HZT
      clear HZT
      go_upto_region 14 with (fail)
      go_wp2_with (refine wpList_load_row rfl 113 _ rfl (w.heap.size + 3) rfl 113 (rwsC T) (0, 0) _ HZU.out.bg Try.underlying113 rfl (rwsC_info HOK.out) ?_; refine wpList_store_row rfl 113 _ _ rfl (w.heap.size + 2) (rwsC T) rfl rfl 113 (rwsC []) HZU.out.br (rwsC_info HOK.out) (by rw [rwsC_size HOK.out]; rfl) rwsC_ones ?_)
      refine bodyPost_ret (results_cell_row rfl _ _ (w.heap.size + 2) 113 (rwsC T) (0, 0) _ rfl (setRow_blk HZU.out.br) Try.underlying113 rfl (rwsC_info HOK.out)) rfl ⟨rfl, ?_⟩
      exact bel_grown HZU.out.bel HZU.out.bel.size (setRow_grown _ _ _) (by omega)
    · have HT : Hid (T = []) := by unfold Hid; rw [HT5.out, if_neg hl0]
      have e1 : (lo == 0) = false := by simpa using hl0
      have HZ := HS
      clear HT5 hl0
      have HZT := HZ.out
      rw [← HT.out] at HZT
      have HZU := Lib.hid HZT
      clear HZT
      go_upto_region 14 with (fail)
      go_wp2_with (refine wpList_load_row rfl 113 _ rfl (w.heap.size + 3) rfl 113 (rwsC T) (0, 0) _ HZU.out.bg Try.underlying113 rfl (rwsC_info HOK.out) ?_; refine wpList_store_row rfl 113 _ _ rfl (w.heap.size + 2) (rwsC T) rfl rfl 113 (rwsC []) HZU.out.br (rwsC_info HOK.out) (by rw [rwsC_size HOK.out]; rfl) rwsC_ones ?_)
      refine bodyPost_ret (results_cell_row rfl _ _ (w.heap.size + 2) 113 (rwsC T) (0, 0) _ rfl (setRow_blk HZU.out.br) Try.underlying113 rfl (rwsC_info HOK.out)) rfl ⟨rfl, ?_⟩
      exact bel_grown HZU.out.bel HZU.out.bel.size (setRow_grown _ _ _) (by omega)
  · have hk5 : (kk == 5) = false := by simpa using k5
    by_cases k2 : kk = 2
    · have HT2 : Hid (T = (if lo = 0 then [[]] else []) ++ (if 0 < hi' then [[⟨1, na, 0, 0⟩, ⟨2, (i : Int), max lo 1 - 1, hi' - 1⟩]] else [])) := by
        unfold Hid; rw [← HT0.out]; unfold rwI opnS; simp only
        rw [if_neg k5, if_pos k2, Int.toNat_natCast, hn, show max 0 (lo - 1) = max lo 1 - 1 by omega]
      have hk2 : (kk == 2) = true := by simpa using k2
      obtain ⟨q0, q1, q2, q3⟩ := hx.two k2
      simp only [Int.toNat_natCast] at q0 q1 q2 q3
      rw [hn] at q0 q3
      simp only at q0 q3
      have hb1 : hi' ≤ 255 := by
        have := hd_cs hF hil
        rw [hn] at this
        cases this with
        | leaf h1 hf => unfold leafK at h1; simp only at h1; omega
        | one h1 hi0 ha hb h7 hr hcl hf => have := hr q0; simp only at this; omega
        | two h1 hi0 hb ha hf0 hl hcl hf => simp only at h1; omega
      clear hr1 HT0 hRI k5 hn hx hrd q0 q3
      subst k2
      have g := SS.out.bn
      unfold ndC at g
      obtain ⟨g0, g1, g2, g3, g4, g5, g6, g7, g8, g9⟩ := ten_cells g
      have hit := SS.out.bx
      unfold itV at hit
      simp only at hit
      have x0 := hit.cell 0
      have x1 := hit.cell 1
      have x2 := hit.cell 2
      have x3 := hit.cell 3
      have e0 := SS.out.bd.cell 0
      simp at x0 x1 x2 x3 e0
      clear g hit
      by_cases hl0 : lo = 0
      · have e1 : (lo == 0) = true := by simpa using hl0
        by_cases hh0 : hi' = 0
        · have HT : Hid (T = [[]]) := by unfold Hid; rw [HT2.out, if_pos hl0, if_neg (by omega)]; rfl
          have e2 : (hi' != 0) = false := by simpa using hh0
          clear HT2 hl0 hh0 q1 q2 hb1
          go_wp2_with fail
          refine (hdAdd_any [] (by simp) rw_ok0 [] (by simp) _ none 0 _ HS.out.bg (ItRow.nil _ _)).mono ?_
          intro e w4 hadd
          obtain rfl := hadd.1
          have HZ := Lib.hid (HS.out.turn (M := [[]]) HR.out hadd.2.1 hadd.2.2)
          clear hadd x0 x1 x2 x3 e0 g0 g1 g2 g3 g4 g5 g6 g7 g8 g9 SS
          have SS := HZ
          have g := SS.out.bn
          unfold ndC at g
          obtain ⟨g0, g1, g2, g3, g4, g5, g6, g7, g8, g9⟩ := ten_cells g
          have hit := SS.out.bx
          unfold itV at hit
          simp only at hit
          have x0 := hit.cell 0
          have x1 := hit.cell 1
          have x2 := hit.cell 2
          have x3 := hit.cell 3
          have e0 := SS.out.bd.cell 0
          simp at x0 x1 x2 x3 e0
          clear g hit
          have HZT := HZ.out
          rw [← HT.out] at HZT
          have HZU := Lib.hid HZT
          clear HZT
          go_upto_region 14 with (fail)
          go_wp2_with (refine wpList_load_row rfl 113 _ rfl (w.heap.size + 3) rfl 113 (rwsC T) (0, 0) _ HZU.out.bg Try.underlying113 rfl (rwsC_info HOK.out) ?_; refine wpList_store_row rfl 113 _ _ rfl (w.heap.size + 2) (rwsC T) rfl rfl 113 (rwsC []) HZU.out.br (rwsC_info HOK.out) (by rw [rwsC_size HOK.out]; rfl) rwsC_ones ?_)
          refine bodyPost_ret (results_cell_row rfl _ _ (w.heap.size + 2) 113 (rwsC T) (0, 0) _ rfl (setRow_blk HZU.out.br) Try.underlying113 rfl (rwsC_info HOK.out)) rfl ⟨rfl, ?_⟩
          exact bel_grown HZU.out.bel HZU.out.bel.size (setRow_grown _ _ _) (by omega)
        · have HT : Hid (T = [[], [⟨1, na, 0, 0⟩, ⟨2, (i : Int), max lo 1 - 1, hi' - 1⟩]]) := by unfold Hid; rw [HT2.out, if_pos hl0, if_pos (by omega)]; rfl
          have e2 : (hi' != 0) = true := by simpa using hh0
          clear HT2 hl0 hh0
          go_wp2_with fail
          refine (hdAdd_any [] (by simp) rw_ok0 [] (by simp) _ none 0 _ HS.out.bg (ItRow.nil _ _)).mono ?_
          intro e w4 hadd
          obtain rfl := hadd.1
          have HZ := Lib.hid (HS.out.turn (M := [[]]) HR.out hadd.2.1 hadd.2.2)
          clear hadd x0 x1 x2 x3 e0 g0 g1 g2 g3 g4 g5 g6 g7 g8 g9 SS
          have SS := HZ
          have g := SS.out.bn
          unfold ndC at g
          obtain ⟨g0, g1, g2, g3, g4, g5, g6, g7, g8, g9⟩ := ten_cells g
          have hit := SS.out.bx
          unfold itV at hit
          simp only at hit
          have x0 := hit.cell 0
          have x1 := hit.cell 1
          have x2 := hit.cell 2
          have x3 := hit.cell 3
          have e0 := SS.out.bd.cell 0
          simp at x0 x1 x2 x3 e0
          clear g hit
          go_upto_region 11 with (fail)
          clear x0 x1 x2 x3 e0 g0 g1 g2 g3 g4 g5 g6 g7 g8 g9 SS
          refine wp_region_stable_tail 14 (S := (HopS w A l c ⟨2, (i : Int), lo, hi'⟩ [[]] bn ⟨nk, na, nb, nlo, nhi, ncls, ntext⟩)) (hSt := fun _ _ h hb => h.later hb) (plan := [[(6, none)], [(27, some 0)], [(28, some 1)], [(3, none)], [(30, some 3)], [(3, none)], [(32, some 5)], [(33, some 6)], [(34, some 7)], [(3, none)], [(36, some 9)], [(37, some 10)], [(31, some 4), (35, some 8), (38, some 11)], [(29, some 2), (39, some 12)]]) rfl rfl (by kernel_rfl) (by kernel_rfl) (by kernel_rfl) (by kernel_rfl) ?hS ?_
          rotate_left
          iterate 13 first
            | (refine chain_skip (by rfl) (by rfl) ?_)
            | (apply chain_want (by rfl)
               · intro act wx hS hr
                 simp at hr
                 have SS := Lib.hid hS
                 have g := SS.out.bn
                 unfold ndC at g
                 obtain ⟨g0, g1, g2, g3, g4, g5, g6, g7, g8, g9⟩ := ten_cells g
                 have hit := SS.out.bx
                 unfold itV at hit
                 simp only at hit
                 have x0 := hit.cell 0
                 have x1 := hit.cell 1
                 have x2 := hit.cell 2
                 have x3 := hit.cell 3
                 have e0 := SS.out.bd.cell 0
                 simp at x0 x1 x2 x3 e0
                 clear g hit
                 go_simp
                 (try go_ints)
                 first
                   | ((with_reducible refine (hdWhole_any _ _).mono ?_); rintro e w' ⟨rfl, hb⟩; exact Done.mk hb)
                   | exact Done.same
              )
          (refine chain_rel (New2 ⟨1, na, 0, 0⟩ ⟨2, (i : Int), max lo 1 - 1, hi' - 1⟩) (New2.later ⟨1, na, 0, 0⟩ ⟨2, (i : Int), max lo 1 - 1, hi' - 1⟩) (by rfl) ?_ ?_
           · intro act wx hS hr
             simp at hr
             have SS := Lib.hid hS
             have g := SS.out.bn
             unfold ndC at g
             obtain ⟨g0, g1, g2, g3, g4, g5, g6, g7, g8, g9⟩ := ten_cells g
             have hit := SS.out.bx
             unfold itV at hit
             simp only at hit
             have x0 := hit.cell 0
             have x1 := hit.cell 1
             have x2 := hit.cell 2
             have x3 := hit.cell 3
             have e0 := SS.out.bd.cell 0
             simp at x0 x1 x2 x3 e0
             clear g hit
             all_goals go_simp
             exact Done.rel ((Below.refl _ _).alloc (Nat.le_refl _) _) ⟨_, rfl, Blk.new _ _ _⟩
          )
          show ∀ w', _ → _
          intro wz hz
          simp [Act.put]
          case hS => exact HZ.out
          intro v7 hv7
          obtain ⟨b7, rfl, hk7⟩ := hv7
          have HZ2 := Lib.hid hz
          have HK7 := Lib.hid hk7
          clear hz hk7 HZ
          go_wp2_with fail
          refine (hdAdd_any [[]] (by simp) (rw_ok1 (by simp)) [⟨1, na, 0, 0⟩, ⟨2, (i : Int), max lo 1 - 1, hi' - 1⟩] (by simp) _ (some ⟨b7, 0, none⟩) 2 _ HZ2.out.bg (ItRow.two (p := ⟨1, na, 0, 0⟩) (q := ⟨2, (i : Int), max lo 1 - 1, hi' - 1⟩) HK7.out)).mono ?_
          intro e w5 hadd
          obtain rfl := hadd.1
          have HZ := Lib.hid (HZ2.out.turn (M := [[], [⟨1, na, 0, 0⟩, ⟨2, (i : Int), max lo 1 - 1, hi' - 1⟩]]) HR.out hadd.2.1 hadd.2.2)
          clear hadd
          have HZT := HZ.out
          rw [← HT.out] at HZT
          have HZU := Lib.hid HZT
          clear HZT
          go_upto_region 14 with (fail)
          go_wp2_with (refine wpList_load_row rfl 113 _ rfl (w.heap.size + 3) rfl 113 (rwsC T) (0, 0) _ HZU.out.bg Try.underlying113 rfl (rwsC_info HOK.out) ?_; refine wpList_store_row rfl 113 _ _ rfl (w.heap.size + 2) (rwsC T) rfl rfl 113 (rwsC []) HZU.out.br (rwsC_info HOK.out) (by rw [rwsC_size HOK.out]; rfl) rwsC_ones ?_)
          refine bodyPost_ret (results_cell_row rfl _ _ (w.heap.size + 2) 113 (rwsC T) (0, 0) _ rfl (setRow_blk HZU.out.br) Try.underlying113 rfl (rwsC_info HOK.out)) rfl ⟨rfl, ?_⟩
          exact bel_grown HZU.out.bel HZU.out.bel.size (setRow_grown _ _ _) (by omega)
      · have e1 : (lo == 0) = false := by simpa using hl0
        have HT : Hid (T = [[⟨1, na, 0, 0⟩, ⟨2, (i : Int), max lo 1 - 1, hi' - 1⟩]]) := by unfold Hid; rw [HT2.out, if_neg hl0, if_pos (by omega)]; rfl
        have e2 : (hi' != 0) = true := by
          have : hi' ≠ 0 := by omega
          simpa using this
        clear HT2 hl0
        go_upto_region 11 with (fail)
        clear x0 x1 x2 x3 e0 g0 g1 g2 g3 g4 g5 g6 g7 g8 g9 SS
        refine wp_region_stable_tail 14 (S := (HopS w A l c ⟨2, (i : Int), lo, hi'⟩ [] bn ⟨nk, na, nb, nlo, nhi, ncls, ntext⟩)) (hSt := fun _ _ h hb => h.later hb) (plan := [[(6, none)], [(27, some 0)], [(28, some 1)], [(3, none)], [(30, some 3)], [(3, none)], [(32, some 5)], [(33, some 6)], [(34, some 7)], [(3, none)], [(36, some 9)], [(37, some 10)], [(31, some 4), (35, some 8), (38, some 11)], [(29, some 2), (39, some 12)]]) rfl rfl (by kernel_rfl) (by kernel_rfl) (by kernel_rfl) (by kernel_rfl) ?hS ?_
        rotate_left
        iterate 13 first
          | (refine chain_skip (by rfl) (by rfl) ?_)
          | (apply chain_want (by rfl)
             · intro act wx hS hr
               simp at hr
               have SS := Lib.hid hS
               have g := SS.out.bn
               unfold ndC at g
               obtain ⟨g0, g1, g2, g3, g4, g5, g6, g7, g8, g9⟩ := ten_cells g
               have hit := SS.out.bx
               unfold itV at hit
               simp only at hit
               have x0 := hit.cell 0
               have x1 := hit.cell 1
               have x2 := hit.cell 2
               have x3 := hit.cell 3
               have e0 := SS.out.bd.cell 0
               simp at x0 x1 x2 x3 e0
               clear g hit
               go_simp
               (try go_ints)
               first
                 | ((with_reducible refine (hdWhole_any _ _).mono ?_); rintro e w' ⟨rfl, hb⟩; exact Done.mk hb)
                 | exact Done.same
            )
        (refine chain_rel (New2 ⟨1, na, 0, 0⟩ ⟨2, (i : Int), max lo 1 - 1, hi' - 1⟩) (New2.later ⟨1, na, 0, 0⟩ ⟨2, (i : Int), max lo 1 - 1, hi' - 1⟩) (by rfl) ?_ ?_
         · intro act wx hS hr
           simp at hr
           have SS := Lib.hid hS
           have g := SS.out.bn
           unfold ndC at g
           obtain ⟨g0, g1, g2, g3, g4, g5, g6, g7, g8, g9⟩ := ten_cells g
           have hit := SS.out.bx
           unfold itV at hit
           simp only at hit
           have x0 := hit.cell 0
           have x1 := hit.cell 1
           have x2 := hit.cell 2
           have x3 := hit.cell 3
           have e0 := SS.out.bd.cell 0
           simp at x0 x1 x2 x3 e0
           clear g hit
           all_goals go_simp
           exact Done.rel ((Below.refl _ _).alloc (Nat.le_refl _) _) ⟨_, rfl, Blk.new _ _ _⟩
        )
        show ∀ w', _ → _
        intro wz hz
        simp [Act.put]
        case hS => exact HS.out
        intro v7 hv7
        obtain ⟨b7, rfl, hk7⟩ := hv7
        have HZ2 := Lib.hid hz
        have HK7 := Lib.hid hk7
        clear hz hk7 HS
        go_wp2_with fail
        refine (hdAdd_any [] (by simp) rw_ok0 [⟨1, na, 0, 0⟩, ⟨2, (i : Int), max lo 1 - 1, hi' - 1⟩] (by simp) _ (some ⟨b7, 0, none⟩) 2 _ HZ2.out.bg (ItRow.two (p := ⟨1, na, 0, 0⟩) (q := ⟨2, (i : Int), max lo 1 - 1, hi' - 1⟩) HK7.out)).mono ?_
        intro e w5 hadd
        obtain rfl := hadd.1
        have HZ := Lib.hid (HZ2.out.turn (M := [[⟨1, na, 0, 0⟩, ⟨2, (i : Int), max lo 1 - 1, hi' - 1⟩]]) HR.out hadd.2.1 hadd.2.2)
        clear hadd
        have HZT := HZ.out
        rw [← HT.out] at HZT
        have HZU := Lib.hid HZT
        clear HZT
        go_upto_region 14 with (fail)
        go_wp2_with (refine wpList_load_row rfl 113 _ rfl (w.heap.size + 3) rfl 113 (rwsC T) (0, 0) _ HZU.out.bg Try.underlying113 rfl (rwsC_info HOK.out) ?_; refine wpList_store_row rfl 113 _ _ rfl (w.heap.size + 2) (rwsC T) rfl rfl 113 (rwsC []) HZU.out.br (rwsC_info HOK.out) (by rw [rwsC_size HOK.out]; rfl) rwsC_ones ?_)
        refine bodyPost_ret (results_cell_row rfl _ _ (w.heap.size + 2) 113 (rwsC T) (0, 0) _ rfl (setRow_blk HZU.out.br) Try.underlying113 rfl (rwsC_info HOK.out)) rfl ⟨rfl, ?_⟩
        exact bel_grown HZU.out.bel HZU.out.bel.size (setRow_grown _ _ _) (by omega)
    · have k1 : kk = 1 := by
        have := hrd
        unfold rdyS at this
        simp only [Bool.or_eq_false_iff, decide_eq_false_iff_not] at this
        omega
      have HT : Hid (T = nodR ⟨nk, na, nb, nlo, nhi, ncls, ntext⟩ ⟨kk, (i : Int), lo, hi'⟩) := by unfold Hid; rw [← HT0.out]; exact hr1 k1 trivial
      subst k1
      clear hr1 HT0 hRI k5 k2 hn hx hrd
      have g := SS.out.bn
      unfold ndC at g
      obtain ⟨g0, g1, g2, g3, g4, g5, g6, g7, g8, g9⟩ := ten_cells g
      have hit := SS.out.bx
      unfold itV at hit
      simp only at hit
      have x0 := hit.cell 0
      have x1 := hit.cell 1
      have x2 := hit.cell 2
      have x3 := hit.cell 3
      have e0 := SS.out.bd.cell 0
      simp at x0 x1 x2 x3 e0
      clear g hit
      have HON := Lib.hid (hdOpenNode_any ⟨nk, na, nb, nlo, nhi, ncls, ntext⟩ ⟨1, (i : Int), lo, hi'⟩ (w.heap.size + 1 + 1 + 1) w3 HS.out.bg)
      unfold ndC itV at HON
      simp only at HON
      go_wp2_with fail
      refine HON.out.mono ?_
      intro e w4 hadd
      obtain rfl := hadd.1
      have HZ := Lib.hid (HS.out.turn HR.out hadd.2.1 hadd.2.2)
      clear hadd HON x0 x1 x2 x3 e0 g0 g1 g2 g3 g4 g5 g6 g7 g8 g9
      have HZT := HZ.out
      rw [← HT.out] at HZT
      have HZU := Lib.hid HZT
      clear HZT
      go_upto_region 14 with (fail)
      go_wp2_with (refine wpList_load_row rfl 113 _ rfl (w.heap.size + 3) rfl 113 (rwsC T) (0, 0) _ HZU.out.bg Try.underlying113 rfl (rwsC_info HOK.out) ?_; refine wpList_store_row rfl 113 _ _ rfl (w.heap.size + 2) (rwsC T) rfl rfl 113 (rwsC []) HZU.out.br (rwsC_info HOK.out) (by rw [rwsC_size HOK.out]; rfl) rwsC_ones ?_)
      refine bodyPost_ret (results_cell_row rfl _ _ (w.heap.size + 2) 113 (rwsC T) (0, 0) _ rfl (setRow_blk HZU.out.br) Try.underlying113 rfl (rwsC_info HOK.out)) rfl ⟨rfl, ?_⟩
      exact bel_grown HZU.out.bel HZU.out.bel.size (setRow_grown _ _ _) (by omega)
end Go.Proofs.Ytidoofdofdhjpaa
