/- What is ready: walked. -/
import Derived.Test.YtgabifebcfgngaaM27
import Derived.Test.YtgabifebcfgngaaM32
import Derived.Test.YtgabifebcfgngaaM29
import Derived.Laws.CopyRow
namespace Go.Proofs.Ytgabifebcfgngaa
open Go Go.RowKit
set_option linter.unusedVariables false
set_option linter.unusedSimpArgs false
set_option maxRecDepth 100000
set_option maxHeartbeats 16000000

/-- A node of the description. -/
theorem hdNode_any (l : List Nd) (A : Option Addr) (c : Nat) (x : Itm) (i : Nat) (hi : i < l.length) (hx : x.node = (i : Int)) (hlen : l.length ≤ 1073741824) (w : World) (hrow : NRow w A l) :
    Calls Try.prog 46 #[.agg #[.slice A l.length c], .agg (itV x)] w (Ans w (.agg (ndC (atN l i)))) := by
  obtain ⟨kk, nn, lo, hi'⟩ := x
  simp only at hx
  subst hx
  have HS := Lib.hid (HfS.new c ⟨kk, (i : Int), lo, hi'⟩ hrow)
  clear hrow
  go_enter Try.func46, Try.ntmps46
  go_upto_region 1 with (fail)
  unfold itV at HS ⊢
  simp only at HS ⊢
  have hsz : ((w.alloc (.cells #[.slice A l.length c] 24)).alloc (.cells #[.int .i64 kk, .int .i64 (i : Int), .int .i64 lo, .int .i64 hi'] 43)).heap.size = w.heap.size + 1 + 1 := by rw [World.size_alloc, World.size_alloc]
  generalize (w.alloc (.cells #[.slice A l.length c] 24)).alloc (.cells #[.int .i64 kk, .int .i64 (i : Int), .int .i64 lo, .int .i64 hi'] 43) = w1 at HS hsz ⊢
  have hb3 := (Below.refl w1.heap.size w1).alloc (Nat.le_refl _) (.cells z10 48)
  have HS3 := Lib.hid (HS.out.later hb3)
  have HN := Lib.hid (Blk.new' hsz.symm z10 48)
  clear hb3 HS hsz
  have ez : #[Value.int .i64 0, .int .i64 0, .int .i64 0, .int .i64 0, .int .i64 0, .int .u64 0, .int .u64 0, .int .u64 0, .int .u64 0, .string { data := #[] }] = z10 := rfl
  rw [ez]
  generalize w1.alloc (.cells z10 48) = w3 at HS3 HN ⊢
  obtain ⟨ba, oa, rfl, -, -⟩ := HS3.out.s.row i hi
  have g : At10 w3 ba (oa + i * 10) (atN l i) := HS3.out.s.row.at hi rfl
  generalize atN l i = n at *
  obtain ⟨nk, na, nb, nlo, nhi, ncls, ntext⟩ := n
  unfold At10 at g
  simp only at g
  obtain ⟨g0, g1, g2, g3, g4, g5, g6, g7, g8, g9⟩ := g
  have x1 := HS3.out.it.cell 1
  have e0 := HS3.out.s.box.cell 0
  simp [itV] at x1 e0
  have HB := Lib.hid HS3.out.s.bel
  have hilz : (i : Int) < (l.length : Int) := by omega
  have hilz2 : ¬ (i : Int) ≥ (l.length : Int) := by omega
  have hin0 : ¬ (i : Int) < 0 := by omega
  have f0 := HN.out.frozen 0
  have f1 := HN.out.frozen 1
  have f2 := HN.out.frozen 2
  have f3 := HN.out.frozen 3
  have f4 := HN.out.frozen 4
  have f5 := HN.out.frozen 5
  have f6 := HN.out.frozen 6
  have f7 := HN.out.frozen 7
  have f8 := HN.out.frozen 8
  have f9 := HN.out.frozen 9
  have c0 := HN.out.cell 0
  have c1 := HN.out.cell 1
  have c2 := HN.out.cell 2
  have c3 := HN.out.cell 3
  have c4 := HN.out.cell 4
  have c5 := HN.out.cell 5
  have c6 := HN.out.cell 6
  have c7 := HN.out.cell 7
  have c8 := HN.out.cell 8
  have c9 := HN.out.cell 9
  simp [z10] at c0 c1 c2 c3 c4 c5 c6 c7 c8 c9
  go_wp2
  refine bodyPost_ret (v := .agg (ndC ⟨nk, na, nb, nlo, nhi, ncls, ntext⟩)) ?_ rfl ⟨rfl, ?_⟩
  · simp [results, Try.results46, go_sem]
    go_simp
    try rfl
  · have hg : w.heap.size ≤ w.heap.size + 1 + 1 := by omega
    repeat' (refine Below.setCell (p := ⟨w.heap.size + 1 + 1, _, none⟩) ?_ hg _)
    exact HB.out
theorem field_nd0 (k a b lo hi : Int) (c0 c1 c2 c3 : Int) (t : ByteArray) (w : World) : (Instr.field 48 (.agg #[.int .i64 k, .int .i64 a, .int .i64 b, .int .i64 lo, .int .i64 hi, .int .u64 c0, .int .u64 c1, .int .u64 c2, .int .u64 c3, .string t]) 0).run Try.prog w = .ok (.int .i64 k) w := by kernel_rfl
theorem rdy_k1 {l : List Nd} {i : Nat} {lo hi : Int} : rdyS l [⟨1, (i : Int), lo, hi⟩] = ((atN l i).kind == 2 || (atN l i).kind == 8 || (atN l i).kind == 9) := by
  unfold rdyS
  rw [Bool.eq_iff_iff]
  simp
theorem HdF.inl {l : List Nd} (h0 : 0 < l.length) {x : Itm} (hx : HdF l x) : ∃ i : Nat, i < l.length ∧ x.node = (i : Int) := by
  by_cases h5 : x.kind = 5
  · exact ⟨0, h0, (hx.stop h5).1⟩
  · obtain ⟨n0, n1⟩ := hx.node h5
    exact ⟨x.node.toNat, by omega, by omega⟩
/-- ready. -/
theorem hdReady_any (l : List Nd) (A : Option Addr) (c : Nat) (x : Itm) (h0 : 0 < l.length) (hx : HdF l x) (hlen : l.length ≤ 1073741824) (w : World) (hrow : NRow w A l) :
    Calls Try.prog 31 #[.agg #[.slice A l.length c], .agg (itV x)] w (Ans w (.bool (rdyS l [x]))) := by
  obtain ⟨i, hil, hin⟩ := hx.inl h0
  have hkd := hx.kind
  obtain ⟨kk, nn, lo, hi'⟩ := x
  simp only at hin hkd
  subst hin
  have HS := Lib.hid (HfS.new c ⟨kk, (i : Int), lo, hi'⟩ hrow)
  have HN := Lib.hid (fun (w' : World) (h : NRow w' A l) => hdNode_any l A c ⟨kk, (i : Int), lo, hi'⟩ i hil rfl hlen w' h)
  obtain ⟨v, hv⟩ : ∃ v, rdyS l [⟨kk, (i : Int), lo, hi'⟩] = v := ⟨_, rfl⟩
  have HV := Lib.hid hv
  rw [hv]
  clear hrow hx hv
  go_enter Try.func31, Try.ntmps31
  go_upto_region 1 with (fail)
  unfold itV at HS HN ⊢
  simp only at HS HN ⊢
  generalize (w.alloc (.cells #[.slice A l.length c] 24)).alloc (.cells #[.int .i64 kk, .int .i64 (i : Int), .int .i64 lo, .int .i64 hi'] 43) = w1 at HS ⊢
  have x0 := HS.out.it.cell 0
  have x1 := HS.out.it.cell 1
  have x2 := HS.out.it.cell 2
  have x3 := HS.out.it.cell 3
  have e0 := HS.out.s.box.cell 0
  simp [itV] at x0 x1 x2 x3 e0
  have HB := Lib.hid HS.out.s.bel
  by_cases k1 : kk = 1
  · subst k1
    have HV2 : Hid (v = ((atN l i).kind == 2 || (atN l i).kind == 8 || (atN l i).kind == 9)) := by unfold Hid; rw [← HV.out]; exact rdy_k1
    have HR := Lib.hid HS.out.s.row
    clear HV
    generalize atN l i = n at *
    obtain ⟨nk, na, nb, nlo, nhi, ncls, ntext⟩ := n
    simp only at HV2
    go_wp2_with fail
    refine (HN.out _ HR.out).mono ?_
    rintro e w' ⟨rfl, hb⟩
    have HB2 := Lib.hid (HB.out.trans (hb.mono HB.out.size))
    clear hb HN HR HB HS x0 x1 x2 x3 e0
    unfold ndC
    have hfd := field_nd0 nk na nb nlo nhi (wd ncls 0) (wd ncls 1) (wd ncls 2) (wd ncls 3) (bs ntext)
    cases hb1 : (nk == 2) with
    | true => rw [hb1] at HV2; go_wp2; go_ret; exact ⟨by rw [HV2.out]; rfl, HB2.out⟩
    | false =>
      rw [hb1] at HV2
      cases hb2 : (nk == 8) with
      | true => rw [hb2] at HV2; go_wp2; go_ret; exact ⟨by rw [HV2.out]; rfl, HB2.out⟩
      | false =>
        rw [hb2] at HV2
        cases hb3 : (nk == 9) with
        | true => rw [hb3] at HV2; go_wp2; go_ret; exact ⟨by rw [HV2.out]; rfl, HB2.out⟩
        | false => rw [hb3] at HV2; go_wp2; go_ret; exact ⟨by rw [HV2.out]; rfl, HB2.out⟩
  · have hk1 : (kk == 1) = false := by simpa using k1
    by_cases k3 : kk = 3
    · have HV2 : Hid (v = true) := by unfold Hid; rw [← HV.out, k3]; rfl
      subst k3
      clear HV HN HS
      go_wp2; go_ret; exact ⟨by rw [HV2.out]; rfl, HB.out⟩
    · have hk3 : (kk == 3) = false := by simpa using k3
      by_cases k4 : kk = 4
      · have HV2 : Hid (v = true) := by unfold Hid; rw [← HV.out, k4]; rfl
        subst k4
        clear HV HN HS
        go_wp2; go_ret; exact ⟨by rw [HV2.out]; rfl, HB.out⟩
      · have hk4 : (kk == 4) = false := by simpa using k4
        have HV2 : Hid (v = false) := by unfold Hid; rw [← HV.out]; unfold rdyS; simp [k1, k3, k4]
        clear HV HN HS
        go_wp2; go_ret; exact ⟨by rw [HV2.out]; rfl, HB.out⟩
/-- Ready. -/
theorem hdReadyS_any (l : List Nd) (A : Option Addr) (c : Nat) (s : List Itm) (B : Option Addr) (c2 : Nat) (h0 : 0 < l.length) (hs : ∀ y ∈ s, HdF l y) (hlen : l.length ≤ 1073741824) (hsl : s.length ≤ 1073741824) (w : World) (hrow : NRow w A l) (hss : ItRow w B s) :
    Calls Try.prog 12 #[.agg #[.slice A l.length c], .slice B s.length c2] w (Ans w (.bool (rdyS l s))) := by
  have HB1 := (Below.refl w.heap.size w).alloc (Nat.le_refl _) (.cells #[.slice A l.length c] 24)
  have HI := Lib.hid (IfS.new c hrow hss)
  cases s with
  | nil =>
    clear HB1 hrow hss hs
    go_enter Try.func12, Try.ntmps12
    go_upto_region 1 with (fail)
    generalize w.alloc (.cells #[.slice A l.length c] 24) = w1 at HI ⊢
    refine wp_region_stable (S := (IfS w A l c B [])) (hSt := fun _ _ h hb => h.later hb) (plan := [[(1, none)], [(5, some 0)], [(6, some 1)], [(7, some 2)], [(2, none)], [(1, none)], [(10, some 5)], [(11, some 6)], [(9, some 4), (12, some 7)], [(8, some 3), (13, some 8)], [(14, some 9)]]) (by kernel_rfl) (by kernel_rfl) (by kernel_rfl) ?hS ?_
    rotate_left
    iterate 11 first
      | (refine chain_skip (by rfl) (by rfl) ?_)
      | (apply chain_want (by rfl)
         · intro act wx hS hr
           simp at hr
           have e0 := hS.f.box.cell 0
           simp at e0
           go_simp
           (try go_ints)
           first
             | exact Done.same
        )
    show ∀ w', _ → _
    intro wz hz
    simp [Act.put]
    case hS => exact HI.out
    have HZ := Lib.hid hz
    clear hz
    go_wp2
    go_ret
    exact ⟨rfl, HZ.out.f.bel⟩
  | cons x r =>
    have HX := Lib.hid (fun (w' : World) (h : NRow w' A l) => hdReady_any l A c x h0 (hs x (List.mem_cons_self ..)) hlen w' h)
    obtain ⟨v, hv⟩ : ∃ v, rdyS l [x] = v := ⟨_, rfl⟩
    have hv2 : rdyS l (x :: r) = v := by rw [← hv]; rfl
    rw [hv] at HX
    rw [hv2]
    unfold itV at HX
    clear hv hv2 HB1 hrow hss hs
    have hlz : ((x :: r).length : Int) = ((r.length : Int) + 1) := by simp
    have hne : (((x :: r).length : Int) == 0) = false := by rw [hlz]; simp; omega
    have hlt0 : (0 : Int) < ((x :: r).length : Int) := by rw [hlz]; omega
    have hge0 : ¬ ((x :: r).length : Int) ≤ 0 := by rw [hlz]; omega
    obtain ⟨bb, ob, rfl, hbb, -⟩ := HI.out.row.four (i := 0) (by simp)
    have FX := Lib.hid (fun (w' : World) (h : ItRow w' (some ⟨bb, ob, none⟩) (x :: r)) => h.at (i := 0) (by simp) rfl)
    go_enter Try.func12, Try.ntmps12
    generalize hn : (x :: r).length = n at *
    have HNN := Lib.hid hn
    clear hlz hn hbb
    go_upto_region 1 with (fail)
    generalize w.alloc (.cells #[.slice A l.length c] 24) = w1 at HI ⊢
    refine wp_region_stable (S := (IfS w A l c (some ⟨bb, ob, none⟩) (x :: r))) (hSt := fun _ _ h hb => h.later hb) (plan := [[(1, none)], [(5, some 0)], [(6, some 1)], [(7, some 2)], [(2, none)], [(1, none)], [(10, some 5)], [(11, some 6)], [(9, some 4), (12, some 7)], [(8, some 3), (13, some 8)], [(14, some 9)]]) (by kernel_rfl) (by kernel_rfl) (by kernel_rfl) ?hS ?_
    rotate_left
    iterate 11 first
      | (refine chain_skip (by rfl) (by rfl) ?_)
      | (apply chain_want (by rfl)
         · intro act wx hS hr
           simp at hr
           have e0 := hS.f.box.cell 0
           simp at e0
           obtain ⟨x0, x1, x2, x3⟩ := FX.out _ hS.row
           simp at x0 x1 x2 x3
           go_simp
           (try go_ints)
           first
             | ((with_reducible refine (HX.out _ hS.f.row).mono ?_); rintro e w' ⟨rfl, hb⟩; exact Done.mk hb)
             | exact Done.same
        )
    show ∀ w', _ → _
    intro wz hz
    simp [Act.put]
    case hS => exact HI.out
    have HZ := Lib.hid hz
    clear hz
    go_wp2
    go_ret
    exact ⟨rfl, HZ.out.f.bel⟩
end Go.Proofs.Ytgabifebcfgngaa
/- Rows of items: what an item opens to, in memory. -/
namespace Go.Proofs.Ytgabifebcfgngaa
open Go Go.RowKit
set_option linter.unusedVariables false
set_option linter.unusedSimpArgs false
set_option maxRecDepth 100000
set_option maxHeartbeats 16000000

/-- A row's cells: two items, and how many there are. -/
def rowC (r : List Itm) : List Value := flatIt (r ++ List.replicate (2 - r.length) it0) ++ [.int .i64 (r.length : Int)]
def rwsC (L : List (List Itm)) : Array Value := (rowC (L.getD 0 []) ++ rowC (L.getD 1 []) ++ [Value.int .i64 (L.length : Int)]).toArray
/-- Rows that fit in. -/
def RwOk (L : List (List Itm)) : Prop := L.length ≤ 2 ∧ ∀ r ∈ L, r.length ≤ 2
theorem rowC_len {r : List Itm} (h : r.length ≤ 2) : (rowC r).length = 9 := by
  unfold rowC
  rw [List.length_append, flatIt_length, List.length_append, List.length_replicate]
  show (r.length + (2 - r.length)) * 4 + 1 = 9
  omega
theorem RwOk.at {L : List (List Itm)} (h : RwOk L) (i : Nat) : (L.getD i []).length ≤ 2 := by
  rw [List.getD_eq_getElem?_getD]
  cases hi : L[i]? with
  | none => simp
  | some r => simp; exact h.2 r (List.mem_of_getElem? hi)
theorem rwsC_size {L : List (List Itm)} (h : RwOk L) : (rwsC L).size = 19 := by
  unfold rwsC
  rw [List.size_toArray, List.length_append, List.length_append, rowC_len (h.at 0), rowC_len (h.at 1)]; rfl
theorem rwsC_many {L : List (List Itm)} (h : RwOk L) : (rwsC L)[18]? = some (.int .i64 (L.length : Int)) := by
  unfold rwsC
  rw [List.getElem?_toArray, List.getElem?_append_right (by rw [List.length_append, rowC_len (h.at 0), rowC_len (h.at 1)]; omega), List.length_append, rowC_len (h.at 0), rowC_len (h.at 1)]
  rfl
theorem rwsC_row {L : List (List Itm)} (h : RwOk L) {i j : Nat} (hi : i < 2) (hj : j < 9) : (rwsC L)[i * 9 + j]? = (rowC (L.getD i []))[j]? := by
  unfold rwsC
  rw [List.getElem?_toArray]
  have h0 := rowC_len (h.at 0)
  have h1 := rowC_len (h.at 1)
  rcases (by omega : i = 0 ∨ i = 1) with rfl | rfl
  · rw [Nat.zero_mul, Nat.zero_add, List.getElem?_append_left (by rw [List.length_append]; omega), List.getElem?_append_left (by omega)]
  · rw [List.getElem?_append_left (by rw [List.length_append]; omega), List.getElem?_append_right (by omega), h0]
    congr 1; omega
theorem rows3 {r : List Itm} (h : r.length ≤ 2) : r = [] ∨ (∃ a, r = [a]) ∨ ∃ a b, r = [a, b] := by
  match r, h with
  | [], _ => exact .inl rfl
  | [a], _ => exact .inr (.inl ⟨a, rfl⟩)
  | [a, b], _ => exact .inr (.inr ⟨a, b, rfl⟩)
  | _ :: _ :: _ :: _, h => exact absurd h (by simp)
/-- A row more. -/
theorem rws_step {L : List (List Itm)} (hL : L.length < 2) (h : RwOk L) {r : List Itm} (hr : r.length ≤ 2) :
    ((((rwsC L).toList.take (L.length * 9) ++ flatIt r ++ (rwsC L).toList.drop (L.length * 9 + (flatIt r).length)).toArray.setIfInBounds (L.length * 9 + 8) (.int .i64 (r.length : Int))).setIfInBounds 18 (.int .i64 ((L.length : Int) + 1))) = rwsC (L ++ [r]) := by
  match L, hL, h with
  | [], _, _ => rcases rows3 hr with rfl | ⟨a, rfl⟩ | ⟨a, b, rfl⟩ <;> rfl
  | [q], _, h =>
    have hq := h.2 q (List.mem_cons_self ..)
    rcases rows3 hq with rfl | ⟨c, rfl⟩ | ⟨c, d, rfl⟩ <;> rcases rows3 hr with rfl | ⟨a, rfl⟩ | ⟨a, b, rfl⟩ <;> rfl
  | _ :: _ :: _, hL, _ => exact absurd hL (by simp)
/-- Items copied into a block. -/
theorem run_copy_it (w : World) (ty : TypeId) (g o dCap : Nat) (A : Option Addr) (c : Nat) (r : List Itm) (cur : Array Value) (t : TypeId) (hg : Blk w g cur t) (hr : r.length ≤ 2) (hfit : o + r.length * 4 ≤ cur.size) (hrow : ItRow w A r) :
    (Builtin.copy_ #[29, 29] ty #[.slice (some ⟨g, o, none⟩) 2 dCap, .slice A r.length c]).run Try.prog w = .ok (.int .i64 (r.length : Int)) (w.setRow g (cur.toList.take o ++ flatIt r ++ cur.toList.drop (o + (flatIt r).length)).toArray) := by
  obtain ⟨ib, hib, hz0, hz1, hz2⟩ := info_parts infoIt
  have hst := run_storeCells_at Try.prog g o t (flatIt r) 0 cur w hg (by rw [flatIt_length]; exact hfit) (flatIt_ones r)
  have hmn : Nat.min r.length 2 = r.length := Nat.min_eq_left hr
  have hf : (Builtin.firstCells ib.size r.length (.slice A r.length c)).run Try.prog w = .ok (flatIt r).toArray w := by
    by_cases hne : 0 < r.length
    · obtain ⟨b, oo, rfl, -, -⟩ := hrow 0 hne
      exact run_firstCells_some (P := Try.prog) w ib.size r.length ⟨b, oo, none⟩ r.length c (flatIt r) (by rw [flatIt_length, hz1]) hrow.news
    · have hl : r = [] := List.length_eq_zero_iff.1 (by omega)
      subst hl
      cases A with
      | none => rfl
      | some x => exact run_firstCells_some (P := Try.prog) w ib.size 0 x 0 c [] (by simp) (by simp)
  simp [Builtin.copy_, run_underlying Try.underlying29, Builtin.lenOf, sizeOf, typeInfo, hib, hmn, hf, hst]
  rfl
/-- What the adding of a row leaves: just that block has turned. -/
def HaddP (w : World) (g : Nat) (L : List (List Itm)) (e : Ending) (w' : World) : Prop := e = .returned (.tuple #[]) ∧ Blk w' g (rwsC L) 70 ∧ w.grownBy w' (some g)
structure HadS (w0 : World) (g : Nat) (L : List (List Itm)) (A : Option Addr) (r : List Itm) (w : World) : Prop where
  bel : Below w0.heap.size w0 w
  blk : Blk w g (rwsC L) 70
  row : ItRow w A r
theorem HadS.later {w0 w w' : World} {g : Nat} {L : List (List Itm)} {A : Option Addr} {r : List Itm} (h : HadS w0 g L A r w) (hb : Below w.heap.size w w') : HadS w0 g L A r w' := ⟨h.bel.trans (hb.mono h.bel.size), h.blk.later hb, h.row.later hb⟩
theorem setRow_grown (w : World) (g : Nat) (cs : Array Value) : w.grownBy (w.setRow g cs) (some g) := ⟨rfl, rfl, rfl, by rw [setRow_size]; omega, fun k hk hne => setRow_other w g k cs (fun e => hne (by rw [e]))⟩
theorem setCell_grown (w : World) (g j : Nat) (v : Value) : w.grownBy (w.setCell ⟨g, j, none⟩ v) (some g) := by
  have h := (Below.refl w.heap.size w)
  refine ⟨rfl, rfl, rfl, by simp [World.setCell], fun k hk hne => ?_⟩
  unfold World.setCell
  simp only [Array.getElem?_modify]
  rw [if_neg (fun e => hne (by rw [← e]))]
theorem grown_trans {a b c : World} {ro : Option Nat} (h : a.grownBy b ro) (k : b.grownBy c ro) : a.grownBy c ro := ⟨k.os.trans h.os, k.tape.trans h.tape, k.output.trans h.output, Nat.le_trans h.size k.size, fun i hi hne => (k.block i (Nat.lt_of_lt_of_le hi h.size) hne).trans (h.block i hi hne)⟩
theorem rw_mid {X : Array Value} (hX : X.size = 19) {k n : Nat} (hk : k < 2) {F : List Value} (hF : F.length = n * 4) (hn : n ≤ 2) : (X.toList.take (k * 9) ++ F ++ X.toList.drop (k * 9 + F.length)).toArray.size = 19 ∧ (X.toList.take (k * 9) ++ F ++ X.toList.drop (k * 9 + F.length)).toArray[18]? = X[18]? := by
  have hl : X.toList.length = 19 := by rw [Array.length_toList, hX]
  constructor
  · rw [List.size_toArray, List.length_append, List.length_append, List.length_take, List.length_drop, hF, hl]; omega
  · have h1 : (X.toList.take (k * 9) ++ F).length = k * 9 + n * 4 := by rw [List.length_append, List.length_take, hF, hl]; omega
    rw [List.getElem?_toArray, List.getElem?_append_right (by rw [h1]; omega), h1, hF, List.getElem?_drop, ← Array.getElem?_toList]
    congr 1; omega
theorem hdAdd_any (L : List (List Itm)) (hL : L.length < 2) (hok : RwOk L) (r : List Itm) (hr : r.length ≤ 2) (g : Nat) (A : Option Addr) (c : Nat) (w : World) (hg : Blk w g (rwsC L) 70) (hrow : ItRow w A r) :
    Calls Try.prog 47 #[.pointer (some ⟨g, 0, none⟩), .slice A r.length c] w (HaddP w g (L ++ [r])) := by
  have HI : Hid (HadS w g L A r w) := ⟨Below.refl _ _, hg, hrow⟩
  have HCP := Lib.hid (fun (w' : World) (h : HadS w g L A r w') (ty : TypeId) => run_copy_it w' ty g (L.length * 9) 2 A c r (rwsC L) 70 h.blk hr (by rw [rwsC_size hok]; omega) h.row)
  have HST := Lib.hid (rws_step hL hok hr)
  have HM := Lib.hid (rwsC_many hok)
  have hlz : (L.length : Int) < 2 := by omega
  have hlz0 : ¬ (L.length : Int) < 0 := by omega
  obtain ⟨hz1, hz2⟩ := rw_mid (rwsC_size hok) hL (flatIt_length r) hr
  rw [rwsC_many hok] at hz2
  have HSZ := Lib.hid hz1
  have HM2 := Lib.hid hz2
  clear hg hrow hz1 hz2
  go_enter Try.func47, Try.ntmps47
  go_upto_region 0 with (fail)
  refine wp_region_stable (S := (HadS w g L A r)) (hSt := fun _ _ h hb => h.later hb) (plan := [[(0, none)], [(0, none)], [(6, some 1)], [(7, some 2)], [(8, some 3)], [(5, some 0)], [(10, some 5)], [(11, some 6), (9, some 4)], [(12, some 7)]]) (by kernel_rfl) (by kernel_rfl) (by kernel_rfl) ?hS ?_
  rotate_left
  iterate 9 first
    | (refine chain_skip (by rfl) (by rfl) ?_)
    | (apply chain_want (by rfl)
       · intro act wx hS hr
         simp at hr
         have c18 : wx.cell? ⟨g, 18, none⟩ = some (.int .i64 (L.length : Int)) := by rw [hS.blk.cell]; exact HM.out
         go_simp
         (try go_ints)
         first
           | exact Done.same
      )
  show ∀ w', _ → _
  intro wz hz
  simp [Act.put]
  case hS => exact HI.out
  have HZ := Lib.hid hz
  have hcp := HCP.out wz hz
  generalize ((rwsC L).toList.take (L.length * 9) ++ flatIt r ++ (rwsC L).toList.drop (L.length * 9 + (flatIt r).length)).toArray = cs at *
  have HB2 : Hid (Blk (wz.setRow g cs) g cs 70) := setRow_heap _ _ _ _ _ _ hz.blk
  have HG2 := Lib.hid (setRow_grown wz g cs)
  generalize wz.setRow g cs = w2 at *
  generalize hk : L.length = k at *
  have HK := Lib.hid hk
  have hk2 : k < 2 := hL
  clear hz hk hL
  have c18 : w2.cell? ⟨g, 18, none⟩ = some (.int .i64 (k : Int)) := by rw [HB2.out.cell]; exact HM2.out
  have f18 := HB2.out.frozen 18
  have f8 := HB2.out.frozen (k * 9 + 8)
  obtain ⟨u8, c8⟩ : ∃ v, w2.cell? ⟨g, k * 9 + 8, none⟩ = some v := by rw [HB2.out.cell]; exact ⟨_, Array.getElem?_eq_getElem (by rw [HSZ.out]; omega)⟩
  have hne : ¬ 18 = k * 9 + 8 := by omega
  go_wp2
  go_end0
  have hb3 := (HB2.out.setCell (k * 9 + 8) (.int .i64 (r.length : Int))).setCell 18 (.int .i64 ((k : Int) + 1))
  rw [HST.out] at hb3
  have hg1 : w.grownBy wz (some g) := ⟨HZ.out.bel.os, HZ.out.bel.tape, HZ.out.bel.output, HZ.out.bel.size, fun j hj _ => HZ.out.bel.block j hj⟩
  exact ⟨rfl, hb3, grown_trans hg1 (grown_trans HG2.out (grown_trans (setCell_grown _ _ _ _) (setCell_grown _ _ _ _)))⟩
/-- The item of a whole node. -/
theorem hdWhole_any (n : Int) (w : World) : Calls Try.prog 48 #[.int .i64 n] w (Ans w (.agg #[.int .i64 1, .int .i64 n, .int .i64 0, .int .i64 0])) := by
  go_enter Try.func48, Try.ntmps48
  go_upto_region 1 with (fail)
  have HB := Lib.hid ((Below.refl w.heap.size w).alloc (Nat.le_refl _) (.cells #[.int .i64 0, .int .i64 0, .int .i64 0, .int .i64 0] 43))
  have HN := Lib.hid (Blk.new w #[.int .i64 0, .int .i64 0, .int .i64 0, .int .i64 0] 43)
  generalize w.alloc (.cells #[.int .i64 0, .int .i64 0, .int .i64 0, .int .i64 0] 43) = w1 at *
  have f0 := HN.out.frozen 0
  have f1 := HN.out.frozen 1
  have f2 := HN.out.frozen 2
  have f3 := HN.out.frozen 3
  have c0 := HN.out.cell 0
  have c1 := HN.out.cell 1
  have c2 := HN.out.cell 2
  have c3 := HN.out.cell 3
  simp at c0 c1 c2 c3
  go_wp2
  refine bodyPost_ret (v := .agg #[.int .i64 1, .int .i64 n, .int .i64 0, .int .i64 0]) ?_ rfl ⟨rfl, ?_⟩
  · simp [results, Try.results48, go_sem]
    go_simp
    try rfl
  · have hg : w.heap.size ≤ w.heap.size := Nat.le_refl _
    repeat' (refine Below.setCell (p := ⟨w.heap.size, _, none⟩) ?_ hg _)
    exact HB.out
end Go.Proofs.Ytgabifebcfgngaa
/- What an item opens to: walked. -/
namespace Go.Proofs.Ytgabifebcfgngaa
open Go Go.RowKit
set_option linter.unusedVariables false
set_option linter.unusedSimpArgs false
set_option maxRecDepth 100000
set_option maxHeartbeats 16000000

/-- The boxes of a node and of an item, beside the rows. -/
structure HonS (w0 : World) (g : Nat) (L : List (List Itm)) (n : Nd) (x : Itm) (w : World) : Prop where
  gr : w0.grownBy w (some g)
  blk : Blk w g (rwsC L) 70
  bn : Blk w w0.heap.size (ndC n) 48
  bx : Blk w (w0.heap.size + 1) (itV x) 43
theorem grown_below {a b c : World} {ro : Option Nat} (h : a.grownBy b ro) (k : Below b.heap.size b c) : a.grownBy c ro := grown_trans h ⟨k.os, k.tape, k.output, k.size, fun j hj _ => k.block j hj⟩
theorem HonS.later {w0 w w' : World} {g : Nat} {L : List (List Itm)} {n : Nd} {x : Itm} (h : HonS w0 g L n x w) (hb : Below w.heap.size w w') : HonS w0 g L n x w' := ⟨grown_below h.gr hb, h.blk.later hb, h.bn.later hb, h.bx.later hb⟩
theorem HonS.new {w : World} {g : Nat} {L : List (List Itm)} (n : Nd) (x : Itm) (hg : Blk w g (rwsC L) 70) : HonS w g L n x ((w.alloc (.cells (ndC n) 48)).alloc (.cells (itV x) 43)) := by
  have hb1 := (Below.refl w.heap.size w).alloc (Nat.le_refl _) (.cells (ndC n) 48)
  have hb2 := hb1.alloc (hb1.size) (.cells (itV x) 43)
  refine ⟨grown_below (World.grownBy.refl _ _) hb2, hg.later hb2, (Blk.new w _ _).later ((Below.refl _ _).alloc (Nat.le_refl _) _), ?_⟩
  have := Blk.new (w.alloc (.cells (ndC n) 48)) (itV x) 43
  rwa [World.size_alloc] at this
/-- A row more. -/
theorem HonS.add {w0 w w' : World} {g : Nat} {L M : List (List Itm)} {n : Nd} {x : Itm} {e : Ending} (h : HonS w0 g L n x w) (hlt : g < w0.heap.size) (k : HaddP w g M e w') : HonS w0 g M n x w' :=
  ⟨grown_trans h.gr k.2.2, k.2.1, (k.2.2.block _ h.bn.lt (by intro e; cases e; omega)).trans h.bn, (k.2.2.block _ h.bx.lt (by intro e; cases e; omega)).trans h.bx⟩
/-- What the opening of a node leaves. -/
def HonP (w0 : World) (g : Nat) (L : List (List Itm)) (e : Ending) (w : World) : Prop := e = .returned (.tuple #[]) ∧ Blk w g (rwsC L) 70 ∧ w0.grownBy w (some g)
theorem rw_ok0 : RwOk [] := ⟨by simp, fun r hr => by cases hr⟩
theorem rw_ok1 {r : List Itm} (h : r.length ≤ 2) : RwOk [r] := ⟨by simp, fun q hq => by rw [List.mem_singleton.1 hq]; exact h⟩
theorem ItRow.two {w : World} {b : Nat} {p q : Itm} (h : Blk w b #[.int .i64 p.kind, .int .i64 p.node, .int .i64 p.lo, .int .i64 p.hi, .int .i64 q.kind, .int .i64 q.node, .int .i64 q.lo, .int .i64 q.hi] 43) : ItRow w (some ⟨b, 0, none⟩) [p, q] := fun i hi => by
  have hi : i < 2 := hi
  refine ⟨b, 0, rfl, h.lt, fun j hj => ?_⟩
  rw [h.cell]
  rcases (by omega : i = 0 ∨ i = 1) with rfl | rfl <;> rcases (by omega : j = 0 ∨ j = 1 ∨ j = 2 ∨ j = 3) with rfl | rfl | rfl | rfl <;> rfl
def New2 (p q : Itm) (v : Value) (w : World) : Prop := ∃ b, v = .slice (some ⟨b, 0, none⟩) 2 2 ∧ Blk w b #[.int .i64 p.kind, .int .i64 p.node, .int .i64 p.lo, .int .i64 p.hi, .int .i64 q.kind, .int .i64 q.node, .int .i64 q.lo, .int .i64 q.hi] 43
theorem New2.later (p q : Itm) (v : Value) (w w' : World) (h : New2 p q v w) (hb : Below w.heap.size w w') : New2 p q v w' := by
  obtain ⟨b, h1, h2⟩ := h
  exact ⟨b, h1, h2.later hb⟩
/-- What a whole node opens to. -/
def nodR (n : Nd) (x : Itm) : List (List Itm) :=
  if n.kind = 1 then [[]]
  else if n.kind = 3 then [[⟨3, x.node, 0, 0⟩]]
  else if n.kind = 4 then [[⟨1, n.a, 0, 0⟩, ⟨1, n.b, 0, 0⟩]]
  else if n.kind = 5 then [[⟨1, n.a, 0, 0⟩], [⟨1, n.b, 0, 0⟩]]
  else if n.kind = 6 then [[], [⟨1, n.a, 0, 0⟩, x]]
  else if n.kind = 7 then [[⟨2, x.node, n.lo, n.hi⟩]]
  else []
set_option maxHeartbeats 32000000 in
theorem hdOpenNode_any (n : Nd) (x : Itm) (g : Nat) (w : World) (hg : Blk w g (rwsC []) 70) :
    Calls Try.prog 49 #[.pointer (some ⟨g, 0, none⟩), .agg (ndC n), .agg (itV x)] w (HonP w g (nodR n x)) := by
  have HS := Lib.hid (HonS.new n x hg)
  have HLT := Lib.hid hg.lt
  obtain ⟨nk, na, nb, nlo, nhi, ncls, ntext⟩ := n
  obtain ⟨kk, nn, lo, hi⟩ := x
  obtain ⟨T, hT⟩ : ∃ T, nodR ⟨nk, na, nb, nlo, nhi, ncls, ntext⟩ ⟨kk, nn, lo, hi⟩ = T := ⟨_, rfl⟩
  have HT0 := Lib.hid hT
  rw [hT]
  clear hT hg
  go_enter Try.func49, Try.ntmps49
  go_upto_region 1 with (fail)
  generalize (w.alloc (.cells (ndC ⟨nk, na, nb, nlo, nhi, ncls, ntext⟩) 48)).alloc (.cells (itV ⟨kk, nn, lo, hi⟩) 43) = w1 at HS ⊢
  have SS := HS
  by_cases k1 : nk = 1
  · subst k1
    have HT : Hid (T = [[]]) := by unfold Hid; rw [← HT0.out]; rfl
    clear HT0
    have g := SS.out.bn
    unfold ndC at g
    obtain ⟨g0, g1, g2, g3, g4, g5, g6, g7, g8, g9⟩ := ten_cells g
    have hit := SS.out.bx
    unfold itV at hit
    simp only at hit
    have x0 := hit.cell 0
    have x1 := hit.cell 1
    have x2 := hit.cell 2
    have x3 := hit.cell 3
    simp at x0 x1 x2 x3
    clear g hit
    go_wp2_with fail
    refine (hdAdd_any [] (by simp) rw_ok0 [] (by simp) g none 0 _ HS.out.blk (ItRow.nil _ _)).mono ?_
    intro e w2 hadd
    obtain rfl := hadd.1
    have HZZ := Lib.hid (HS.out.add (M := [[]]) HLT.out hadd)
    clear hadd g0 g1 g2 g3 g4 g5 g6 g7 g8 g9 x0 x1 x2 x3
    go_wp2
    go_end0
    exact ⟨rfl, by rw [HT.out]; exact HZZ.out.blk, HZZ.out.gr⟩
  · have e1 : (nk == 1) = false := by simpa using k1
    by_cases k3 : nk = 3
    · subst k3
      have HT : Hid (T = [[⟨3, nn, 0, 0⟩]]) := by unfold Hid; rw [← HT0.out]; rfl
      clear HT0
      have g := SS.out.bn
      unfold ndC at g
      obtain ⟨g0, g1, g2, g3, g4, g5, g6, g7, g8, g9⟩ := ten_cells g
      have hit := SS.out.bx
      unfold itV at hit
      simp only at hit
      have x0 := hit.cell 0
      have x1 := hit.cell 1
      have x2 := hit.cell 2
      have x3 := hit.cell 3
      simp at x0 x1 x2 x3
      clear g hit
      go_wp2_with fail
      have hb2 := (Below.refl w1.heap.size w1).alloc (Nat.le_refl _) (.cells (itV ⟨3, nn, 0, 0⟩) 43)
      refine (hdAdd_any [] (by simp) rw_ok0 [⟨3, nn, 0, 0⟩] (by simp) g (some ⟨w1.heap.size, 0, none⟩) 1 _ (HS.out.later hb2).blk (ItRow.one (Blk.new _ _ _))).mono ?_
      intro e w2 hadd
      obtain rfl := hadd.1
      have HZZ := Lib.hid ((HS.out.later hb2).add (M := [[⟨3, nn, 0, 0⟩]]) HLT.out hadd)
      clear hadd hb2 g0 g1 g2 g3 g4 g5 g6 g7 g8 g9 x0 x1 x2 x3
      go_wp2
      go_end0
      exact ⟨rfl, by rw [HT.out]; exact HZZ.out.blk, HZZ.out.gr⟩
    · have e3 : (nk == 3) = false := by simpa using k3
      by_cases k4 : nk = 4
      · subst k4
        have HT : Hid (T = [[⟨1, na, 0, 0⟩, ⟨1, nb, 0, 0⟩]]) := by unfold Hid; rw [← HT0.out]; rfl
        clear HT0
        have g := SS.out.bn
        unfold ndC at g
        obtain ⟨g0, g1, g2, g3, g4, g5, g6, g7, g8, g9⟩ := ten_cells g
        have hit := SS.out.bx
        unfold itV at hit
        simp only at hit
        have x0 := hit.cell 0
        have x1 := hit.cell 1
        have x2 := hit.cell 2
        have x3 := hit.cell 3
        simp at x0 x1 x2 x3
        clear g hit
        go_upto_region 7 with (fail)
        clear g0 g1 g2 g3 g4 g5 g6 g7 g8 g9 x0 x1 x2 x3
        refine wp_region_stable_tail 8 (S := (HonS w g [] ⟨4, na, nb, nlo, nhi, ncls, ntext⟩ ⟨kk, nn, lo, hi⟩)) (hSt := fun _ _ h hb => h.later hb) (plan := [[(0, none)], [(4, none)], [(23, some 1)], [(24, some 2)], [(4, none)], [(26, some 4)], [(27, some 5)], [(25, some 3), (28, some 6)]]) rfl rfl (by kernel_rfl) (by kernel_rfl) (by kernel_rfl) (by kernel_rfl) ?hS ?_
        rotate_left
        iterate 7 first
          | (refine chain_skip (by rfl) (by rfl) ?_)
          | (apply chain_want (by rfl)
             · intro act wx hS hr
               simp at hr
               have SS := Lib.hid hS
               have g := SS.out.bn
               unfold ndC at g
               obtain ⟨g0, g1, g2, g3, g4, g5, g6, g7, g8, g9⟩ := ten_cells g
               have hit := SS.out.bx
               unfold itV at hit
               simp only at hit
               have x0 := hit.cell 0
               have x1 := hit.cell 1
               have x2 := hit.cell 2
               have x3 := hit.cell 3
               simp at x0 x1 x2 x3
               clear g hit
               go_simp
               (try go_ints)
               first
                 | ((with_reducible refine (hdWhole_any _ _).mono ?_); rintro e w' ⟨rfl, hb⟩; exact Done.mk hb)
                 | exact Done.same
            )
        (refine chain_rel (New2 ⟨1, na, 0, 0⟩ ⟨1, nb, 0, 0⟩) (New2.later ⟨1, na, 0, 0⟩ ⟨1, nb, 0, 0⟩) (by rfl) ?_ ?_
         · intro act wx hS hr
           simp at hr
           have SS := Lib.hid hS
           have g := SS.out.bn
           unfold ndC at g
           obtain ⟨g0, g1, g2, g3, g4, g5, g6, g7, g8, g9⟩ := ten_cells g
           have hit := SS.out.bx
           unfold itV at hit
           simp only at hit
           have x0 := hit.cell 0
           have x1 := hit.cell 1
           have x2 := hit.cell 2
           have x3 := hit.cell 3
           simp at x0 x1 x2 x3
           clear g hit
           all_goals go_simp
           exact Done.rel ((Below.refl _ _).alloc (Nat.le_refl _) _) ⟨_, rfl, Blk.new _ _ _⟩
        )
        show ∀ w', _ → _
        intro wz hz
        simp [Act.put]
        case hS => exact HS.out
        intro v7 hv7
        obtain ⟨b7, rfl, hk7⟩ := hv7
        have HZ := Lib.hid hz
        have HK7 := Lib.hid hk7
        clear hz SS HS hk7
        go_wp2_with fail
        refine (hdAdd_any [] (by simp) rw_ok0 [⟨1, na, 0, 0⟩, ⟨1, nb, 0, 0⟩] (by simp) g (some ⟨b7, 0, none⟩) 2 _ HZ.out.blk (ItRow.two (p := ⟨1, na, 0, 0⟩) (q := ⟨1, nb, 0, 0⟩) HK7.out)).mono ?_
        intro e w2 hadd
        obtain rfl := hadd.1
        have HZZ := Lib.hid (HZ.out.add (M := [[⟨1, na, 0, 0⟩, ⟨1, nb, 0, 0⟩]]) HLT.out hadd)
        clear hadd
        go_wp2
        go_end0
        exact ⟨rfl, by rw [HT.out]; exact HZZ.out.blk, HZZ.out.gr⟩
      · have e4 : (nk == 4) = false := by simpa using k4
        by_cases k5 : nk = 5
        · subst k5
          have HT : Hid (T = [[⟨1, na, 0, 0⟩], [⟨1, nb, 0, 0⟩]]) := by unfold Hid; rw [← HT0.out]; rfl
          clear HT0
          have g := SS.out.bn
          unfold ndC at g
          obtain ⟨g0, g1, g2, g3, g4, g5, g6, g7, g8, g9⟩ := ten_cells g
          have hit := SS.out.bx
          unfold itV at hit
          simp only at hit
          have x0 := hit.cell 0
          have x1 := hit.cell 1
          have x2 := hit.cell 2
          have x3 := hit.cell 3
          simp at x0 x1 x2 x3
          clear g hit
          go_wp2_with fail
          refine (hdWhole_any _ _).mono ?_
          rintro e w2 ⟨rfl, hb⟩
          have HZ := Lib.hid (HS.out.later hb)
          clear hb g0 g1 g2 g3 g4 g5 g6 g7 g8 g9 x0 x1 x2 x3
          go_wp2_with fail
          have hb2 := (Below.refl w2.heap.size w2).alloc (Nat.le_refl _) (.cells (itV ⟨1, na, 0, 0⟩) 43)
          refine (hdAdd_any [] (by simp) rw_ok0 [⟨1, na, 0, 0⟩] (by simp) g (some ⟨w2.heap.size, 0, none⟩) 1 _ (HZ.out.later hb2).blk (ItRow.one (Blk.new _ _ _))).mono ?_
          intro e w3 hadd
          obtain rfl := hadd.1
          have HZ3 := Lib.hid ((HZ.out.later hb2).add (M := [[⟨1, na, 0, 0⟩]]) HLT.out hadd)
          clear hadd hb2 HZ SS
          have SS := HZ3
          have g := SS.out.bn
          unfold ndC at g
          obtain ⟨g0, g1, g2, g3, g4, g5, g6, g7, g8, g9⟩ := ten_cells g
          have hit := SS.out.bx
          unfold itV at hit
          simp only at hit
          have x0 := hit.cell 0
          have x1 := hit.cell 1
          have x2 := hit.cell 2
          have x3 := hit.cell 3
          simp at x0 x1 x2 x3
          clear g hit
          go_wp2_with fail
          refine (hdWhole_any _ _).mono ?_
          rintro e w4 ⟨rfl, hb⟩
          have HZ4 := Lib.hid (HZ3.out.later hb)
          clear hb g0 g1 g2 g3 g4 g5 g6 g7 g8 g9 x0 x1 x2 x3
          go_wp2_with fail
          have hb2 := (Below.refl w4.heap.size w4).alloc (Nat.le_refl _) (.cells (itV ⟨1, nb, 0, 0⟩) 43)
          refine (hdAdd_any [[⟨1, na, 0, 0⟩]] (by simp) (rw_ok1 (by simp)) [⟨1, nb, 0, 0⟩] (by simp) g (some ⟨w4.heap.size, 0, none⟩) 1 _ (HZ4.out.later hb2).blk (ItRow.one (Blk.new _ _ _))).mono ?_
          intro e w5 hadd
          obtain rfl := hadd.1
          have HZZ := Lib.hid ((HZ4.out.later hb2).add (M := [[⟨1, na, 0, 0⟩], [⟨1, nb, 0, 0⟩]]) HLT.out hadd)
          clear hadd hb2
          go_wp2
          go_end0
          exact ⟨rfl, by rw [HT.out]; exact HZZ.out.blk, HZZ.out.gr⟩
        · have e5 : (nk == 5) = false := by simpa using k5
          by_cases k6 : nk = 6
          · subst k6
            have HT : Hid (T = [[], [⟨1, na, 0, 0⟩, ⟨kk, nn, lo, hi⟩]]) := by unfold Hid; rw [← HT0.out]; rfl
            clear HT0
            have g := SS.out.bn
            unfold ndC at g
            obtain ⟨g0, g1, g2, g3, g4, g5, g6, g7, g8, g9⟩ := ten_cells g
            have hit := SS.out.bx
            unfold itV at hit
            simp only at hit
            have x0 := hit.cell 0
            have x1 := hit.cell 1
            have x2 := hit.cell 2
            have x3 := hit.cell 3
            simp at x0 x1 x2 x3
            clear g hit
            go_wp2_with fail
            refine (hdAdd_any [] (by simp) rw_ok0 [] (by simp) g none 0 _ HS.out.blk (ItRow.nil _ _)).mono ?_
            intro e w2 hadd
            obtain rfl := hadd.1
            have HZ2 := Lib.hid (HS.out.add (M := [[]]) HLT.out hadd)
            clear hadd g0 g1 g2 g3 g4 g5 g6 g7 g8 g9 x0 x1 x2 x3 SS HS
            go_upto_region 13 with (fail)
            refine wp_region_stable_tail 6 (S := (HonS w g [[]] ⟨6, na, nb, nlo, nhi, ncls, ntext⟩ ⟨kk, nn, lo, hi⟩)) (hSt := fun _ _ h hb => h.later hb) (plan := [[(0, none)], [(4, none)], [(50, some 1)], [(51, some 2)], [(5, none)], [(52, some 3), (53, some 4)]]) rfl rfl (by kernel_rfl) (by kernel_rfl) (by kernel_rfl) (by kernel_rfl) ?hS ?_
            rotate_left
            iterate 5 first
              | (refine chain_skip (by rfl) (by rfl) ?_)
              | (apply chain_want (by rfl)
                 · intro act wx hS hr
                   simp at hr
                   have SS := Lib.hid hS
                   have g := SS.out.bn
                   unfold ndC at g
                   obtain ⟨g0, g1, g2, g3, g4, g5, g6, g7, g8, g9⟩ := ten_cells g
                   have hit := SS.out.bx
                   unfold itV at hit
                   simp only at hit
                   have x0 := hit.cell 0
                   have x1 := hit.cell 1
                   have x2 := hit.cell 2
                   have x3 := hit.cell 3
                   simp at x0 x1 x2 x3
                   clear g hit
                   go_simp
                   (try go_ints)
                   first
                     | ((with_reducible refine (hdWhole_any _ _).mono ?_); rintro e w' ⟨rfl, hb⟩; exact Done.mk hb)
                     | exact Done.same
                )
            (refine chain_rel (New2 ⟨1, na, 0, 0⟩ ⟨kk, nn, lo, hi⟩) (New2.later ⟨1, na, 0, 0⟩ ⟨kk, nn, lo, hi⟩) (by rfl) ?_ ?_
             · intro act wx hS hr
               simp at hr
               have SS := Lib.hid hS
               have g := SS.out.bn
               unfold ndC at g
               obtain ⟨g0, g1, g2, g3, g4, g5, g6, g7, g8, g9⟩ := ten_cells g
               have hit := SS.out.bx
               unfold itV at hit
               simp only at hit
               have x0 := hit.cell 0
               have x1 := hit.cell 1
               have x2 := hit.cell 2
               have x3 := hit.cell 3
               simp at x0 x1 x2 x3
               clear g hit
               all_goals go_simp
               exact Done.rel ((Below.refl _ _).alloc (Nat.le_refl _) _) ⟨_, rfl, Blk.new _ _ _⟩
            )
            show ∀ w', _ → _
            intro wz hz
            simp [Act.put]
            case hS => exact HZ2.out
            intro v7 hv7
            obtain ⟨b7, rfl, hk7⟩ := hv7
            have HZ := Lib.hid hz
            have HK7 := Lib.hid hk7
            clear hz HZ2 hk7
            go_wp2_with fail
            refine (hdAdd_any [[]] (by simp) (rw_ok1 (by simp)) [⟨1, na, 0, 0⟩, ⟨kk, nn, lo, hi⟩] (by simp) g (some ⟨b7, 0, none⟩) 2 _ HZ.out.blk (ItRow.two (p := ⟨1, na, 0, 0⟩) (q := ⟨kk, nn, lo, hi⟩) HK7.out)).mono ?_
            intro e w3 hadd
            obtain rfl := hadd.1
            have HZZ := Lib.hid (HZ.out.add (M := [[], [⟨1, na, 0, 0⟩, ⟨kk, nn, lo, hi⟩]]) HLT.out hadd)
            clear hadd
            go_wp2
            go_end0
            exact ⟨rfl, by rw [HT.out]; exact HZZ.out.blk, HZZ.out.gr⟩
          · have e6 : (nk == 6) = false := by simpa using k6
            by_cases k7 : nk = 7
            · subst k7
              have HT : Hid (T = [[⟨2, nn, nlo, nhi⟩]]) := by unfold Hid; rw [← HT0.out]; rfl
              clear HT0
              have g := SS.out.bn
              unfold ndC at g
              obtain ⟨g0, g1, g2, g3, g4, g5, g6, g7, g8, g9⟩ := ten_cells g
              have hit := SS.out.bx
              unfold itV at hit
              simp only at hit
              have x0 := hit.cell 0
              have x1 := hit.cell 1
              have x2 := hit.cell 2
              have x3 := hit.cell 3
              simp at x0 x1 x2 x3
              clear g hit
              go_wp2_with fail
              have hb2 := (Below.refl w1.heap.size w1).alloc (Nat.le_refl _) (.cells (itV ⟨2, nn, nlo, nhi⟩) 43)
              refine (hdAdd_any [] (by simp) rw_ok0 [⟨2, nn, nlo, nhi⟩] (by simp) g (some ⟨w1.heap.size, 0, none⟩) 1 _ (HS.out.later hb2).blk (ItRow.one (Blk.new _ _ _))).mono ?_
              intro e w2 hadd
              obtain rfl := hadd.1
              have HZZ := Lib.hid ((HS.out.later hb2).add (M := [[⟨2, nn, nlo, nhi⟩]]) HLT.out hadd)
              clear hadd hb2 g0 g1 g2 g3 g4 g5 g6 g7 g8 g9 x0 x1 x2 x3
              go_wp2
              go_end0
              exact ⟨rfl, by rw [HT.out]; exact HZZ.out.blk, HZZ.out.gr⟩
            · have e7 : (nk == 7) = false := by simpa using k7
              have HT : Hid (T = []) := by unfold Hid; rw [← HT0.out]; unfold nodR; simp only; rw [if_neg k1, if_neg k3, if_neg k4, if_neg k5, if_neg k6, if_neg k7]
              clear HT0 k1 k3 k4 k5 k6 k7
              have g := SS.out.bn
              unfold ndC at g
              obtain ⟨g0, g1, g2, g3, g4, g5, g6, g7, g8, g9⟩ := ten_cells g
              have hit := SS.out.bx
              unfold itV at hit
              simp only at hit
              have x0 := hit.cell 0
              have x1 := hit.cell 1
              have x2 := hit.cell 2
              have x3 := hit.cell 3
              simp at x0 x1 x2 x3
              clear g hit
              have HZZ := HS
              go_wp2
              go_end0
              exact ⟨rfl, by rw [HT.out]; exact HZZ.out.blk, HZZ.out.gr⟩
end Go.Proofs.Ytgabifebcfgngaa
