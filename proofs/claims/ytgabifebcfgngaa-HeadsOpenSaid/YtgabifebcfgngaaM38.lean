/- Branches sorted. -/
import Derived.Test.YtgabifebcfgngaaM37
import Derived.Test.YtgabifebcfgngaaM36
import Derived.Maps.RangeRun
namespace Go.Proofs.Ytgabifebcfgngaa
open Go Go.RowKit
set_option linter.unusedVariables false
set_option linter.unusedSimpArgs false
set_option maxRecDepth 100000
set_option maxHeartbeats 16000000

/-- The branch of a place, or one of nothing. -/
def hdAt (D : List HdE) : Option (Fin D.length) → HdE
  | none => hd0
  | some i => D.get i
def encHd (D : List HdE) (i : Option (Fin D.length)) : List Value := (brC (hdAt D i)).toList
def hdCf (D : List HdE) (i j : Option (Fin D.length)) : Int := stC (hdAt D i).s (hdAt D j).s
theorem hd_swo (D : List HdE) : Go.Sort.SWO (ltOf (hdCf D)) where
  irrefl x := by unfold ltOf hdCf; rw [stC_self]; rfl
  trans x y z h1 h2 := by
    unfold ltOf hdCf at *
    rw [decide_eq_true_iff] at *
    have a1 := stC_three (hdAt D x).s (hdAt D y).s
    have a2 := stC_three (hdAt D y).s (hdAt D z).s
    rw [stC_trans (b := (hdAt D y).s) (by omega) (by omega)]; omega
  ntrans x y z h1 h2 := by
    unfold ltOf hdCf at *
    rw [decide_eq_false_iff_not] at *
    intro h3
    have a1 := stC_three (hdAt D x).s (hdAt D y).s
    have a2 := stC_three (hdAt D x).s (hdAt D z).s
    rcases a1 with h | h | h
    · omega
    · rw [(stC_zero _ _).1 h] at h3; exact h2 h3
    · have h4 := stC_neg (hdAt D x).s (hdAt D y).s
      have h5 := stC_trans (a := (hdAt D y).s) (b := (hdAt D x).s) (c := (hdAt D z).s) (by omega) (by omega)
      omega
def hdAll (D : List HdE) : Array (Option (Fin D.length)) := ((List.finRange D.length).map some).toArray
theorem hdAll_size (D : List HdE) : (hdAll D).size = D.length := by unfold hdAll; simp
theorem hdAll_map (D : List HdE) : (hdAll D).toList.map (hdAt D) = D := by
  unfold hdAll
  simp only [List.map_map]
  apply List.ext_getElem
  · simp
  · intro i h1 h2
    simp [hdAt]
theorem flatKB_eq (D : List HdE) (d : Array (Option (Fin D.length))) : (Go.Sort.flatK (encHd D) 2 d).toList = flatBr (d.toList.map (hdAt D)) := by
  apply List.ext_getElem?
  intro t
  have hsz : (Go.Sort.flatK (encHd D) 2 d).size = d.size * 2 := Go.Sort.size_flatK _ _ _
  by_cases ht : t < d.size * 2
  · have hd : t / 2 < d.size := by omega
    have hm : t % 2 < 2 := Nat.mod_lt _ (by decide)
    have h1 := flatBr_get (d.toList.map (hdAt D)) (t / 2) (t % 2) (by simpa using hd) hm
    rw [show t / 2 * 2 + t % 2 = t by omega] at h1
    rw [h1]
    have hs : t < (Go.Sort.flatK (encHd D) 2 d).size := by rw [hsz]; exact ht
    rw [Array.getElem?_toList, Array.getElem?_eq_getElem hs]
    have h2 := Go.Sort.get_flatK (encHd D) 2 d t ht
    rw [getElem!_pos _ t hs] at h2
    rw [h2]
    have e1 : hdAt D d[t / 2]! = (d.toList.map (hdAt D)).getD (t / 2) hd0 := by
      rw [getElem!_pos d (t / 2) hd, List.getD_eq_getElem?_getD, List.getElem?_map, Array.getElem?_toList, Array.getElem?_eq_getElem hd]; rfl
    rw [← e1]
    unfold encHd
    generalize hdAt D d[t / 2]! = y
    have hl : t % 2 < (brC y).toList.length := by rw [brC_size]; exact hm
    rw [getElem!_pos (brC y).toList (t % 2) hl, ← Array.getElem?_toList, List.getElem?_eq_getElem hl]
  · rw [List.getElem?_eq_none (by rw [Array.length_toList, hsz]; omega), List.getElem?_eq_none (by rw [flatBr_length]; simp; omega)]
theorem sortW_grown {α : Type} [Inhabited α] (enc : α → List Value) (k : Nat) (w : World) (g off m : Nat) (d : Array α) (os : Array Obj) : w.grownBy (sortWorldK enc k w g off m d os) (some g) := by
  refine ⟨rfl, rfl, rfl, ?_, fun j hj hne => ?_⟩
  · unfold sortWorldK Go.Sort.grow Go.Sort.putRowK Go.Sort.putRow Go.Sort.mapBlock Go.Sort.ahead; simp
  · unfold sortWorldK Go.Sort.grow Go.Sort.putRowK Go.Sort.putRow Go.Sort.mapBlock Go.Sort.ahead
    simp only [Array.getElem?_append, Array.size_modify, hj, if_true, Array.getElem?_modify]
    rw [if_neg (fun e => hne (by rw [e]))]
/-- slices.SortFunc, of branches by their states. -/
theorem hdSort_any (D : List HdE) (B B2 cap g : Nat) (w : World) (h : OwnBr w B (.slice (some ⟨g, 0, none⟩) D.length cap) D) (hg : ∃ cur, Blk w g cur 34) (hr : ∀ e ∈ D, OwnIt w B2 e.v e.s) (hl : ∀ e ∈ D, e.s.length ≤ 1073741824) (hn : D.length ≤ 1000000) (hnd : (D.map HdE.s).Nodup) :
    Calls Try.prog 43 #[.slice (some ⟨g, 0, none⟩) D.length cap, .func (.func 44) #[] #[]] w (fun e w' => e = .returned (.tuple #[]) ∧ ∃ D', D'.Perm D ∧ D'.Pairwise (fun a b => stC a.s b.s = -1) ∧ OwnBr w' B (.slice (some ⟨g, 0, none⟩) D.length cap) D' ∧ w.grownBy w' (some g)) := by
  obtain ⟨cur0, hgb⟩ := hg
  have hF : ∀ d : Array (Option (Fin D.length)), (Go.Sort.flatK (encHd D) 2 d).size = d.size * 2 := fun d => Go.Sort.size_flatK _ _ _
  have hHH : Go.Sort.HoldsK (encHd D) 2 w g 0 (hdAll D) := fun j hj => by
    rw [hF, hdAll_size] at hj
    refine ⟨?_, hgb.frozen _⟩
    obtain ⟨a, c, e1, -, hrow⟩ := h.row
    cases e1
    have hs : j < (Go.Sort.flatK (encHd D) 2 (hdAll D)).size := by rw [hF, hdAll_size]; exact hj
    obtain ⟨b, o, e2, -, hc⟩ := hrow (j / 2) (by omega)
    cases e2
    have h1 := hc (j % 2) (Nat.mod_lt _ (by decide))
    rw [Nat.zero_add, show j / 2 * 2 + j % 2 = j by omega] at h1
    rw [Nat.zero_add, h1, getElem!_pos _ j hs]
    have h2 := flatBr_get D (j / 2) (j % 2) (by omega) (Nat.mod_lt _ (by decide))
    rw [show j / 2 * 2 + j % 2 = j by omega] at h2
    have h3 := flatKB_eq D (hdAll D)
    rw [hdAll_map] at h3
    rw [← h2, ← h3, Array.getElem?_toList, Array.getElem?_eq_getElem hs]
    rfl
  have hcmp : CmpLays Try.prog 44 #[] (encHd D) 2 (hdCf D) g 0 (hdAll D).size w := fun m os dk hdk x y => by
    have hW := sortW_grown (encHd D) 2 w g 0 m dk os
    generalize sortWorldK (encHd D) 2 w g 0 m dk os = W at *
    have hi : ∀ i, ItRow W (hdAt D i).A (hdAt D i).s ∧ (hdAt D i).s.length ≤ 1073741824 := fun i => by
      cases i with
      | none => exact ⟨ItRow.nil _ _, by simp [hdAt, hd0]⟩
      | some i =>
        have hm : D.get i ∈ D := List.get_mem _ _
        have h1 := World.ownsRow.kept (hr _ hm) hW (.inr (own_not (hr _ hm) hgb (by decide)))
        obtain ⟨a, c, e1, -, h2⟩ := OwnIt.row h1
        unfold HdE.v at e1
        injection e1 with e2
        refine ⟨?_, hl _ hm⟩
        show ItRow W (D.get i).A (D.get i).s
        rw [e2]; exact h2
    have := hdCmp_any (hdAt D x) (hdAt D y) W (hi x).1 (hi y).1 (hi x).2 (hi y).2
    exact this.mono fun e w' hh => hh
  have hc := AnyQ.slices_SortFunc laysSortB 2 (fun w => Try.isAgg34 w) (fun w => Try.sizeOf34 w) (encHd D) (fun _ => rfl) (fun p u hu => flatBr_ones [hdAt D p] u (by unfold flatBr; exact List.mem_append_left _ hu)) (hdCf D) (hd_swo D) 44 #[] g 0 cap (hdAll D) w (enters_of Try.func44 (by kernel_rfl) rfl) hcmp hHH hgb.lt (by rw [hdAll_size]; omega)
  rw [hdAll_size] at hc
  refine hc.mono ?_
  rintro e w' ⟨rfl, d', n, os, hp, hs, rfl⟩
  have hsz : d'.size = D.length := by rw [hp.1, hdAll_size]
  have hperm : d'.toList.Perm (hdAll D).toList := by
    have h1 := hp.2.2
    have e0 : ∀ x : Array (Option (Fin D.length)), x.size = D.length → (x.extract 0 D.length).toList = x.toList := fun x hx => by
      rw [Array.toList_extract]
      have : x.toList.length = D.length := by rw [Array.length_toList, hx]
      simp [List.extract, List.take_of_length_le, this]
    rw [e0 _ hsz, e0 _ (hdAll_size D)] at h1
    exact h1
  have hD : (d'.toList.map (hdAt D)).Perm D := by
    have := hperm.map (hdAt D)
    rwa [hdAll_map] at this
  refine ⟨rfl, d'.toList.map (hdAt D), hD, ?_, ?_, sortW_grown _ _ _ _ _ _ _ _⟩
  · have hnd2 : ((d'.toList.map (hdAt D)).map HdE.s).Nodup := (hD.map HdE.s).nodup_iff.2 hnd
    rw [List.pairwise_iff_getElem]
    intro i j hi hj hij
    rw [List.length_map, Array.length_toList] at hi hj
    have h1 := hs i j (Nat.zero_le _) hij (by rw [← hsz]; exact hj)
    unfold ltOf hdCf at h1
    rw [decide_eq_false_iff_not, getElem!_pos d' i hi, getElem!_pos d' j hj] at h1
    simp only [List.getElem_map, Array.getElem_toList]
    have h2 : (hdAt D d'[i]).s ≠ (hdAt D d'[j]).s := fun e => by
      have := (List.pairwise_iff_getElem.1 hnd2) i j (by simpa using hi) (by simpa using hj) hij
      simp only [List.getElem_map, Array.getElem_toList] at this
      exact this e
    have h3 := stC_three (hdAt D d'[j]).s (hdAt D d'[i]).s
    have h4 := stC_neg (hdAt D d'[i]).s (hdAt D d'[j]).s
    rcases h3 with h3 | h3 | h3
    · omega
    · exact absurd ((stC_zero _ _).1 h3).symm h2
    · omega
  · obtain ⟨h0, ⟨hv, hn0⟩ | ⟨g2, cap2, cur, hv, hb, hgg, hcc, hmm, hss, htt⟩⟩ := h
    · cases hv
    · cases hv
      have hF2 := hF d'
      obtain ⟨F, hFe⟩ : ∃ F, F = Go.Sort.flatK (encHd D) 2 d' := ⟨_, rfl⟩
      have hgb2 : w.heap[g]? = some (Obj.cells cur 34) := hgg
      have hheap : (sortWorldK (encHd D) 2 w g 0 n d' os).heap[g]? = some (Obj.cells (Go.Sort.putCells id 0 F cur) 34) := by
        have hlt : g < w.heap.size := hgb.lt
        unfold sortWorldK Go.Sort.grow Go.Sort.putRowK Go.Sort.putRow Go.Sort.mapBlock Go.Sort.ahead
        simp only [Array.getElem?_append, Array.size_modify, hlt, if_true, Array.getElem?_modify]
        rw [hgb2, ← hFe]; rfl
      have hlen : (d'.toList.map (hdAt D)).length = D.length := by rw [List.length_map, Array.length_toList, hsz]
      refine ⟨flatBr_length _, .inr ⟨g, cap, Go.Sort.putCells id 0 F cur, by rw [hlen], hb, hheap, by rw [hlen]; exact hcc, hmm, by unfold Go.Sort.putCells; rw [Array.size_mapIdx]; exact hss, ?_⟩⟩
      rw [hlen, ← flatKB_eq]
      apply List.ext_getElem?
      intro t
      by_cases ht : t < D.length * 2
      · rw [List.getElem?_take, if_pos ht, Array.getElem?_toList]
        unfold Go.Sort.putCells
        have htc : t < cur.size := by have := Nat.mul_le_mul_right 2 hcc; omega
        rw [Array.getElem?_mapIdx, Array.getElem?_eq_getElem htc, Option.map_some, if_pos ⟨Nat.zero_le _, by rw [hFe, hF2, hsz]; omega⟩, Nat.sub_zero, Array.getElem?_toList, ← hFe, Array.getElem?_eq_getElem (by rw [hFe, hF2, hsz]; exact ht), getElem!_pos _ t (by rw [hFe, hF2, hsz]; exact ht)]; rfl
      · rw [List.getElem?_take, if_neg ht, List.getElem?_eq_none (by rw [Array.length_toList, hF2, hsz]; omega)]
end Go.Proofs.Ytgabifebcfgngaa
/- The heads put into a row, and sorted: walked. -/
namespace Go.Proofs.Ytgabifebcfgngaa
open Go Go.RowKit
set_option linter.unusedVariables false
set_option linter.unusedSimpArgs false
set_option maxRecDepth 100000
set_option maxHeartbeats 16000000

def HsP (HE : List HdE) (w : World) (e : Ending) (w' : World) : Prop :=
  ∃ v D, e = .returned v ∧ D.Perm HE ∧ D.Pairwise (fun a b => stC a.s b.s = -1) ∧ OwnBr w' w.heap.size v D ∧ Below w.heap.size w w'
theorem run_len_h (w : World) (m : Nat) (l : List HdE) (hm : IsMapH w m l) (ty : TypeId) : (Builtin.len_ #[55] ty #[.map (some m)]).run Try.prog w = .ok (.int .i64 (l.length : Int)) w := by
  unfold IsMapH at hm
  simp [Builtin.len_, Builtin.lenOf, Sem.run_bind, getObj, Sem.run, hm, Result.andThen, mapEsH_length, goInt, run_underlying Try.underlying55]
theorem run_range_h (w : World) (m : Nat) (l : List HdE) (hm : IsMapH w m l) : (Instr.range 55 (.map (some m))).run Try.prog w = .ok (.pointer (some ⟨w.heap.size, 0, none⟩)) (w.alloc (.mapIter (some m) l.length #[] l.length)) := by
  unfold IsMapH at hm
  simp [Instr.range, Sem.run_bind, getObj, Sem.run, hm, Result.andThen, run_underlying Try.underlying55, newObj]
theorem IsMapH.later {w w' : World} {m : Nat} {l : List HdE} (h : IsMapH w m l) (hb : Below w.heap.size w w') : IsMapH w' m l := (hb.block m h.lt).trans h
/-- What the gathering of branches leaves. -/
structure HsS (HE : List HdE) (m it : Nat) (w0 : World) (J : List Nat) (v : Value) (w : World) : Prop where
  bel : Below w0.heap.size w0 w
  own : OwnBr w w0.heap.size v (J.map fun j => HE.getD j hd0)
  it_ : w.heap[it]? = some (.mapIter (some m) HE.length J.toArray HE.length)
  nd : J.Nodup
  lt : ∀ j ∈ J, j < HE.length
  hit : w0.heap.size ≤ it
  nn : ∃ g n cap, v = .slice (some ⟨g, 0, none⟩) n cap
def HsL (HE : List HdE) (m it : Nat) (w0 : World) (v : Value) (w : World) : Prop := ∃ J, HsS HE m it w0 J v w
theorem mapEsH_mem {l : List HdE} {x : MapEntry} (h : x ∈ mapEsH l 0) : ∃ j, j < l.length ∧ x = { key := .string (bs (stK (l.getD j hd0).s)), val := .agg (brC (l.getD j hd0)), born := j } := by
  obtain ⟨j, hj, rfl⟩ := List.mem_iff_getElem.1 h
  have hj2 : j < l.length := by rw [← mapEsH_length l 0]; exact hj
  refine ⟨j, hj2, ?_⟩
  have h1 := mapEsH_get l 0 j
  rw [List.getElem?_eq_getElem hj, List.getElem?_eq_getElem hj2] at h1
  simp only [Option.map_some, Option.some.injEq, Nat.zero_add] at h1
  rw [h1, List.getD_eq_getElem?_getD, List.getElem?_eq_getElem hj2]; rfl
theorem mapEsH_borns (l : List HdE) (i : Nat) : (mapEsH l i).map (·.born) = List.range' i l.length := by
  induction l generalizing i with
  | nil => rfl
  | cons p l ih => rw [mapEsH, List.map_cons, ih, List.length_cons, List.range'_succ]
theorem nodup_lt {J : List Nat} {n : Nat} (hd : J.Nodup) (h : ∀ j ∈ J, j < n) : J.length ≤ n := by
  have h1 : J.Perm ((List.range n).filter fun j => decide (j ∈ J)) := (List.perm_ext_iff_of_nodup hd (List.nodup_range.filter _)).2 fun a => by
    rw [List.mem_filter, List.mem_range, decide_eq_true_iff]
    exact ⟨fun ha => ⟨h a ha, ha⟩, fun ha => ha.2⟩
  rw [h1.length_eq]
  exact Nat.le_trans (List.length_filter_le _ _) (by rw [List.length_range]; exact Nat.le_refl _)
/-- The step of the range. -/
theorem step_next {HE : List HdE} {m it : Nat} {w0 w : World} {J : List Nat} {v : Value} (h : HsS HE m it w0 J v w) (hm : IsMapH w m HE) (ty : TypeId) :
    ((∀ j, j < HE.length → j ∈ J) ∧ (Instr.next (.pointer (some ⟨it, 0, none⟩)) false ty).run Try.prog w = .ok (.tuple #[.bool false]) w) ∨
    ∃ j w2, j < HE.length ∧ j ∉ J ∧ (Instr.next (.pointer (some ⟨it, 0, none⟩)) false ty).run Try.prog w = .ok (.tuple #[.bool true, .string (bs (stK (HE.getD j hd0).s)), .agg (brC (HE.getD j hd0))]) w2 ∧
      (Instr.entry (.pointer (some ⟨it, 0, none⟩))).run Try.prog w2 = .ok (.tuple #[.string (bs (stK (HE.getD j hd0).s)), .agg (brC (HE.getD j hd0))]) w2 ∧
      Below w0.heap.size w0 w2 ∧ OwnBr w2 w0.heap.size v (J.map fun j => HE.getD j hd0) ∧ w2.heap[it]? = some (.mapIter (some m) HE.length (J ++ [j]).toArray HE.length) ∧ w0.heap.size ≤ w2.heap.size := by
  have hold : ∀ x ∈ (mapEsH HE 0).toArray.toList, x.born < HE.length := fun x hx => by
    obtain ⟨j, hj, rfl⟩ := mapEsH_mem hx
    exact hj
  rcases run_next_at (P := Try.prog) w ty it m HE.length HE.length J.toArray (mapEsH HE 0).toArray HE.length h.it_ hm hold (Nat.le_refl _) with ⟨h1, h2⟩ | ⟨e, h1, w1, hw, h2⟩
  · refine .inl ⟨fun j hj => ?_, h2⟩
    by_cases hc : j ∈ J
    · exact hc
    · exfalso
      have he : leftOf (mapEsH HE 0).toArray J.toArray = #[] := Array.eq_empty_of_size_eq_zero h1
      unfold leftOf at he
      rw [Array.filter_eq_empty_iff] at he
      have hjl : j < (mapEsH HE 0).length := by rw [mapEsH_length]; exact hj
      have h3 := he ((mapEsH HE 0)[j]) (by simp)
      have h4 := mapEsH_get HE 0 j
      rw [List.getElem?_eq_getElem hjl, List.getElem?_eq_getElem hj] at h4
      simp only [Option.map_some, Option.some.injEq, Nat.zero_add] at h4
      rw [h4] at h3
      simp at h3
      exact hc h3
  · unfold leftOf at h1
    simp only [Array.toList_filter, List.mem_filter] at h1
    obtain ⟨j, hj, rfl⟩ := mapEsH_mem h1.1
    have hjn : j ∉ J := by
      have := h1.2
      simpa using this
    have hit : w1.heap = w.heap := by rcases hw with rfl | rfl <;> rfl
    have hb1 : Below w.heap.size w w1 := by
      rcases hw with rfl | rfl
      · exact Below.refl _ _
      · exact (Below.refl _ _).drew
    have hlt : it < w.heap.size := (Array.getElem?_eq_some_iff.1 h.it_).1
    have hmi : m ≠ it := by
      rintro rfl
      have h4 := h.it_
      unfold IsMapH at hm
      rw [hm] at h4; cases h4
    have hg : w.grownBy (ChangeMaps.setBlock w1 it (.mapIter (some m) HE.length (J.toArray.push j) HE.length)) (some it) := by
      refine ⟨hb1.os, hb1.tape, hb1.output, ?_, fun k hk hne => ?_⟩
      · unfold ChangeMaps.setBlock; simp [hit]
      · unfold ChangeMaps.setBlock
        simp only [hit]
        rw [Array.getElem?_setIfInBounds_ne (fun e => hne (by rw [e]))]
    have hi2 : (ChangeMaps.setBlock w1 it (.mapIter (some m) HE.length (J.toArray.push j) HE.length)).heap[it]? = some (.mapIter (some m) HE.length (J.toArray.push j) HE.length) := by
      unfold ChangeMaps.setBlock
      simp [hit, hlt]
    have hm2 : IsMapH (ChangeMaps.setBlock w1 it (.mapIter (some m) HE.length (J.toArray.push j) HE.length)) m HE := (hg.block m hm.lt (fun e => by cases e; exact hmi rfl)).trans hm
    have hpush : J.toArray.push j = (J ++ [j]).toArray := by simp
    refine .inr ⟨j, _, hj, hjn, h2, ?_, ?_, ?_, by rw [hi2, hpush], Nat.le_trans h.bel.size hg.size⟩
    · exact run_entry_at (P := Try.prog) _ it m HE.length J.toArray (mapEsH HE 0).toArray HE.length { key := .string (bs (stK (HE.getD j hd0).s)), val := .agg (brC (HE.getD j hd0)), born := j } hi2 hm2 h1.1 (by
        simp only [mapEsH_borns]
        exact List.nodup_range')
    · exact h.bel.grown hg (Nat.le_trans h.bel.size (Nat.le_refl _)) (fun k hk => by cases hk; exact h.hit)
    · refine World.ownsRow.kept h.own hg ?_
      obtain ⟨-, ⟨hv, -⟩ | ⟨g, cap, cur, hv, -, hgg, -⟩⟩ := h.own
      · left; rw [hv]; rfl
      · right
        intro e
        rw [hv] at e
        simp only [Value.ownBlock, Option.some.injEq] at e
        subst e
        have h4 := h.it_
        rw [hgg] at h4; cases h4
theorem hdSorted_any (HE : List HdE) (m B : Nat) (w : World) (hm : IsMapH w m HE) (ho : ∀ e ∈ HE, OwnIt w B e.v e.s) (hl : ∀ e ∈ HE, e.s.length ≤ 1073741824) (hn : HE.length ≤ 1000000) (hnd : (HE.map HdE.s).Nodup) :
    Calls Try.prog 30 #[.map (some m)] w (HsP HE w) := by
  have HM := Lib.hid hm
  have HO := Lib.hid ho
  have hln := run_len_h w m HE hm
  clear hm ho
  go_enter Try.func30, Try.ntmps30
  go_upto_region 1 with (fail)
  go_wp2_with (first | (refine wpList_make_br rfl _ _ rfl (HE.length : Int) HE.length rfl rfl rfl (by omega) ?_; intro w1 hown hbel; have HOWN := Lib.hid hown; have HBEL := Lib.hid hbel; have hrg := run_range_h w1 m HE (HM.out.later hbel); clear hown hbel hln) | fail)
  have hb2 := (Below.refl w1.heap.size w1).alloc (Nat.le_refl _) (.mapIter (some m) HE.length #[] HE.length)
  have HS0 : Hid (HsS HE m w1.heap.size w [] (.slice (some ⟨w.heap.size, 0, none⟩) 0 HE.length) (w1.alloc (.mapIter (some m) HE.length #[] HE.length))) :=
    ⟨HBEL.out.trans (hb2.mono HBEL.out.size), HOWN.out.later hb2, heap_alloc_new _ _, List.nodup_nil, (fun j hj => by cases hj), HBEL.out.size, ⟨_, _, _, rfl⟩⟩
  clear hb2 hrg
  generalize hit : w1.heap.size = it at HS0 ⊢
  go_loopw [3, 5] (fun v (b : Value) wr => HsL HE m it w v wr) (fun _ _ wr => HE.length - (match wr.heap[it]? with | some (.mapIter _ _ seen _) => seen.size | _ => 0))
  case atStart => exact ⟨[], HS0.out⟩
  case round =>
    obtain ⟨J, hs⟩ := hrel
    have hmr : IsMapH wr m HE := HM.out.later (hs.bel)
    have HS := Lib.hid hs
    obtain ⟨g0, n0, k0, hv0⟩ := hs.nn
    rcases step_next hs hmr 0 with ⟨hall, hnx⟩ | ⟨j, w2, hj, hjn, hnx, hen, hb2, ho2, hi2, hz2⟩
    · subst hv0
      have hD : (J.map fun j => HE.getD j hd0).Perm HE := by
        have h1 : J.Perm (List.range HE.length) := (List.perm_ext_iff_of_nodup hs.nd List.nodup_range).2 fun a => by
          rw [List.mem_range]
          exact ⟨hs.lt a, hall a⟩
        have h2 := h1.map fun j => HE.getD j hd0
        have h3 : (List.range HE.length).map (fun j => HE.getD j hd0) = HE := by
          apply List.ext_getElem
          · simp
          · intro i h1 h2
            simp [h2]
        rwa [h3] at h2
      have hgb : ∃ cur, Blk wr g0 cur 34 := by
        obtain ⟨-, ⟨hv, -⟩ | ⟨g, cap, cur, hv, -, hgg, -⟩⟩ := hs.own
        · cases hv
        · cases hv; exact ⟨cur, hgg⟩
      have hown := hs.own
      obtain ⟨a9, c9, hx9, -, -⟩ := hown.row
      injection hx9 with q1 q2 q3
      subst q2
      have HSO := Lib.hid (hdSort_any (J.map fun j => HE.getD j hd0) w.heap.size B k0 g0 wr hown hgb (fun e he => (HO.out e (hD.mem_iff.1 he)).later hs.bel) (fun e he => hl e (hD.mem_iff.1 he)) (by rw [hD.length_eq]; exact hn) ((hD.map HdE.s).nodup_iff.2 hnd))
      have HDP := Lib.hid hD
      have HBR := Lib.hid hs.bel
      have HG0 : Hid (w.heap.size ≤ g0) := by
        obtain ⟨-, ⟨hv, -⟩ | ⟨g, cap, cur, hv, hb, -, -⟩⟩ := hown
        · cases hv
        · cases hv; exact hb
      clear hmr hs hall hD hgb hown q1 q3
      generalize (J.map fun j => HE.getD j hd0) = D at *
      go_wp2_with fail
      refine HSO.out.mono ?_
      rintro e w5 ⟨rfl, D', h1, h2, h3, h4⟩
      have HP : Hid (HsP HE w (.returned (.slice (some ⟨g0, 0, none⟩) D.length k0)) w5) := ⟨_, D', rfl, h1.trans HDP.out, h2, h3, HBR.out.grown h4 HBR.out.size (fun k hk => by cases hk; exact HG0.out)⟩
      clear h1 h2 h3 h4
      go_wp2
      go_ret
      exact HP.out
    · have HB2 := Lib.hid hb2
      have HO2 := Lib.hid ho2
      have HI2 := Lib.hid hi2
      have HJ := Lib.hid hj
      have HJN := Lib.hid hjn
      have HZ2 := Lib.hid hz2
      generalize he : HE.getD j hd0 = e at hnx hen ⊢
      unfold brC at hnx hen
      clear hb2 ho2 hi2 hj hjn hmr hs hz2
      have HEE : Hid (HE.getD j hd0 = e) := he
      clear he
      go_upto_region 5 with (fail)
      have hb3 := (Below.refl w2.heap.size w2).alloc (Nat.le_refl _) (.cells (brC e) 34)
      have HX3 := Lib.hid (Blk.new w2 (brC e) 34)
      have HB3 := Lib.hid hb3
      clear hb3
      unfold brC at HX3 HB3
      generalize hw3 : w2.alloc (.cells #[.slice e.A e.s.length e.cap, .int .i64 (e.many : Int)] 34) = w3 at *
      have x0 := HX3.out.cell 0
      have x1 := HX3.out.cell 1
      simp at x0 x1
      have hb4 := (Below.refl w3.heap.size w3).alloc (Nat.le_refl _) (.cells (brC e) 34)
      have HB4 := Lib.hid (HB3.out.trans (hb4.mono HB3.out.size))
      have HX4 := Lib.hid (Blk.new w3 (brC e) 34)
      have HJL : Hid ((J.map fun j => HE.getD j hd0).length ≤ 1000000) := by
        unfold Hid
        have h1 := nodup_lt HS.out.nd HS.out.lt
        rw [List.length_map]; omega
      clear hb4 hw3 hnx hen hv0
      go_wp2_with (refine wpList_append_br rfl _ _ rfl w.heap.size u3 (J.map fun j => HE.getD j hd0) rfl (HO2.out.later HB4.out) w3.heap.size e rfl HX4.out (by have := HJL.out; omega) (Nat.le_trans HZ2.out HB4.out.size) ?_; intro v5 w5 hown5 hg5; have HO5 := Lib.hid hown5; have HG5 := Lib.hid hg5; clear hown5 hg5)
      have hit5 : w5.heap[it]? = some (.mapIter (some m) HE.length (J ++ [j]).toArray HE.length) := by
        have h1 : (w3.alloc (.cells (brC e) 34)).heap[it]? = some (.mapIter (some m) HE.length (J ++ [j]).toArray HE.length) := (HB4.out.block it (Array.getElem?_eq_some_iff.1 HI2.out).1).trans HI2.out
        refine (HG5.out.block it (Array.getElem?_eq_some_iff.1 h1).1 (fun q => ?_)).trans h1
        obtain ⟨-, ⟨hv, -⟩ | ⟨g, cap, cur, hv, -, hgg, -⟩⟩ := HO2.out.later HB4.out
        · rw [hv] at q; cases q
        · rw [hv] at q
          simp only [Value.ownBlock, Option.some.injEq] at q
          subst q
          rw [hgg] at h1; cases h1
      refine ⟨⟨J ++ [j], ?_, by rw [List.map_append, List.map_singleton, HEE.out]; exact HO5.out, hit5, ?_, ?_, HS.out.hit, ?_⟩, ?_⟩
      · have h1 : Below w.heap.size w (w3.alloc (.cells (brC e) 34)) := HB2.out.trans (HB4.out.mono HZ2.out)
        refine h1.grown HG5.out h1.size (fun k hk => ?_)
        have h2 := (HO2.out.later HB4.out).lt k hk
        exact h2.1
      · exact List.nodup_append.2 ⟨HS.out.nd, by simp, fun a ha b hb q => by rw [List.mem_singleton.1 hb] at q; exact HJN.out (q ▸ ha)⟩
      · intro i hi
        rcases List.mem_append.1 hi with h | h
        · exact HS.out.lt i h
        · rw [List.mem_singleton.1 h]; exact HJ.out
      · obtain ⟨-, ⟨-, hn0⟩ | ⟨g, cap, cur, hv, -⟩⟩ := HO5.out
        · simp at hn0
        · exact ⟨_, _, _, hv⟩
      · rw [hit5, HS.out.it_]
        have h1 : J.length < HE.length := by
          have h2 : (j :: J).length ≤ HE.length := nodup_lt (List.nodup_cons.2 ⟨HJN.out, HS.out.nd⟩) fun a ha => by
            rcases List.mem_cons.1 ha with rfl | h
            · exact HJ.out
            · exact HS.out.lt a h
          rw [List.length_cons] at h2; omega
        simp
        omega
end Go.Proofs.Ytgabifebcfgngaa
/- Open: walked. -/
namespace Go.Proofs.Ytgabifebcfgngaa
open Go Go.RowKit
set_option linter.unusedVariables false
set_option linter.unusedSimpArgs false
set_option maxRecDepth 100000
set_option maxHeartbeats 16000000

/-- States that a call owns. -/
def OwnSt (w : World) (base : Nat) (v : Value) (l : List HdE) : Prop := w.ownsRow base 30 1 v l.length (l.map HdE.v)
theorem OwnSt.later {w w' : World} {base : Nat} {v : Value} {l : List HdE} (h : OwnSt w base v l) (hb : Below w.heap.size w w') : OwnSt w' base v l := ownsRow_later h hb
theorem infoSt : (Try.prog.info? 30).map (fun i => (i.zero, i.size, i.bytes)) = some (some (.slice none 0 0), 1, 24) := by kernel_rfl
theorem OwnSt.row {w : World} {base : Nat} {v : Value} {l : List HdE} (h : OwnSt w base v l) : ∃ a cap, v = .slice a l.length cap ∧ l.length ≤ cap ∧ ∀ i, i < l.length → ∃ b off, a = some ⟨b, off, none⟩ ∧ b < w.heap.size ∧ w.cell? ⟨b, off + i, none⟩ = some (l.getD i hd0).v := by
  obtain ⟨_, ⟨hv, hn⟩ | ⟨g, cap, cur, hv, hb, hg, hc, hm, hs, ht⟩⟩ := h
  · have : l = [] := List.length_eq_zero_iff.1 hn
    subst this
    exact ⟨none, 0, hv, Nat.le_refl _, fun i hi => by simp at hi⟩
  · refine ⟨_, cap, hv, hc, fun i hi => ⟨g, 0, rfl, Blk.lt (w := w) (b := g) (vs := cur) (t := 30) hg, ?_⟩⟩
    rw [Blk.cell (w := w) (b := g) (vs := cur) (t := 30) hg, Nat.zero_add]
    have h1 : (cur.toList.take (l.length * 1))[i]? = (l.map HdE.v)[i]? := by rw [ht]
    rw [List.getElem?_take, if_pos (by omega), Array.getElem?_toList, List.getElem?_map, List.getElem?_eq_getElem hi] at h1
    rw [h1, List.getD_eq_getElem?_getD, List.getElem?_eq_getElem hi]; rfl
theorem st_news {w : World} {b : Nat} {p : HdE} (h : Blk w b #[p.v] 30) : ∀ (j : Nat) (u : Value), ([p].map HdE.v)[j]? = some u → w.cell? ((⟨b, 0, none⟩ : Addr).add j) = some u := fun j u hu => by
  have hadd : (⟨b, 0, none⟩ : Addr).add j = ⟨b, j, none⟩ := by unfold Addr.add; split <;> simp_all
  rw [hadd, h.cell, ← Array.getElem?_toList]; exact hu
set_option maxRecDepth 100000 in
theorem wpList_append_st {w : World} {ops : Array Oper} {rest : List Oper} {o : Oper} {a : Act} {Q : Exit → Act → World → Prop} (hgd : o.guard = none) (s x : Operand)
    (ho : o.op = .call { callee := .builtin .append, args := #[s, x], argTypes := #[38, 38] })
    (base : Nat) (v : Value) (l : List HdE) (hs : a.eval s = v) (hown : OwnSt w base v l)
    (b : Nat) (p : HdE) (hx : a.eval x = .slice (some ⟨b, 0, none⟩) 1 1) (hnew : Blk w b #[p.v] 30) (hlen : l.length < 1073741824) (hbase : base ≤ w.heap.size)
    (h : ∀ v' w', OwnSt w' base v' (l ++ [p]) → w.grownBy w' v.ownBlock → wpList Try.prog ops Q rest (a.put o.dst v') w') : wpList Try.prog ops Q (o :: rest) a w :=
  wpList_plain hgd fun K hK => by
    obtain ⟨ib, hib, hz0, hz1, hz2⟩ := info_parts infoSt
    obtain ⟨v', w', hrun, h2, h3, _⟩ := run_append_own (P := Try.prog) w base 38 o.type 30 ib _ 1 24 Try.underlying38 hib hz0 hz1 hz2 rfl (by decide) v l.length (l.map HdE.v) hown ⟨b, 0, none⟩ 1 1 ([p].map HdE.v) rfl (st_news hnew) (fun u hu => by simp at hu; rw [hu]; rfl) (by unfold maxLen; omega) (by omega) hbase
    unfold Oper.wp execOp
    simp only [ho, resolve, invoke, builtin, Sem.run_bind, Sem.run_pure, Result.andThen_ok, List.map_toArray, List.map_cons, List.map_nil, hs, hx, hrun]
    exact hK _ _ (h v' w' (by unfold OwnSt; rw [List.length_append, List.map_append]; exact h2) h3)
theorem wpList_make_st {w : World} {ops : Array Oper} {rest : List Oper} {o : Oper} {a : Act} {Q : Exit → Act → World → Prop} (hgd : o.guard = none) (l c : Operand) (hop : o.op = Op.makeSlice 38 l c)
    (C : Int) (n : Nat) (hl : a.eval l = .int .i64 0) (hc : a.eval c = .int .i64 C) (hC : C = (n : Int)) (hn : n ≤ 1073741824)
    (hK : ∀ w', OwnSt w' w.heap.size (.slice (some ⟨w.heap.size, 0, none⟩) 0 n) [] → Below w.heap.size w w' → wpList Try.prog ops Q rest (a.put o.dst (.slice (some ⟨w.heap.size, 0, none⟩) 0 n)) w') : wpList Try.prog ops Q (o :: rest) a w := by
  obtain ⟨ib, hib, hz0, hz1, hz2⟩ := info_parts infoSt
  exact wpList_make_own w hgd l c 38 hop w.heap.size 30 ib _ 1 Try.underlying38 hib hz0 hz1 .i64 .i64 C n hl hc hC (by rw [hz2]; omega) (by unfold maxLen; omega) (Nat.le_refl _)
    fun w' h1 h2 => hK w' h1 ⟨h2.os, h2.tape, h2.output, h2.size, fun k hk => h2.block k hk (by simp)⟩
/-- What Open answers. -/
def HoP (l : List Nd) (x : Itm) (r : List Itm) (w : World) (e : Ending) (w' : World) : Prop :=
  ∃ v D, e = .returned v ∧ D.map HdE.s = opnS l x r ∧ OwnSt w' w.heap.size v D ∧ (∀ d ∈ D, OwnIt w' w.heap.size d.v d.s) ∧ Below w.heap.size w w'
/-- Its box, the item. -/
structure Hv0 (w0 : World) (A : Option Addr) (l : List Nd) (c : Nat) (B : Option Addr) (s : List Itm) (w : World) : Prop where
  bel : Below w0.heap.size w0 w
  row : NRow w A l
  st : ItRow w B s
  bd : Blk w w0.heap.size #[.slice A l.length c] 24
theorem Hv0.later {w0 w w' : World} {A B : Option Addr} {l : List Nd} {c : Nat} {s : List Itm} (h : Hv0 w0 A l c B s w) (hb : Below w.heap.size w w') : Hv0 w0 A l c B s w' := ⟨h.bel.trans (hb.mono h.bel.size), h.row.later hb, h.st.later hb, h.bd.later hb⟩
structure HvR (w0 : World) (T : List (List Itm)) (r : List Itm) (lb j : Nat) (D : List HdE) (v : Value) (w : World) : Prop where
  bel : Below w0.heap.size w0 w
  bl : Blk w lb (rwsC T) 70
  own : OwnSt w w0.heap.size v D
  ent : ∀ d ∈ D, OwnIt w w0.heap.size d.v d.s
  ds : D.map HdE.s = (T.take j).map (· ++ r)
theorem HvR.later {w0 w w' : World} {T : List (List Itm)} {r : List Itm} {lb j : Nat} {D : List HdE} {v : Value} (h : HvR w0 T r lb j D v w) (hb : Below w.heap.size w w') : HvR w0 T r lb j D v w' :=
  ⟨h.bel.trans (hb.mono h.bel.size), h.bl.later hb, h.own.later hb, fun d hd => (h.ent d hd).later hb, h.ds⟩
def HvL (w0 : World) (T : List (List Itm)) (r : List Itm) (lb : Nat) (v i : Value) (w : World) : Prop := ∃ (j : Nat) (D : List HdE), j ≤ T.length ∧ i = .int .i64 (j : Int) ∧ HvR w0 T r lb j D v w
/-- .. with the row at hand in its box. -/
structure HvQ (w0 : World) (T : List (List Itm)) (r : List Itm) (lb j : Nat) (D : List HdE) (v : Value) (rb : Nat) (q : List Itm) (w : World) : Prop where
  h : HvR w0 T r lb j D v w
  rb : Blk w rb (rowC q).toArray 67
theorem HvQ.later {w0 w w' : World} {T : List (List Itm)} {r : List Itm} {lb j : Nat} {D : List HdE} {v : Value} {rb : Nat} {q : List Itm} (h : HvQ w0 T r lb j D v rb q w) (hb : Below w.heap.size w w') : HvQ w0 T r lb j D v rb q w' := ⟨h.h.later hb, h.rb.later hb⟩
/-- Two states, handed over; a state, made anew. -/
def New2S (u1 u2 : Value) (v : Value) (w : World) : Prop := ∃ b, v = .slice (some ⟨b, 0, none⟩) 2 2 ∧ Blk w b #[u1, u2] 30
theorem New2S.later (u1 u2 v : Value) (w w' : World) (h : New2S u1 u2 v w) (hb : Below w.heap.size w w') : New2S u1 u2 v w' := by
  obtain ⟨b, h1, h2⟩ := h
  exact ⟨b, h1, h2.later hb⟩
def NewSt (B : Nat) (s : List Itm) (v : Value) (w : World) : Prop := OwnIt w B v s
theorem NewSt.later (B : Nat) (s : List Itm) (v : Value) (w w' : World) (h : NewSt B s v w) (hb : Below w.heap.size w w') : NewSt B s v w' := OwnIt.later h hb
def New1S (B : Nat) (s : List Itm) (v : Value) (w : World) : Prop := ∃ (b : Nat) (d : HdE), v = .slice (some ⟨b, 0, none⟩) 1 1 ∧ d.s = s ∧ Blk w b #[d.v] 30 ∧ OwnIt w B d.v d.s
theorem New1S.later (B : Nat) (s : List Itm) (v : Value) (w w' : World) (h : New1S B s v w) (hb : Below w.heap.size w w') : New1S B s v w' := by
  obtain ⟨b, d, h1, h2, h3, h4⟩ := h
  exact ⟨b, d, h1, h2, h3.later hb, h4.later hb⟩
theorem ownS_at {w : World} {B : Nat} {v : Value} {l : List HdE} (h : OwnSt w B v l) {g : Nat} (hg : v.ownBlock = some g) : ∃ cur, Blk w g cur 30 ∧ B ≤ g := by
  obtain ⟨-, ⟨rfl, -⟩ | ⟨g', cap, cur, rfl, hb, hgg, -⟩⟩ := h
  · cases hg
  · simp only [Value.ownBlock, Option.some.injEq] at hg
    subst hg
    exact ⟨cur, hgg, hb⟩
theorem HvR.push {w0 w w' : World} {T : List (List Itm)} {r : List Itm} {lb j : Nat} {D : List HdE} {v v' : Value} {d : HdE} (h : HvR w0 T r lb j D v w) (h1 : OwnSt w' w0.heap.size v' (D ++ [d])) (hg : w.grownBy w' v.ownBlock) (hd : OwnIt w w0.heap.size d.v d.s) (hj : j < T.length) (hds : d.s = T.getD j [] ++ r) : HvR w0 T r lb (j + 1) (D ++ [d]) v' w' := by
  have hk : ∀ {u : Value} {x : List Itm}, OwnIt w w0.heap.size u x → OwnIt w' w0.heap.size u x := fun {u x} hu => World.ownsRow.kept hu hg (by
    cases ho : u.ownBlock with
    | none => exact .inl rfl
    | some b =>
      refine .inr fun e => ?_
      obtain ⟨c1, k1, -⟩ := own_at hu ho
      obtain ⟨c2, k2, -⟩ := ownS_at h.own e.symm
      exact blk_typ k1 k2 (by decide) rfl)
  refine ⟨h.bel.grown hg h.bel.size (fun k e => by obtain ⟨c1, -, k2⟩ := ownS_at h.own e; exact k2), (hg.block _ h.bl.lt (fun e => ?_)).trans h.bl, h1, fun x hx => ?_, ?_⟩
  · obtain ⟨c2, k2, -⟩ := ownS_at h.own e.symm
    exact blk_typ h.bl k2 (by decide) rfl
  · rcases List.mem_append.1 hx with hx | hx
    · exact hk (h.ent x hx)
    · rw [List.mem_singleton.1 hx]; exact hk hd
  · rw [List.map_append, List.map_singleton, h.ds, List.take_add_one, List.map_append, hds, List.getD_eq_getElem?_getD, List.getElem?_eq_getElem hj]
    rfl
theorem rowC_row {r : List Itm} (h : r.length ≤ 2) {w : World} {b : Nat} (hb : Blk w b (rowC r).toArray 67) : ItRow w (some ⟨b, 0, none⟩) r := fun i hi => by
  refine ⟨b, 0, rfl, hb.lt, fun j hj => ?_⟩
  rw [hb.cell, List.getElem?_toArray]
  unfold rowC
  have h1 := flatIt_get (r ++ List.replicate (2 - r.length) it0) i j (by rw [List.length_append]; omega) hj
  rw [Nat.zero_add, List.getElem?_append_left (by rw [flatIt_length, List.length_append]; omega), h1]
  congr 2
  rw [List.getD_eq_getElem?_getD, List.getD_eq_getElem?_getD, List.getElem?_append_left hi]
theorem two_rows {w : World} {b : Nat} {A1 A2 : Option Addr} {c1 c2 : Nat} {q r : List Itm} (h : Blk w b #[.slice A1 q.length c1, .slice A2 r.length c2] 30) (h1 : ItRow w A1 q) (h2 : ItRow w A2 r) : RwI w b [q, r] := ⟨h.lt, fun k hk => by
  have hk : k < 2 := hk
  rw [h.cell]
  rcases (by omega : k = 0 ∨ k = 1) with rfl | rfl
  · exact ⟨A1, c1, rfl, h1⟩
  · exact ⟨A2, c2, rfl, h2⟩⟩
theorem rowC_8 {r : List Itm} (h : r.length ≤ 2) : (rowC r).toArray[8]? = some (.int .i64 (r.length : Int)) := by
  unfold rowC
  rw [List.getElem?_toArray, List.getElem?_append_right (by rw [flatIt_length, List.length_append, List.length_replicate]; omega), flatIt_length, List.length_append, List.length_replicate, show 8 - (r.length + (2 - r.length)) * 4 = 0 by omega]
  rfl
theorem hdOpen_any (l : List Nd) (A : Option Addr) (c : Nat) (x : Itm) (r : List Itm) (B : Option Addr) (c2 : Nat) (hc2 : (x :: r).length ≤ c2) (hR : Rgt l) (hlen : l.length ≤ 1000000) (hs : ∀ y ∈ x :: r, HdF l y) (hrd : rdyS l (x :: r) = false) (hsl : r.length ≤ 1000) (w : World) (hrow : NRow w A l) (hss : ItRow w B (x :: r)) :
    Calls Try.prog 18 #[.agg #[.slice A l.length c], .slice B (x :: r).length c2] w (HoP l x r w) := by
  have hb1 := (Below.refl w.heap.size w).alloc (Nat.le_refl _) (.cells #[.slice A l.length c] 24)
  have H0 : Hid (Hv0 w A l c B (x :: r) (w.alloc (.cells #[.slice A l.length c] 24))) := ⟨hb1, hrow.later hb1, hss.later hb1, Blk.new _ _ _⟩
  have hx := hs x (List.mem_cons_self ..)
  have HRY := Lib.hid (fun (w' : World) (h : NRow w' A l) (k : ItRow w' B (x :: r)) => hdReadyS_any l A c (x :: r) B c2 hR.1.1 hs (by omega) (by simp; omega) w' h k)
  rw [hrd] at HRY
  have HOP := Lib.hid (fun (w' : World) (h : NRow w' A l) => hdOpens_any l A c x hR.1 hR.1.1 hx (by rw [← hrd]; rfl) (by omega) w' h)
  have HTO := Lib.hid (rwI_opn l x r)
  have HOK : Hid (RwOk (rwI l x)) := rw_len l x
  generalize rwI l x = T at *
  obtain ⟨bb, ob, rfl, hbb, -⟩ := hss.four (i := 0) (by simp)
  have FX := Lib.hid (fun (w' : World) (h : ItRow w' (some ⟨bb, ob, none⟩) (x :: r)) => h.at (i := 0) (by simp) rfl)
  have hlz : ((x :: r).length : Int) = (r.length : Int) + 1 := by simp
  have hlz0 : (0 : Int) < ((x :: r).length : Int) := by omega
  have hcz : ((x :: r).length : Int) ≤ (c2 : Int) := by omega
  have hge0 : ¬ ((x :: r).length : Int) ≤ 0 := by omega
  have hn0 : 0 < (x :: r).length := by rw [List.length_cons]; omega
  have HSS := Lib.hid hss
  clear hb1 hrow hss hbb
  generalize hn : (x :: r).length = n at *
  have HNN := Lib.hid hn
  have HC2 := Lib.hid hc2
  have HLZ := Lib.hid hlz
  have HSL := Lib.hid hsl
  clear hn hlz hc2 hsl hx hs
  unfold itV at HOP
  go_enter Try.func18, Try.ntmps18
  go_upto_region 1 with (fail)
  generalize w.alloc (.cells #[.slice A l.length c] 24) = w1 at *
  have e0 := H0.out.bd.cell 0
  simp at e0
  go_wp2_with fail
  refine (HRY.out _ H0.out.row H0.out.st).mono ?_
  rintro e w2 ⟨rfl, hb⟩
  have H2 := Lib.hid (H0.out.later hb)
  clear hb e0 H0 HRY
  go_upto_region 3 with (fail)
  refine wp_region_stable_last (S := (Hv0 w A l c (some ⟨bb, ob, none⟩) (x :: r))) (hSt := fun _ _ h hb => h.later hb) (plan := [[(2, none)], [(1, none)], [(13, some 1)], [(14, some 2)], [(12, some 0), (15, some 3)], []]) rfl (by kernel_rfl) (by kernel_rfl) (by kernel_rfl) (by kernel_rfl) ?hS ?_
  rotate_left
  simp only [List.dropLast]
  iterate 5 first
    | (refine chain_skip (by rfl) (by rfl) ?_)
    | (apply chain_want (by rfl)
       · intro act wx hS hr
         simp at hr
         have e0 := hS.bd.cell 0
         simp at e0
         obtain ⟨x0, x1, x2, x3⟩ := FX.out _ hS.st
         simp at x0 x1 x2 x3
         go_simp
         (try go_ints)
         first
           | ((with_reducible refine (HOP.out _ hS.row).mono ?_); rintro e w' ⟨rfl, hb⟩; exact Done.mk hb)
           | exact Done.same
      )
  (refine chain_rel (NewR w.heap.size) (NewR.later w.heap.size) (by rfl) ?_ ?_
   · intro act wx hS hr
     simp at hr
     have e0 := hS.bd.cell 0
     simp at e0
     obtain ⟨x0, x1, x2, x3⟩ := FX.out _ hS.st
     simp at x0 x1 x2 x3
     all_goals go_simp
     exact Done.rel ((Below.refl _ _).alloc (Nat.le_refl _) _) ⟨_, rfl, Nat.le_of_lt hS.bd.lt, Blk.new _ _ _⟩
  )
  show ∀ w', _ → _
  intro wz hz
  simp [Act.put]
  case hS => exact H2.out
  intro v6 hv6
  obtain ⟨lb, rfl, hlw, hlb⟩ := hv6
  refine wp_store_row 70 _ _ rfl lb (rwsC T) rfl rfl 70 (rwsC []) hlb (rwsC_info HOK.out) (by rw [rwsC_size HOK.out]; rfl) rwsC_ones ?_
  have HBL : Hid (Blk (wz.setRow lb (rwsC T)) lb (rwsC T) 70) := setRow_blk hlb
  have HBB : Hid (Below w.heap.size w (wz.setRow lb (rwsC T))) := bel_grown hz.bel hz.bel.size (setRow_grown _ _ _) hlw
  clear hz hlb hlw HOP H2 FX hrd
  generalize wz.setRow lb (rwsC T) = w4 at *
  have e18 := HBL.out.cell 18
  rw [rwsC_many HOK.out] at e18
  have hTz : (T.length : Int) ≤ 2 := by have := HOK.out.1; omega
  have hTn : T.length ≤ 2 := HOK.out.1
  go_wp2_with (first | (refine wpList_make_st rfl _ _ rfl (T.length : Int) T.length rfl rfl rfl (by omega) ?_; intro w5 hown hbel; have HO5 := Lib.hid hown; have HBL5 := Lib.hid (HBL.out.later hbel); have HB5 := Lib.hid (HBB.out.trans (hbel.mono HBB.out.size)); have e18 := (HBL.out.later hbel).cell 18; rw [rwsC_many HOK.out] at e18; have HZ5 := HBB.out.size; clear hown hbel) | fail)
  have hwl : w.heap.size ≤ w4.heap.size := HZ5
  have HR0 : Hid (HvR w T r lb 0 [] (.slice (some ⟨w4.heap.size, 0, none⟩) 0 T.length) w5) := ⟨HB5.out, HBL5.out, by
    obtain ⟨h0, h1⟩ := HO5.out
    refine ⟨h0, ?_⟩
    rcases h1 with h1 | ⟨g, cap, cur, q1, q2, q3⟩
    · exact .inl h1
    · exact .inr ⟨g, cap, cur, q1, Nat.le_trans hwl q2, q3⟩, (fun d hd => by cases hd), by rw [List.take_zero]; rfl⟩
  clear HO5 HBL5 HB5 HZ5 hwl HBL HBB
  generalize w4.heap.size = g4 at *
  go_loopw [6, 8, 25] (fun v (b : Value) i wr => HvL w T r lb v i wr) (fun _ _ i _ => T.length - (intOf i).toNat)
  case atStart => exact ⟨0, [], Nat.zero_le _, rfl, HR0.out⟩
  case round =>
    obtain ⟨j, D, hj, rfl, hh⟩ := hrel
    have HH := Lib.hid hh
    have HJ := Lib.hid hj
    obtain ⟨a6, c6, hv6, -, -⟩ := hh.own.row
    subst hv6
    clear hh
    by_cases hlt : j < T.length
    · have hz : (j : Int) < (T.length : Int) := by omega
      have hjn : ¬ (j : Int) < 0 := by omega
      have HLT := Lib.hid hlt
      have hr2 : (T.getD j []).length ≤ 2 := HOK.out.2 _ (by rw [List.getD_eq_getElem?_getD, List.getElem?_eq_getElem hlt]; exact List.getElem_mem hlt)
      have HR2 := Lib.hid hr2
      have HRG := Lib.hid (row_range HH.out.bl HOK.out (show j < 2 by omega))
      have HBN := Lib.hid (Blk.new wr (rowC []).toArray 67)
      have hb8 : Below wr.heap.size wr ((wr.alloc (.cells (rowC []).toArray 67)).setRow wr.heap.size (rowC (T.getD j [])).toArray) := (((Below.refl wr.heap.size wr).alloc (Nat.le_refl _) (.cells (rowC []).toArray 67)).grown (setRow_grown _ _ _) (by rw [World.size_alloc]; omega) (fun k hk => by cases hk; exact Nat.le_refl _))
      have HQ8 : Hid (HvQ w T r lb j D (.slice a6 D.length c6) wr.heap.size (T.getD j []) ((wr.alloc (.cells (rowC []).toArray 67)).setRow wr.heap.size (rowC (T.getD j [])).toArray)) := ⟨HH.out.later hb8, setRow_blk HBN.out⟩
      clear hb8 hr2 hlt hj
      go_upto_region 7 with (fail)
      go_wp2_with (first | (refine wpList_load_mid rfl 67 _ rfl lb (j * 9) rfl (rowC (T.getD j [])) _ HRG.out Try.underlying67 rfl (rowC_info HR2.out) ?_) | (refine wpList_store_row rfl 67 _ _ rfl wr.heap.size (rowC (T.getD j [])).toArray rfl rfl 67 (rowC []).toArray HBN.out (rowC_infoA HR2.out) (by rw [List.size_toArray, List.size_toArray, rowC_len HR2.out]; rfl) rowC_ones ?_) | fail)
      generalize wr.heap.size = rb at *
      have HM8 : Hid ((rowC (T.getD j [])).toArray[8]? = some (.int .i64 ((T.getD j []).length : Int))) := rowC_8 HR2.out
      have hqz : ((T.getD j []).length : Int) ≤ 2 := by have := HR2.out; omega
      have hqn : (T.getD j []).length ≤ 2 := HR2.out
      by_cases hc1 : c2 = 1
      · have hn1 : n = 1 := by have := HC2.out; omega
        have HR1 : Hid (r = []) := by have := HLZ.out; exact List.length_eq_zero_iff.1 (by omega)
        subst hc1
        subst hn1
        generalize hqe : T.getD j [] = q at *
        have HQE := Lib.hid hqe
        clear hqe
        refine wp_region_stable_tail 10 (S := (HvQ w T r lb j D (.slice a6 D.length c6) rb q)) (hSt := fun _ _ h hb => h.later hb) (plan := [[(6, none)], [(8, none)], [(8, none)], [(31, some 2)], [(30, some 1), (32, some 3)], [(1, none)], [(34, some 5)], [(33, some 4), (35, some 6)], [(36, some 7)], [(37, some 8)]]) rfl rfl (by kernel_rfl) (by kernel_rfl) (by kernel_rfl) (by kernel_rfl) ?hS ?_
        rotate_left
        iterate 7 first
          | (refine chain_skip (by rfl) (by rfl) ?_)
          | (apply chain_want (by rfl)
             · intro act wx hS hr
               simp at hr
               have e8 := hS.rb.cell 8
               rw [HM8.out] at e8
               go_simp
               (try go_ints)
               first
                 | exact Done.same
            )
        (refine chain_rel (New2S (.slice (some ⟨rb, 0, none⟩) q.length 2) (.slice (some ⟨bb, ob, none⟩) 0 0)) (New2S.later _ _) (by rfl) ?_ ?_
         · intro act wx hS hr
           simp at hr
           have e8 := hS.rb.cell 8
           rw [HM8.out] at e8
           all_goals go_simp
           exact Done.rel ((Below.refl _ _).alloc (Nat.le_refl _) _) ⟨_, rfl, Blk.new _ _ _⟩
        )
        (refine chain_rel (NewSt w.heap.size (q ++ r)) (NewSt.later w.heap.size (q ++ r)) (by rfl) ?_ ?_
         · intro act wx hS hr
           simp at hr
           have e8 := hS.rb.cell 8
           rw [HM8.out] at e8
           obtain ⟨v7, hr7, b7, rfl, hk7⟩ := hr
           all_goals go_simp
           have hcc := hdConcat_any [q, r] b7 2 (by simp) (by simp; have := HSL.out; omega) wx (two_rows (c1 := 2) (c2 := 0) (by rw [HR1.out]; exact hk7) (rowC_row HR2.out hS.rb) (by rw [HR1.out]; exact ItRow.nil _ _))
           with_reducible refine Calls.mono hcc ?_
           rintro e w' ⟨u, rfl, hu, hb⟩
           simp only [List.flatten_cons, List.flatten_nil, List.append_nil] at hu
           exact Done.rel hb (hu.lower hS.h.bel.size)
        )
        (refine chain_rel (New1S w.heap.size (q ++ r)) (New1S.later w.heap.size (q ++ r)) (by rfl) ?_ ?_
         · intro act wx hS hr
           simp at hr
           have e8 := hS.rb.cell 8
           rw [HM8.out] at e8
           obtain ⟨v8, hr8, hu8⟩ := hr
           obtain ⟨a8, k8, rfl, -, -⟩ := OwnIt.row hu8
           all_goals go_simp
           exact Done.rel ((Below.refl _ _).alloc (Nat.le_refl _) _) ⟨_, ⟨q ++ r, a8, k8, 0⟩, rfl, rfl, by (show Blk _ _ #[.slice a8 (q ++ r).length k8] _; rw [List.length_append]; exact Blk.new _ _ _), OwnIt.later hu8 ((Below.refl _ _).alloc (Nat.le_refl _) _)⟩
        )
        show ∀ w', _ → _
        intro wz hz
        simp [Act.put]
        case hS => (rw [← List.getD_eq_getElem?_getD, HQE.out]; exact HQ8.out)
        intro v7 hv7 v8 hv8 v9 hv9
        obtain ⟨b9, d, rfl, hds, hk9, ho9⟩ := hv9
        have HZ := Lib.hid hz
        have HK9 := Lib.hid hk9
        have HO9 := Lib.hid ho9
        have HDS := Lib.hid hds
        have HDL : Hid (D.length ≤ 2) := by
          have h1 := congrArg List.length hz.h.ds
          rw [List.length_map, List.length_map, List.length_take] at h1
          unfold Hid; omega
        clear hz hk9 ho9 hds hv7 hv8
        go_wp2_with (at_builtin; refine wpList_append_st rfl _ _ rfl w.heap.size (.slice a6 D.length c6) D rfl HZ.out.h.own b9 d rfl HK9.out (by have := HDL.out; omega) HZ.out.h.bel.size ?_; intro v' w5 h1 h2; have HN := Lib.hid (HZ.out.h.push h1 h2 HO9.out HLT.out (HDS.out.trans (by rw [HQE.out]))); clear h1 h2)
        go_roundw
        case rel => exact ⟨j + 1, D ++ [d], HLT.out, by go_num, HN.out⟩
        case measure => have := HLT.out; simp [intOf] <;> omega
      · have hc1z : ¬ (c2 : Int) = 1 := by omega
        have hn1 : 1 ≤ n := by omega
        have HR1 : Hid (n - 1 = r.length) := by have := HLZ.out; unfold Hid; omega
        have hnz : (1 : Int) ≤ (n : Int) := by omega
        generalize hqe : T.getD j [] = q at *
        have HQE := Lib.hid hqe
        clear hqe
        refine wp_region_stable_tail 10 (S := (HvQ w T r lb j D (.slice a6 D.length c6) rb q)) (hSt := fun _ _ h hb => h.later hb) (plan := [[(6, none)], [(8, none)], [(8, none)], [(31, some 2)], [(30, some 1), (32, some 3)], [(1, none)], [(34, some 5)], [(33, some 4), (35, some 6)], [(36, some 7)], [(37, some 8)]]) rfl rfl (by kernel_rfl) (by kernel_rfl) (by kernel_rfl) (by kernel_rfl) ?hS ?_
        rotate_left
        iterate 7 first
          | (refine chain_skip (by rfl) (by rfl) ?_)
          | (apply chain_want (by rfl)
             · intro act wx hS hr
               simp at hr
               have e8 := hS.rb.cell 8
               rw [HM8.out] at e8
               go_simp
               (try go_ints)
               first
                 | exact Done.same
            )
        (refine chain_rel (New2S (.slice (some ⟨rb, 0, none⟩) q.length 2) (.slice (some ⟨bb, ob + 4, none⟩) (n - 1) (c2 - 1))) (New2S.later _ _) (by rfl) ?_ ?_
         · intro act wx hS hr
           simp at hr
           have e8 := hS.rb.cell 8
           rw [HM8.out] at e8
           all_goals go_simp
           exact Done.rel ((Below.refl _ _).alloc (Nat.le_refl _) _) ⟨_, rfl, Blk.new _ _ _⟩
        )
        (refine chain_rel (NewSt w.heap.size (q ++ r)) (NewSt.later w.heap.size (q ++ r)) (by rfl) ?_ ?_
         · intro act wx hS hr
           simp at hr
           have e8 := hS.rb.cell 8
           rw [HM8.out] at e8
           obtain ⟨v7, hr7, b7, rfl, hk7⟩ := hr
           all_goals go_simp
           have hcc := hdConcat_any [q, r] b7 2 (by simp) (by simp; have := HSL.out; omega) wx (two_rows (c1 := 2) (c2 := c2 - 1) (by rw [HR1.out] at hk7; exact hk7) (rowC_row HR2.out hS.rb) (HSS.out.later hS.h.bel).tl)
           with_reducible refine Calls.mono hcc ?_
           rintro e w' ⟨u, rfl, hu, hb⟩
           simp only [List.flatten_cons, List.flatten_nil, List.append_nil] at hu
           exact Done.rel hb (hu.lower hS.h.bel.size)
        )
        (refine chain_rel (New1S w.heap.size (q ++ r)) (New1S.later w.heap.size (q ++ r)) (by rfl) ?_ ?_
         · intro act wx hS hr
           simp at hr
           have e8 := hS.rb.cell 8
           rw [HM8.out] at e8
           obtain ⟨v8, hr8, hu8⟩ := hr
           obtain ⟨a8, k8, rfl, -, -⟩ := OwnIt.row hu8
           all_goals go_simp
           exact Done.rel ((Below.refl _ _).alloc (Nat.le_refl _) _) ⟨_, ⟨q ++ r, a8, k8, 0⟩, rfl, rfl, by (show Blk _ _ #[.slice a8 (q ++ r).length k8] _; rw [List.length_append]; exact Blk.new _ _ _), OwnIt.later hu8 ((Below.refl _ _).alloc (Nat.le_refl _) _)⟩
        )
        show ∀ w', _ → _
        intro wz hz
        simp [Act.put]
        case hS => (rw [← List.getD_eq_getElem?_getD, HQE.out]; exact HQ8.out)
        intro v7 hv7 v8 hv8 v9 hv9
        obtain ⟨b9, d, rfl, hds, hk9, ho9⟩ := hv9
        have HZ := Lib.hid hz
        have HK9 := Lib.hid hk9
        have HO9 := Lib.hid ho9
        have HDS := Lib.hid hds
        have HDL : Hid (D.length ≤ 2) := by
          have h1 := congrArg List.length hz.h.ds
          rw [List.length_map, List.length_map, List.length_take] at h1
          unfold Hid; omega
        clear hz hk9 ho9 hds hv7 hv8
        go_wp2_with (at_builtin; refine wpList_append_st rfl _ _ rfl w.heap.size (.slice a6 D.length c6) D rfl HZ.out.h.own b9 d rfl HK9.out (by have := HDL.out; omega) HZ.out.h.bel.size ?_; intro v' w5 h1 h2; have HN := Lib.hid (HZ.out.h.push h1 h2 HO9.out HLT.out (HDS.out.trans (by rw [HQE.out]))); clear h1 h2)
        go_roundw
        case rel => exact ⟨j + 1, D ++ [d], HLT.out, by go_num, HN.out⟩
        case measure => have := HLT.out; simp [intOf] <;> omega
    · obtain rfl : j = T.length := by omega
      have hz : ¬ ((T.length : Nat) : Int) < (T.length : Int) := by omega
      have HP : Hid (HoP l x r w (.returned (.slice a6 D.length c6)) wr) := by
        refine ⟨_, D, rfl, ?_, HH.out.own, HH.out.ent, HH.out.bel⟩
        have := HH.out.ds
        rw [List.take_length] at this
        rw [this, HTO.out]
      clear hlt hj
      go_wp2
      go_ret
      exact HP.out
end Go.Proofs.Ytgabifebcfgngaa
