/- Branches sorted. -/
import Derived.Test.YtidoofdofdhjpaaM24
import Derived.Test.YtidoofdofdhjpaaM13
import Derived.Shelf.SlSortCmp.NoneTotal
namespace Go.Proofs.Ytidoofdofdhjpaa
open Go Go.RowKit
set_option linter.unusedVariables false
set_option linter.unusedSimpArgs false
set_option maxRecDepth 100000
set_option maxHeartbeats 16000000
def hdAt (D : List HdE) : Option (Fin D.length) -> HdE
 | none => hd0
 | some i => D.get i
def encHd (D : List HdE) (i : Option (Fin D.length)) : List Value := (brC (hdAt D i)).toList
def hdCf (D : List HdE) (i j : Option (Fin D.length)) : Int := stC (hdAt D i).s (hdAt D j).s
theorem hd_swo (D : List HdE) : Go.Sort.SWO (ltOf (hdCf D)) where
 irrefl x := by unfold ltOf hdCf; rw [stC_self]; rfl
 trans x y z h1 h2 := by
  unfold ltOf hdCf at *
  rw [decide_eq_true_iff] at *
  have a1 := stC_three (hdAt D x).s (hdAt D y).s
  have a2 := stC_three (hdAt D y).s (hdAt D z).s
  rw [stC_trans (b := (hdAt D y).s) (by omega) (by omega)]; omega
 ntrans x y z h1 h2 := by
  unfold ltOf hdCf at *
  rw [decide_eq_false_iff_not] at *
  intro h3
  have a1 := stC_three (hdAt D x).s (hdAt D y).s
  have a2 := stC_three (hdAt D x).s (hdAt D z).s
  rcases a1 with h | h | h
  ·omega
  ·rw [(stC_zero _ _).1 h] at h3; exact h2 h3
  ·have h4 := stC_neg (hdAt D x).s (hdAt D y).s
   have h5 := stC_trans (a := (hdAt D y).s) (b := (hdAt D x).s) (c := (hdAt D z).s) (by omega) (by omega)
   omega
def hdAll (D : List HdE) : Array (Option (Fin D.length)) := ((List.finRange D.length).map some).toArray
theorem hdAll_size (D : List HdE) : (hdAll D).size = D.length := by unfold hdAll; simp
theorem hdAll_map (D : List HdE) : (hdAll D).toList.map (hdAt D) = D := by
 unfold hdAll
 simp only [List.map_map]
 apply List.ext_getElem
 ·simp
 ·intro i h1 h2
  simp [hdAt]
theorem flatKB_eq (D : List HdE) (d : Array (Option (Fin D.length))) : (Go.Sort.flatK (encHd D) 2 d).toList = flatBr (d.toList.map (hdAt D)) := by
 apply List.ext_getElem?
 intro t
 have hsz : (Go.Sort.flatK (encHd D) 2 d).size = d.size * 2 := Go.Sort.size_flatK _ _ _
 by_cases ht : t < d.size * 2
 ·have hd : t / 2 < d.size := by omega
  have hm : t % 2 < 2 := Nat.mod_lt _ (by decide)
  have h1 := flatBr_get (d.toList.map (hdAt D)) (t / 2) (t % 2) (by simpa using hd) hm
  rw [show t / 2 * 2 + t % 2 = t by omega] at h1
  rw [h1]
  have hs : t < (Go.Sort.flatK (encHd D) 2 d).size := by rw [hsz]; exact ht
  rw [Array.getElem?_toList, Array.getElem?_eq_getElem hs]
  have h2 := Go.Sort.get_flatK (encHd D) 2 d t ht
  rw [getElem!_pos _ t hs] at h2
  rw [h2]
  have e1 : hdAt D d[t / 2]! = (d.toList.map (hdAt D)).getD (t / 2) hd0 := by
   rw [getElem!_pos d (t / 2) hd, List.getD_eq_getElem?_getD, List.getElem?_map, Array.getElem?_toList, Array.getElem?_eq_getElem hd]; rfl
  rw [<- e1]
  unfold encHd
  generalize hdAt D d[t / 2]! = y
  have hl : t % 2 < (brC y).toList.length := by rw [brC_size]; exact hm
  rw [getElem!_pos (brC y).toList (t % 2) hl, <- Array.getElem?_toList, List.getElem?_eq_getElem hl]
 ·rw [List.getElem?_eq_none (by rw [Array.length_toList, hsz]; omega), List.getElem?_eq_none (by rw [flatBr_length]; simp; omega)]
theorem sortW_grown {α : Type} [Inhabited α] (enc : α -> List Value) (k : Nat) (w : World) (g off m : Nat) (d : Array α) (os : Array Obj) : w.grownBy (sortWorldK enc k w g off m d os) (some g) := by
 refine ⟨rfl, rfl, rfl, ?_, fun j hj hne => ?_⟩
 ·unfold sortWorldK Go.Sort.grow Go.Sort.putRowK Go.Sort.putRow Go.Sort.mapBlock Go.Sort.ahead; simp
 ·unfold sortWorldK Go.Sort.grow Go.Sort.putRowK Go.Sort.putRow Go.Sort.mapBlock Go.Sort.ahead
  simp only [Array.getElem?_append, Array.size_modify, hj, if_true, Array.getElem?_modify]
  rw [if_neg (fun e => hne (by rw [e]))]
theorem hdSort_any (D : List HdE) (B B2 cap g : Nat) (w : World) (h : OwnBr w B (.slice (some ⟨g, 0, none⟩) D.length cap) D) (hg : ∃ cur, Blk w g cur 41) (hr : ∀ e ∈ D, OwnIt w B2 e.v e.s) (hl : ∀ e ∈ D, e.s.length <= 1073741824) (hn : D.length <= 1000000) (hnd : (D.map HdE.s).Nodup) :
 Calls Try.prog 56 #[.slice (some ⟨g, 0, none⟩) D.length cap, .func (.func 71) #[] #[]] w (fun e w' => e = .returned (.tuple #[]) /\ ∃ D', D'.Perm D /\ D'.Pairwise (fun a b => stC a.s b.s = -1) /\ OwnBr w' B (.slice (some ⟨g, 0, none⟩) D.length cap) D' /\ w.grownBy w' (some g)) := by
 obtain ⟨cur0, hgb⟩ := hg
 have hF : ∀ d : Array (Option (Fin D.length)), (Go.Sort.flatK (encHd D) 2 d).size = d.size * 2 := fun d => Go.Sort.size_flatK _ _ _
 have hHH : Go.Sort.HoldsK (encHd D) 2 w g 0 (hdAll D) := fun j hj => by
  rw [hF, hdAll_size] at hj
  refine ⟨?_, hgb.frozen _⟩
  obtain ⟨a, c, e1, -, hrow⟩ := h.row
  cases e1
  have hs : j < (Go.Sort.flatK (encHd D) 2 (hdAll D)).size := by rw [hF, hdAll_size]; exact hj
  obtain ⟨b, o, e2, -, hc⟩ := hrow (j / 2) (by omega)
  cases e2
  have h1 := hc (j % 2) (Nat.mod_lt _ (by decide))
  rw [Nat.zero_add, show j / 2 * 2 + j % 2 = j by omega] at h1
  rw [Nat.zero_add, h1, getElem!_pos _ j hs]
  have h2 := flatBr_get D (j / 2) (j % 2) (by omega) (Nat.mod_lt _ (by decide))
  rw [show j / 2 * 2 + j % 2 = j by omega] at h2
  have h3 := flatKB_eq D (hdAll D)
  rw [hdAll_map] at h3
  rw [<- h2, <- h3, Array.getElem?_toList, Array.getElem?_eq_getElem hs]
  rfl
 have hcmp : CmpLays Try.prog 71 #[] (encHd D) 2 (hdCf D) g 0 (hdAll D).size w := fun m os dk hdk x y => by
  have hW := sortW_grown (encHd D) 2 w g 0 m dk os
  generalize sortWorldK (encHd D) 2 w g 0 m dk os = W at *
  have hi : ∀ i, ItRow W (hdAt D i).A (hdAt D i).s /\ (hdAt D i).s.length <= 1073741824 := fun i => by
   cases i with
   | none => exact ⟨ItRow.nil _ _, by simp [hdAt, hd0]⟩
   | some i =>
    have hm : D.get i ∈ D := List.get_mem _ _
    have h1 := World.ownsRow.kept (hr _ hm) hW (.inr (own_not (hr _ hm) hgb (by decide)))
    obtain ⟨a, c, e1, -, h2⟩ := OwnIt.row h1
    unfold HdE.v at e1
    injection e1 with e2
    refine ⟨?_, hl _ hm⟩
    show ItRow W (D.get i).A (D.get i).s
    rw [e2]; exact h2
  have := hdCmp_any (hdAt D x) (hdAt D y) W (hi x).1 (hi y).1 (hi x).2 (hi y).2
  exact this.mono fun e w' hh => hh
 have hc := AnyQ.slices_SortFunc laysSortB 2 (fun w => Try.isAgg41 w) (fun w => Try.sizeOf41 w) (encHd D) (fun _ => rfl) (fun p u hu => flatBr_ones [hdAt D p] u (by unfold flatBr; exact List.mem_append_left _ hu)) (hdCf D) (hd_swo D) 71 #[] g 0 cap (hdAll D) w (enters_of Try.func71 (by kernel_rfl) rfl) hcmp hHH hgb.lt (by rw [hdAll_size]; omega)
 rw [hdAll_size] at hc
 refine hc.mono ?_
 rintro e w' ⟨rfl, d', n, os, hp, hs, rfl⟩
 have hsz : d'.size = D.length := by rw [hp.1, hdAll_size]
 have hperm : d'.toList.Perm (hdAll D).toList := by
  have h1 := hp.2.2
  have e0 : ∀ x : Array (Option (Fin D.length)), x.size = D.length -> (x.extract 0 D.length).toList = x.toList := fun x hx => by
   rw [Array.toList_extract]
   have : x.toList.length = D.length := by rw [Array.length_toList, hx]
   simp [List.extract, List.take_of_length_le, this]
  rw [e0 _ hsz, e0 _ (hdAll_size D)] at h1
  exact h1
 have hD : (d'.toList.map (hdAt D)).Perm D := by
  have := hperm.map (hdAt D)
  rwa [hdAll_map] at this
 refine ⟨rfl, d'.toList.map (hdAt D), hD, ?_, ?_, sortW_grown _ _ _ _ _ _ _ _⟩
 ·have hnd2 : ((d'.toList.map (hdAt D)).map HdE.s).Nodup := (hD.map HdE.s).nodup_iff.2 hnd
  rw [List.pairwise_iff_getElem]
  intro i j hi hj hij
  rw [List.length_map, Array.length_toList] at hi hj
  have h1 := hs i j (Nat.zero_le _) hij (by rw [<- hsz]; exact hj)
  unfold ltOf hdCf at h1
  rw [decide_eq_false_iff_not, getElem!_pos d' i hi, getElem!_pos d' j hj] at h1
  simp only [List.getElem_map, Array.getElem_toList]
  have h2 : (hdAt D d'[i]).s ≠ (hdAt D d'[j]).s := fun e => by
   have := (List.pairwise_iff_getElem.1 hnd2) i j (by simpa using hi) (by simpa using hj) hij
   simp only [List.getElem_map, Array.getElem_toList] at this
   exact this e
  have h3 := stC_three (hdAt D d'[j]).s (hdAt D d'[i]).s
  have h4 := stC_neg (hdAt D d'[i]).s (hdAt D d'[j]).s
  rcases h3 with h3 | h3 | h3
  ·omega
  ·exact absurd ((stC_zero _ _).1 h3).symm h2
  ·omega
 ·obtain ⟨h0, ⟨hv, hn0⟩ | ⟨g2, cap2, cur, hv, hb, hgg, hcc, hmm, hss, htt⟩⟩ := h
  ·cases hv
  ·cases hv
   have hF2 := hF d'
   obtain ⟨F, hFe⟩ : ∃ F, F = Go.Sort.flatK (encHd D) 2 d' := ⟨_, rfl⟩
   have hgb2 : w.heap[g]? = some (Obj.cells cur 41) := hgg
   have hheap : (sortWorldK (encHd D) 2 w g 0 n d' os).heap[g]? = some (Obj.cells (Go.Sort.putCells id 0 F cur) 41) := by
    have hlt : g < w.heap.size := hgb.lt
    unfold sortWorldK Go.Sort.grow Go.Sort.putRowK Go.Sort.putRow Go.Sort.mapBlock Go.Sort.ahead
    simp only [Array.getElem?_append, Array.size_modify, hlt, if_true, Array.getElem?_modify]
    rw [hgb2, <- hFe]; rfl
   have hlen : (d'.toList.map (hdAt D)).length = D.length := by rw [List.length_map, Array.length_toList, hsz]
   refine ⟨flatBr_length _, .inr ⟨g, cap, Go.Sort.putCells id 0 F cur, by rw [hlen], hb, hheap, by rw [hlen]; exact hcc, hmm, by unfold Go.Sort.putCells; rw [Array.size_mapIdx]; exact hss, ?_⟩⟩
   rw [hlen, <- flatKB_eq]
   apply List.ext_getElem?
   intro t
   by_cases ht : t < D.length * 2
   ·rw [List.getElem?_take, if_pos ht, Array.getElem?_toList]
    unfold Go.Sort.putCells
    have htc : t < cur.size := by have := Nat.mul_le_mul_right 2 hcc; omega
    rw [Array.getElem?_mapIdx, Array.getElem?_eq_getElem htc, Option.map_some, if_pos ⟨Nat.zero_le _, by rw [hFe, hF2, hsz]; omega⟩, Nat.sub_zero, Array.getElem?_toList, <- hFe, Array.getElem?_eq_getElem (by rw [hFe, hF2, hsz]; exact ht), getElem!_pos _ t (by rw [hFe, hF2, hsz]; exact ht)]; rfl
   ·rw [List.getElem?_take, if_neg ht, List.getElem?_eq_none (by rw [Array.length_toList, hF2, hsz]; omega)]
theorem nxCmp_any (x y : HdE) (W : World) (hx : ItRow W x.A x.s) (hy : ItRow W y.A y.s) (h1 : x.s.length <= 1073741824) (h2 : y.s.length <= 1073741824) :
 Calls Try.prog 57 #[.agg (brC x), .agg (brC y)] W (AnsGd W (.int .i64 (stC x.s y.s))) := by
 have hb1 := GrwD.alloc W (.cells (brC x) 41)
 have hb2 := GrwD.alloc (W.alloc (.cells (brC x) 41)) (.cells (brC y) 41)
 have HB := Lib.hid (hb1.trans hb2)
 have HX := Lib.hid ((Blk.new W (brC x) 41).later hb2.below)
 have HY := Lib.hid (Blk.new (W.alloc (.cells (brC x) 41)) (brC y) 41)
 have HC := Lib.hid (icompareD x.s y.s x.A y.A x.cap y.cap _ (hx.later HB.out.below) (hy.later HB.out.below) h1 h2)
 rw [World.size_alloc] at HY
 clear hb1 hb2 hx hy
 go_enter Try.func57, Try.ntmps57
 go_upto_region 1 with (fail)
 unfold brC at HX HY HB HC ⊢
 generalize (W.alloc (.cells #[.slice x.A x.s.length x.cap, .int .i64 (x.many : Int)] 41)).alloc (.cells #[.slice y.A y.s.length y.cap, .int .i64 (y.many : Int)] 41) = w1 at *
 have c0 := HX.out.cell 0
 have d0 := HY.out.cell 0
 simp at c0 d0
 go_wp2_with fail
 refine HC.out.mono ?_
 rintro e w2 ⟨rfl, hg⟩
 have HG := Lib.hid (HB.out.trans hg)
 clear hg HC
 generalize stC x.s y.s = q at *
 go_wp2
 go_ret
 exact ⟨rfl, HG.out⟩
theorem nxSortA_any (D : List HdE) (B B2 cap g : Nat) (w : World) (h : OwnBr w B (.slice (some ⟨g, 0, none⟩) D.length cap) D) (hg : ∃ cur, Blk w g cur 41) (hr : ∀ e ∈ D, OwnIt w B2 e.v e.s) (hl : ∀ e ∈ D, e.s.length <= 1073741824) (hn : D.length <= 1000000) :
 Calls Try.prog 56 #[.slice (some ⟨g, 0, none⟩) D.length cap, .func (.func 57) #[] #[]] w (fun e w' => e = .returned (.tuple #[]) /\ ∃ D', D'.Perm D /\ D'.Pairwise (fun a b => stC a.s b.s <= 0) /\ OwnBr w' B (.slice (some ⟨g, 0, none⟩) D.length cap) D' /\ w.grownBy w' (some g)) := by
 obtain ⟨cur0, hgb⟩ := hg
 have hF : ∀ d : Array (Option (Fin D.length)), (Go.Sort.flatK (encHd D) 2 d).size = d.size * 2 := fun d => Go.Sort.size_flatK _ _ _
 have hHH : Go.Sort.HoldsK (encHd D) 2 w g 0 (hdAll D) := fun j hj => by
  rw [hF, hdAll_size] at hj
  refine ⟨?_, hgb.frozen _⟩
  obtain ⟨a, c, e1, -, hrow⟩ := h.row
  cases e1
  have hs : j < (Go.Sort.flatK (encHd D) 2 (hdAll D)).size := by rw [hF, hdAll_size]; exact hj
  obtain ⟨b, o, e2, -, hc⟩ := hrow (j / 2) (by omega)
  cases e2
  have h1 := hc (j % 2) (Nat.mod_lt _ (by decide))
  rw [Nat.zero_add, show j / 2 * 2 + j % 2 = j by omega] at h1
  rw [Nat.zero_add, h1, getElem!_pos _ j hs]
  have h2 := flatBr_get D (j / 2) (j % 2) (by omega) (Nat.mod_lt _ (by decide))
  rw [show j / 2 * 2 + j % 2 = j by omega] at h2
  have h3 := flatKB_eq D (hdAll D)
  rw [hdAll_map] at h3
  rw [<- h2, <- h3, Array.getElem?_toList, Array.getElem?_eq_getElem hs]
  rfl
 have hcmp : CmpLays Try.prog 57 #[] (encHd D) 2 (hdCf D) g 0 (hdAll D).size w := fun m os dk hdk x y => by
  have hW := sortW_grown (encHd D) 2 w g 0 m dk os
  generalize sortWorldK (encHd D) 2 w g 0 m dk os = W at *
  have hi : ∀ i, ItRow W (hdAt D i).A (hdAt D i).s /\ (hdAt D i).s.length <= 1073741824 := fun i => by
   cases i with
   | none => exact ⟨ItRow.nil _ _, by simp [hdAt, hd0]⟩
   | some i =>
    have hm : D.get i ∈ D := List.get_mem _ _
    have h1 := World.ownsRow.kept (hr _ hm) hW (.inr (own_not (hr _ hm) hgb (by decide)))
    obtain ⟨a, c, e1, -, h2⟩ := OwnIt.row h1
    unfold HdE.v at e1
    injection e1 with e2
    refine ⟨?_, hl _ hm⟩
    show ItRow W (D.get i).A (D.get i).s
    rw [e2]; exact h2
  have := nxCmp_any (hdAt D x) (hdAt D y) W (hi x).1 (hi y).1 (hi x).2 (hi y).2
  exact this.mono fun e w' hh => hh
 have hc := AnyQ.slices_SortFunc laysSortB 2 (fun w => Try.isAgg41 w) (fun w => Try.sizeOf41 w) (encHd D) (fun _ => rfl) (fun p u hu => flatBr_ones [hdAt D p] u (by unfold flatBr; exact List.mem_append_left _ hu)) (hdCf D) (hd_swo D) 57 #[] g 0 cap (hdAll D) w (enters_of Try.func57 (by kernel_rfl) rfl) hcmp hHH hgb.lt (by rw [hdAll_size]; omega)
 rw [hdAll_size] at hc
 refine hc.mono ?_
 rintro e w' ⟨rfl, d', n, os, hp, hs, rfl⟩
 have hsz : d'.size = D.length := by rw [hp.1, hdAll_size]
 have hperm : d'.toList.Perm (hdAll D).toList := by
  have h1 := hp.2.2
  have e0 : ∀ x : Array (Option (Fin D.length)), x.size = D.length -> (x.extract 0 D.length).toList = x.toList := fun x hx => by
   rw [Array.toList_extract]
   have : x.toList.length = D.length := by rw [Array.length_toList, hx]
   simp [List.extract, List.take_of_length_le, this]
  rw [e0 _ hsz, e0 _ (hdAll_size D)] at h1
  exact h1
 have hD : (d'.toList.map (hdAt D)).Perm D := by
  have := hperm.map (hdAt D)
  rwa [hdAll_map] at this
 refine ⟨rfl, d'.toList.map (hdAt D), hD, ?_, ?_, sortW_grown _ _ _ _ _ _ _ _⟩
 ·rw [List.pairwise_iff_getElem]
  intro i j hi hj hij
  rw [List.length_map, Array.length_toList] at hi hj
  have h1 := hs i j (Nat.zero_le _) hij (by rw [<- hsz]; exact hj)
  unfold ltOf hdCf at h1
  rw [decide_eq_false_iff_not, getElem!_pos d' i hi, getElem!_pos d' j hj] at h1
  simp only [List.getElem_map, Array.getElem_toList]
  have h4 := stC_neg (hdAt D d'[i]).s (hdAt D d'[j]).s
  omega
 ·obtain ⟨h0, ⟨hv, hn0⟩ | ⟨g2, cap2, cur, hv, hb, hgg, hcc, hmm, hss, htt⟩⟩ := h
  ·cases hv
  ·cases hv
   have hF2 := hF d'
   obtain ⟨F, hFe⟩ : ∃ F, F = Go.Sort.flatK (encHd D) 2 d' := ⟨_, rfl⟩
   have hgb2 : w.heap[g]? = some (Obj.cells cur 41) := hgg
   have hheap : (sortWorldK (encHd D) 2 w g 0 n d' os).heap[g]? = some (Obj.cells (Go.Sort.putCells id 0 F cur) 41) := by
    have hlt : g < w.heap.size := hgb.lt
    unfold sortWorldK Go.Sort.grow Go.Sort.putRowK Go.Sort.putRow Go.Sort.mapBlock Go.Sort.ahead
    simp only [Array.getElem?_append, Array.size_modify, hlt, if_true, Array.getElem?_modify]
    rw [hgb2, <- hFe]; rfl
   have hlen : (d'.toList.map (hdAt D)).length = D.length := by rw [List.length_map, Array.length_toList, hsz]
   refine ⟨flatBr_length _, .inr ⟨g, cap, Go.Sort.putCells id 0 F cur, by rw [hlen], hb, hheap, by rw [hlen]; exact hcc, hmm, by unfold Go.Sort.putCells; rw [Array.size_mapIdx]; exact hss, ?_⟩⟩
   rw [hlen, <- flatKB_eq]
   apply List.ext_getElem?
   intro t
   by_cases ht : t < D.length * 2
   ·rw [List.getElem?_take, if_pos ht, Array.getElem?_toList]
    unfold Go.Sort.putCells
    have htc : t < cur.size := by have := Nat.mul_le_mul_right 2 hcc; omega
    rw [Array.getElem?_mapIdx, Array.getElem?_eq_getElem htc, Option.map_some, if_pos ⟨Nat.zero_le _, by rw [hFe, hF2, hsz]; omega⟩, Nat.sub_zero, Array.getElem?_toList, <- hFe, Array.getElem?_eq_getElem (by rw [hFe, hF2, hsz]; exact ht), getElem!_pos _ t (by rw [hFe, hF2, hsz]; exact ht)]; rfl
   ·rw [List.getElem?_take, if_neg ht, List.getElem?_eq_none (by rw [Array.length_toList, hF2, hsz]; omega)]
theorem nxSort_any (D : List HdE) (B B2 : Nat) (v : Value) (w : World) (h : OwnBr w B v D) (hr : ∀ e ∈ D, OwnIt w B2 e.v e.s) (hl : ∀ e ∈ D, e.s.length <= 1073741824) (hn : D.length <= 1000000) :
 Calls Try.prog 56 #[v, .func (.func 57) #[] #[]] w (fun e w' => e = .returned (.tuple #[]) /\ ∃ D', D'.Perm D /\ D'.Pairwise (fun a b => stC a.s b.s <= 0) /\ OwnBr w' B v D' /\ w.grownBy w' v.ownBlock) := by
 have h' := h
 obtain ⟨_, ⟨hv, hn0⟩ | ⟨g, cap, cur, hv, -, hgg, -⟩⟩ := h
 ·subst hv
  have hD : D = [] := List.length_eq_zero_iff.1 hn0
  subst hD
  refine (AnyF.slices_SortFunc_none laysSortB none 0 _ w).mono ?_
  rintro e w' ⟨rfl, rfl⟩
  exact ⟨rfl, [], List.Perm.refl _, List.Pairwise.nil, h', World.grownBy.refl _ _⟩
 ·subst hv
  exact nxSortA_any D B B2 cap g w h' ⟨cur, hgg⟩ hr hl hn
end Go.Proofs.Ytidoofdofdhjpaa
namespace Go.Proofs.Ytidoofdofdhjpaa
open Go
set_option linter.unusedVariables false
set_option linter.unusedSimpArgs false
abbrev Spn := Int × Int
def mxS : Int := 1099511627776
def bndS (n : Int) : Int := if mxS < n then -1 else n
def repS (lo hi : Int) (p : Spn) : Spn :=
 if p.1 < 0 then (if 0 < lo then (-1, -1) else (0, 0))
 else if hi = 0 then (0, 0)
 else (min mxS (p.1 * lo), if p.2 < 0 then -1 else bndS (p.2 * hi))
def frmS (most head : Int) (p : Spn) : Spn :=
 if p.1 < 0 \/ most < p.1 then (-1, -1) else (p.1 + head, (if p.2 < 0 \/ most < p.2 then most else p.2) + head)
def onePs (kind lo hi : Int) (p : Spn) : Spn :=
 if kind = 6 then (if p.1 < 0 \/ p.2 = 0 then (0, 0) else (0, -1))
 else if kind = 7 then repS lo hi p
 else if kind = 8 then frmS 255 1 p
 else frmS 65535 2 p
def seqS (p q : Spn) : Spn :=
 if p.1 < 0 \/ q.1 < 0 then (-1, -1) else (min mxS (p.1 + q.1), if p.2 < 0 \/ q.2 < 0 then -1 else bndS (p.2 + q.2))
def orS (p q : Spn) : Spn :=
 if p.1 < 0 then q else if q.1 < 0 then p else (min p.1 q.1, if p.2 < 0 \/ q.2 < 0 then -1 else max p.2 q.2)
def twoPs (kind : Int) (p q : Spn) : Spn := if kind = 4 then seqS p q else orS p q
def leafPs (n : Nd) : Spn := if n.kind = 1 then (0, 0) else if n.kind = 2 then (if n.cls = 0 then (-1, -1) else (1, 1)) else ((n.text.length : Int), (n.text.length : Int))
def pairS (S : List Spn) (a : Int) : Spn := if 0 <= a /\ a < (S.length : Int) then S.getD a.toNat (-1, -1) else (-1, -1)
def spanS (n : Nd) (S : List Spn) : Spn :=
 if n.kind = 1 \/ n.kind = 2 \/ n.kind = 3 then leafPs n
 else if n.kind = 4 \/ n.kind = 5 then twoPs n.kind (pairS S n.a) (pairS S n.b)
 else onePs n.kind n.lo n.hi (pairS S n.a)
def sps (l : List Nd) : Nat -> List Spn
 | 0 => []
 | k + 1 => sps l k ++ [spanS (atN l k) (sps l k)]
def spN (l : List Nd) (i : Nat) : Spn := spanS (atN l i) (sps l i)
theorem sps_length (l : List Nd) : ∀ k, (sps l k).length = k
 | 0 => rfl
 | k + 1 => by rw [sps, List.length_append, sps_length l k]; rfl
theorem sps_get (l : List Nd) : ∀ k j, j < k -> (sps l k).getD j (-1, -1) = spN l j
 | 0, j, h => absurd h (Nat.not_lt_zero j)
 | k + 1, j, h => by
  rw [sps, List.getD_eq_getElem?_getD]
  rcases Nat.lt_or_ge j k with h1 | h1
  ·rw [List.getElem?_append_left (by rw [sps_length]; exact h1), <- List.getD_eq_getElem?_getD]; exact sps_get l k j h1
  ·rw [List.getElem?_append_right (by rw [sps_length]; exact h1), sps_length, show j = k by omega, Nat.sub_self]; rfl
theorem pairS_at {l : List Nd} {i : Nat} {a : Int} (h0 : 0 <= a) (h1 : a < (i : Int)) : pairS (sps l i) a = spN l a.toNat := by
 unfold pairS
 rw [sps_length, if_pos ⟨h0, h1⟩, sps_get l i _ (by omega)]
theorem spN_leaf {l : List Nd} {i : Nat} (hk : leafK (atN l i).kind) : spN l i = leafPs (atN l i) := by
 unfold leafK at hk
 unfold spN spanS
 rw [if_pos hk]
theorem spN_one {l : List Nd} {i : Nat} (h : 0 < i) (hk : 6 <= (atN l i).kind /\ (atN l i).kind <= 9) (ha : (atN l i).a = (i : Int) - 1) : spN l i = onePs (atN l i).kind (atN l i).lo (atN l i).hi (spN l (i - 1)) := by
 unfold spN spanS
 rw [if_neg (by omega), if_neg (by omega), pairS_at (by omega) (by omega), show (atN l i).a.toNat = i - 1 by omega]; rfl
theorem spN_two {l : List Nd} {i p : Nat} (h : 0 < i) (hk : (atN l i).kind = 4 \/ (atN l i).kind = 5) (ha : (atN l i).a = (p : Int)) (hp : p < i) (hb : (atN l i).b = (i : Int) - 1) : spN l i = twoPs (atN l i).kind (spN l p) (spN l (i - 1)) := by
 unfold spN spanS
 rw [if_neg (by omega), if_pos hk, pairS_at (by omega) (by omega), pairS_at (by omega) (by omega), show (atN l i).a.toNat = p by omega, show (atN l i).b.toNat = i - 1 by omega]; rfl
def SpOk (p : Spn) : Prop := (p.1 = -1 /\ p.2 = -1) \/ (0 <= p.1 /\ (p.2 = -1 \/ p.1 <= p.2))
theorem bndS_cases (n : Int) : bndS n = -1 \/ (bndS n = n /\ n <= mxS) := by unfold bndS; split <;> omega
theorem repS_ok {lo hi : Int} {p : Spn} (h : SpOk p) (h0 : 0 <= lo) (h1 : lo <= hi) : SpOk (repS lo hi p) := by
 unfold repS
 split
 ·split
  ·exact .inl ⟨rfl, rfl⟩
  ·exact .inr ⟨by simp, .inr (by simp)⟩
 ·split
  ·exact .inr ⟨by simp, .inr (by simp)⟩
  ·rename_i h2 h3
   rcases h with h | ⟨h4, h5⟩
   ·omega
   ·have hm : 0 <= p.1 * lo := Int.mul_nonneg h4 h0
    refine .inr ⟨by show 0 <= min mxS _; unfold mxS; omega, ?_⟩
    show (if p.2 < 0 then (-1 : Int) else bndS (p.2 * hi)) = -1 \/ min mxS (p.1 * lo) <= _
    split
    ·exact .inl rfl
    ·rename_i h6
     have hle : p.1 * lo <= p.2 * hi := Int.mul_le_mul (by omega) h1 h0 (by omega)
     rcases bndS_cases (p.2 * hi) with h7 | ⟨h7, h8⟩
     ·exact .inl h7
     ·right; show min mxS (p.1 * lo) <= bndS (p.2 * hi); rw [h7]; omega
theorem frmS_ok {most head : Int} {p : Spn} (h : SpOk p) (h0 : 0 <= most) (h1 : 0 < head) : SpOk (frmS most head p) := by
 unfold frmS
 split
 ·exact .inl ⟨rfl, rfl⟩
 ·rename_i h2
  refine .inr ⟨by show 0 <= p.1 + head; omega, .inr ?_⟩
  show p.1 + head <= (if p.2 < 0 \/ most < p.2 then most else p.2) + head
  rcases h with h | ⟨h4, h5⟩
  ·omega
  ·split <;> omega
theorem onePs_ok {kind lo hi : Int} {p : Spn} (h : SpOk p) (h7 : kind = 7 -> 0 <= lo /\ lo <= hi) : SpOk (onePs kind lo hi p) := by
 unfold onePs
 split
 ·split
  ·exact .inr ⟨by simp, .inr (by simp)⟩
  ·exact .inr ⟨by simp, .inl rfl⟩
 ·split
  ·rename_i h2; exact repS_ok h (h7 h2).1 (h7 h2).2
  ·split
   ·exact frmS_ok h (by decide) (by decide)
   ·exact frmS_ok h (by decide) (by decide)
theorem seqS_ok {p q : Spn} (h : SpOk p) (k : SpOk q) : SpOk (seqS p q) := by
 unfold seqS
 split
 ·exact .inl ⟨rfl, rfl⟩
 ·rename_i h2
  rcases h with h | ⟨h4, h5⟩
  ·omega
  ·rcases k with k | ⟨k4, k5⟩
   ·omega
   ·refine .inr ⟨by show 0 <= min mxS _; unfold mxS; omega, ?_⟩
    show (if p.2 < 0 \/ q.2 < 0 then (-1 : Int) else bndS (p.2 + q.2)) = -1 \/ min mxS (p.1 + q.1) <= (if p.2 < 0 \/ q.2 < 0 then (-1 : Int) else bndS (p.2 + q.2))
    split
    ·exact .inl rfl
    ·rcases bndS_cases (p.2 + q.2) with h7 | ⟨h7, h8⟩
     ·exact .inl h7
     ·right; rw [h7]; omega
theorem orS_ok {p q : Spn} (h : SpOk p) (k : SpOk q) : SpOk (orS p q) := by
 unfold orS
 split
 ·exact k
 ·split
  ·exact h
  ·rename_i h2 h3
   rcases h with h | ⟨h4, h5⟩
   ·omega
   ·rcases k with k | ⟨k4, k5⟩
    ·omega
    ·refine .inr ⟨by show 0 <= min p.1 q.1; omega, ?_⟩
     show (if p.2 < 0 \/ q.2 < 0 then (-1 : Int) else max p.2 q.2) = -1 \/ min p.1 q.1 <= (if p.2 < 0 \/ q.2 < 0 then (-1 : Int) else max p.2 q.2)
     split
     ·exact .inl rfl
     ·right; omega
theorem leafPs_ok (n : Nd) : SpOk (leafPs n) := by
 unfold leafPs
 split
 ·exact .inr ⟨by simp, .inr (by simp)⟩
 ·split
  ·split
   ·exact .inl ⟨rfl, rfl⟩
   ·exact .inr ⟨by simp, .inr (by simp)⟩
  ·exact .inr ⟨by simp, .inr (by simp)⟩
theorem spN_ok {l : List Nd} (hF : Form l) : ∀ i, i < l.length -> SpOk (spN l i) := fun i => by
 induction i using Nat.strongRecOn with
 | ind i ih =>
  intro hi0
  have ho := hF.2.1 i hi0
  obtain ⟨n, hn⟩ : ∃ n, atN l i = n := ⟨_, rfl⟩
  have ho2 := ho
  rw [hn] at ho
  cases ho.cs hn with
  | leaf hk hf => rw [spN_leaf (by rw [hn]; exact hk)]; exact leafPs_ok _
  | one hk hi ha hb h7 hr hc hf =>
   rw [spN_one hi (by rw [hn]; exact hk) (by rw [hn]; exact ha), hn]
   refine onePs_ok (ih _ (by omega) (by omega)) (fun h => ?_)
   unfold okN at ho
   omega
  | two hk hi hb ha hf0 hl hc hf =>
   have hle := firstP_le l (i - 1)
   rw [spN_two (p := firstP l (i - 1) - 1) hi (by rw [hn]; exact hk) (by rw [hn]; omega) (by omega) (by rw [hn]; exact hb), hn]
   unfold twoPs
   split
   ·exact seqS_ok (ih _ (by omega) (by omega)) (ih _ (by omega) (by omega))
   ·exact orS_ok (ih _ (by omega) (by omega)) (ih _ (by omega) (by omega))
theorem onePs_zero {kind lo hi : Int} {p : Spn} {a : Nat} (h : SpOk p) (hz : p.1 = 0 ↔ 0 < a) (hk : 6 <= kind /\ kind <= 9) (ha : kind = 6 \/ kind = 7 -> a = 0) (h7 : kind = 7 -> 0 <= lo /\ lo <= hi) : (onePs kind lo hi p).1 = 0 ↔ 0 < oneW kind lo hi a := by
 unfold onePs oneW
 by_cases k6 : kind = 6
 ·rw [if_pos k6, if_pos k6]
  have := ha (.inl k6)
  constructor
  ·intro _; omega
  ·intro _; split <;> rfl
 ·rw [if_neg k6, if_neg k6]
  by_cases k7 : kind = 7
  ·rw [if_pos k7, if_pos k7]
   obtain ⟨h0, h1⟩ := h7 k7
   have hza := ha (.inr k7)
   subst hza
   have hp : p.1 ≠ 0 := fun e => absurd (hz.1 e) (Nat.lt_irrefl _)
   have e1 : 0 < tmsW 0 lo hi ↔ lo = 0 := by
    unfold tmsW powW
    by_cases hl : lo = 0
    ·rw [if_pos hl]; constructor
     ·intro _; exact hl
     ·intro _; omega
    ·rw [if_neg hl, if_neg (show ¬ lo + 1 = 0 by omega)]; constructor
     ·intro hh; simp at hh
     ·intro hh; exact absurd hh hl
   rw [e1]
   unfold repS
   split
   ·split
    ·constructor
     ·intro hh; exact absurd hh (by decide)
     ·intro hh; omega
    ·constructor
     ·intro _; omega
     ·intro _; rfl
   ·rename_i h2
    split
    ·constructor
     ·intro _; omega
     ·intro _; rfl
    ·show min mxS (p.1 * lo) = 0 ↔ lo = 0
     have hp1 : 1 <= p.1 := by omega
     constructor
     ·intro hh
      have hm : lo <= p.1 * lo := by
       have := Int.mul_le_mul_of_nonneg_right hp1 h0
       omega
      unfold mxS at hh
      omega
     ·intro hh; rw [hh, Int.mul_zero]; rfl
  ·rw [if_neg k7, if_neg k7]
   have key : ∀ most head : Int, 0 < head -> ((frmS most head p).1 = 0 ↔ 0 < 0) := fun most head hh => by
    unfold frmS
    split
    ·constructor
     ·intro hx; exact absurd hx (by decide)
     ·intro hx; omega
    ·constructor
     ·intro hx
      have hx : p.1 + head = 0 := hx
      omega
     ·intro hx; omega
   split
   ·exact key 255 1 (by decide)
   ·exact key 65535 2 (by decide)
theorem twoPs_zero {kind : Int} {p q : Spn} {a b : Nat} (h : SpOk p) (k : SpOk q) (hz : p.1 = 0 ↔ 0 < a) (kz : q.1 = 0 ↔ 0 < b) (hk : kind = 4 \/ kind = 5) : (twoPs kind p q).1 = 0 ↔ 0 < twoW kind a b := by
 unfold twoPs twoW
 unfold SpOk at h k
 by_cases k4 : kind = 4
 ·rw [if_pos k4, if_pos k4]
  have e : 0 < min (a * b) 2 ↔ 0 < a /\ 0 < b := by
   rw [Nat.lt_min]
   constructor
   ·intro ⟨h1, _⟩; exact ⟨Nat.pos_of_mul_pos_right h1, Nat.pos_of_mul_pos_left h1⟩
   ·intro ⟨h1, h2⟩; exact ⟨Nat.mul_pos h1 h2, by decide⟩
  rw [e, <- hz, <- kz]
  unfold seqS
  split
  ·constructor
   ·intro hx; exact absurd hx (by decide)
   ·intro hx; omega
  ·show min mxS (p.1 + q.1) = 0 ↔ _
   unfold mxS
   omega
 ·rw [if_neg k4, if_neg k4]
  have e : 0 < min (a + b) 2 ↔ 0 < a \/ 0 < b := by omega
  rw [e, <- hz, <- kz]
  unfold orS
  split
  ·omega
  ·split
   ·omega
   ·show min p.1 q.1 = 0 ↔ _
    omega
theorem leafPs_zero {l : List Nd} {i : Nat} {n : Nd} (hk : leafK n.kind) (ho : okN l i n) : (leafPs n).1 = 0 ↔ 0 < leafW n := by
 unfold leafPs leafW
 unfold leafK at hk
 by_cases h1 : n.kind = 1
 ·rw [if_pos h1, if_pos h1]; simp
 ·rw [if_neg h1, if_neg h1]
  by_cases h2 : n.kind = 2
  ·rw [if_pos h2]
   split
   ·constructor
    ·intro hx; exact absurd hx (by decide)
    ·intro hx; omega
   ·constructor
    ·intro hx; exact absurd hx (by decide)
    ·intro hx; omega
  ·rw [if_neg h2]
   have h3 : n.kind = 3 := by omega
   have ht : textOk n.text = true := by
    obtain ⟨_, h | h | ⟨_, h⟩ | ⟨h, _⟩ | ⟨h, _⟩ | ⟨h, _⟩⟩ := ho
    ·omega
    ·omega
    ·exact h
    ·omega
    ·omega
    ·omega
   have hne : n.text ≠ [] := by
    unfold textOk at ht
    simp at ht
    exact ht.1.1
   have := List.length_pos_iff.2 hne
   show (n.text.length : Int) = 0 ↔ 0 < 0
   omega
theorem spN_zero {l : List Nd} (hR : Rgt l) : ∀ i, i < l.length -> ((spN l i).1 = 0 ↔ 0 < wyN l i) := fun i => by
 have hF := hR.1
 induction i using Nat.strongRecOn with
 | ind i ih =>
  intro hi0
  have ho := hF.2.1 i hi0
  have hr9 := (rgt_iff hF).1 hR i hi0
  obtain ⟨n, hn⟩ : ∃ n, atN l i = n := ⟨_, rfl⟩
  rw [hn] at ho hr9
  cases ho.cs hn with
  | leaf hk hf => rw [spN_leaf (by rw [hn]; exact hk), wyN_leaf (by rw [hn]; exact hk), hn]; exact leafPs_zero hk ho
  | one hk hi ha hb h7 hr hc hf =>
   rw [spN_one hi (by rw [hn]; exact hk) (by rw [hn]; exact ha), wyN_one hi (by rw [hn]; exact hk) (by rw [hn]; exact ha), hn]
   refine onePs_zero (spN_ok hF _ (by omega)) (ih _ (by omega) (by omega)) hk hr9 (fun h => ?_)
   unfold okN at ho
   omega
  | two hk hi hb ha hf0 hl hc hf =>
   have hle := firstP_le l (i - 1)
   rw [spN_two (p := firstP l (i - 1) - 1) hi (by rw [hn]; exact hk) (by rw [hn]; omega) (by omega) (by rw [hn]; exact hb), wyN_two (p := firstP l (i - 1) - 1) hi (by rw [hn]; exact hk) (by rw [hn]; omega) (by omega) (by rw [hn]; exact hb), hn]
   exact twoPs_zero (spN_ok hF _ (by omega)) (spN_ok hF _ (by omega)) (ih _ (by omega) (by omega)) (ih _ (by omega) (by omega)) hk
inductive Vs where
 | nil
 | cons (kind : Int) (byte : UInt8) (text : List UInt8) (pick : Int) (kids : Vs) (rest : Vs)
structure Vl where
 kind : Int
 byte : UInt8
 text : List UInt8
 pick : Int
 kids : Vs
def vl0 : Vl := ⟨0, 0, [], 0, .nil⟩
def Vs.list : Vs -> List Vl
 | .nil => []
 | .cons k b t p ks r => ⟨k, b, t, p, ks⟩ :: r.list
def Vs.of : List Vl -> Vs
 | [] => .nil
 | v :: vs => .cons v.kind v.byte v.text v.pick v.kids (Vs.of vs)
theorem Vs.of_list : ∀ s, Vs.of s.list = s
 | .nil => rfl
 | .cons k b t p ks r => by rw [Vs.list, Vs.of, Vs.of_list r]
theorem Vs.list_of : ∀ l, (Vs.of l).list = l
 | [] => rfl
 | v :: l => by rw [Vs.of, Vs.list, Vs.list_of l]
def Vs.len (s : Vs) : Nat := s.list.length
def Vs.at (s : Vs) (j : Nat) : Vl := s.list.getD j vl0
def cntVs : Vs -> Nat
 | .nil => 0
 | .cons _ _ _ _ ks r => 1 + cntVs ks + cntVs r
def cntV (v : Vl) : Nat := 1 + cntVs v.kids
theorem cntVs_at : ∀ (s : Vs) (j : Nat), j < s.len -> cntV (s.at j) <= cntVs s
 | .nil, j, h => absurd h (Nat.not_lt_zero j)
 | .cons k b t p ks r, 0, h => by show 1 + cntVs ks <= _; rw [cntVs]; omega
 | .cons k b t p ks r, j + 1, h => by
  have := cntVs_at r j (by unfold Vs.len at h ⊢; rw [Vs.list, List.length_cons] at h; omega)
  have e : (Vs.cons k b t p ks r).at (j + 1) = r.at j := rfl
  rw [e, cntVs]; omega
theorem cntV_kid {v : Vl} {i : Nat} (h : i < v.kids.len) : cntV (v.kids.at i) < cntV v := by
 have := cntVs_at v.kids i h
 unfold cntV at this ⊢
 omega
theorem Vs.at_get {s : Vs} {i : Nat} (h : i < s.len) : s.list[i]? = some (s.at i) := by
 unfold Vs.at Vs.len at *
 rw [List.getD_eq_getElem?_getD, List.getElem?_eq_getElem h]; rfl
theorem Vs.mem_at {s : Vs} {v : Vl} (h : v ∈ s.list) : ∃ i, i < s.len /\ s.at i = v := by
 obtain ⟨i, hi, rfl⟩ := List.mem_iff_getElem.1 h
 exact ⟨i, hi, by unfold Vs.at; rw [List.getD_eq_getElem?_getD, List.getElem?_eq_getElem hi]; rfl⟩
theorem Vl.kids_ind {P : Vl -> Prop} (h : ∀ v, (∀ x ∈ v.kids.list, P x) -> P v) : ∀ v, P v := fun v => by
 generalize hn : cntV v = n
 induction n using Nat.strongRecOn generalizing v with
 | ind n ih =>
  refine h v (fun x hx => ?_)
  obtain ⟨i, hi, rfl⟩ := Vs.mem_at hx
  exact ih _ (by have := cntV_kid hi; omega) _ rfl
def kidN (n : Nd) (p : Int) (j : Nat) : Int := if n.kind = 4 /\ j = 1 \/ n.kind = 5 /\ p = 1 then n.b else n.a
def headV (n : Nd) (k : Int) (b : UInt8) (t : List UInt8) (p : Int) (c : Nat) : Prop :=
 k = n.kind /\ (n.kind ≠ 2 -> b = 0) /\ (n.kind = 2 -> n.cls.getLsbD b.toNat = true) /\ t = (if n.kind = 3 then n.text else []) /\ (p = 0 \/ (n.kind = 5 /\ p = 1)) /\
   (n.kind = 1 \/ n.kind = 2 \/ n.kind = 3 -> c = 0) /\ (n.kind = 4 -> c = 2) /\ (n.kind = 5 \/ n.kind = 8 \/ n.kind = 9 -> c = 1) /\ (n.kind = 7 -> n.lo <= (c : Int) /\ (c : Int) <= n.hi)
instance (n : Nd) (k : Int) (b : UInt8) (t : List UInt8) (p : Int) (c : Nat) : Decidable (headV n k b t p c) := by unfold headV; infer_instance
abbrev Wd := List UInt8
def catW : List (Option Wd) -> Option Wd
 | [] => some []
 | none :: _ => none
 | some w :: rs => (catW rs).map (w ++ ·)
def fullW (n : Nd) (rs : List (Option Wd)) : Prop := n.kind = 6 \/ n.kind = 7 -> some [] ∉ rs
instance (n : Nd) (rs : List (Option Wd)) : Decidable (fullW n rs) := by unfold fullW; infer_instance
def byU (n : Nat) : UInt8 := UInt8.ofNat n
def capW (n : Nd) (b : UInt8) (w : Wd) : Option Wd :=
 if n.kind = 2 then some [b] else if n.kind = 3 then some n.text
 else if n.kind = 8 then (if w.length <= 255 then some (byU w.length :: w) else none)
 else if n.kind = 9 then (if w.length <= 65535 then some (byU (w.length / 256) :: byU (w.length % 256) :: w) else none)
 else some w
def valW (n : Nd) (k : Int) (b : UInt8) (t : List UInt8) (p : Int) (rs : List (Option Wd)) : Option Wd :=
 if headV n k b t p rs.length /\ fullW n rs then (catW rs).bind (capW n b) else none
def wrS (l : List Nd) : (Nat -> Nat) -> Vs -> List (Option Wd)
 | _, .nil => []
 | f, .cons k b t p ks r => valW (atN l (f 0)) k b t p (wrS l (fun j => (kidN (atN l (f 0)) p j).toNat) ks) :: wrS l (fun j => f (j + 1)) r
def wrV (l : List Nd) (i : Nat) (v : Vl) : Option Wd := valW (atN l i) v.kind v.byte v.text v.pick (wrS l (fun j => (kidN (atN l i) v.pick j).toNat) v.kids)
theorem wrS_length (l : List Nd) : ∀ (f : Nat -> Nat) (s : Vs), (wrS l f s).length = s.len
 | f, .nil => rfl
 | f, .cons k b t p ks r => by
  have := wrS_length l (fun j => f (j + 1)) r
  unfold Vs.len at this ⊢
  rw [wrS, List.length_cons, this, Vs.list, List.length_cons]
theorem wrS_get (l : List Nd) : ∀ (f : Nat -> Nat) (s : Vs) (j : Nat), j < s.len -> (wrS l f s)[j]? = some (wrV l (f j) (s.at j))
 | f, .nil, j, h => absurd h (Nat.not_lt_zero j)
 | f, .cons k b t p ks r, 0, h => rfl
 | f, .cons k b t p ks r, j + 1, h => by
  rw [wrS, List.getElem?_cons_succ, wrS_get l _ r j (by unfold Vs.len at h ⊢; rw [Vs.list, List.length_cons] at h; omega)]; rfl
theorem wrS_eq {l : List Nd} {f : Nat -> Nat} {s : Vs} {rs : List (Option Wd)} (hl : rs.length = s.len) (h : ∀ j, j < s.len -> rs[j]? = some (wrV l (f j) (s.at j))) : wrS l f s = rs := by
 refine List.ext_getElem? (fun j => ?_)
 rcases Nat.lt_or_ge j s.len with hj | hj
 ·rw [wrS_get l f s j hj, h j hj]
 ·rw [List.getElem?_eq_none (by rw [wrS_length]; exact hj), List.getElem?_eq_none (by omega)]
theorem wrS_congr {l m : List Nd} {f g : Nat -> Nat} {s : Vs} (h : ∀ j, j < s.len -> wrV l (f j) (s.at j) = wrV m (g j) (s.at j)) : wrS l f s = wrS m g s :=
 wrS_eq (wrS_length m g s) (fun j hj => by rw [wrS_get m g s j hj, h j hj])
theorem catW_some : ∀ {rs : List (Option Wd)} {w : Wd}, catW rs = some w -> ∀ r ∈ rs, ∃ x, r = some x
 | [], w, h, r, hr => by cases hr
 | none :: rs, w, h, r, hr => by cases h
 | some y :: rs, w, h, r, hr => by
  rw [catW] at h
  rcases hc : catW rs with _ | z
  ·rw [hc] at h; cases h
  ·rcases List.mem_cons.1 hr with e | e
   ·exact ⟨y, e⟩
   ·exact catW_some hc r e
theorem catW_all : ∀ (ws : List Wd), catW (ws.map some) = some ws.flatten
 | [] => rfl
 | w :: ws => by rw [List.map_cons, catW, catW_all ws]; rfl
theorem catW_iff {rs : List (Option Wd)} {w : Wd} : catW rs = some w ↔ ∃ ws : List Wd, rs = ws.map some /\ w = ws.flatten := by
 constructor
 ·intro h
  have hs := catW_some h
  have : ∃ ws : List Wd, rs = ws.map some := by
   clear h
   induction rs with
   | nil => exact ⟨[], rfl⟩
   | cons r rs ih =>
    obtain ⟨x, rfl⟩ := hs r (by simp)
    obtain ⟨ws, rfl⟩ := ih (fun r hr => hs r (List.mem_cons_of_mem _ hr))
    exact ⟨x :: ws, rfl⟩
  obtain ⟨ws, rfl⟩ := this
  rw [catW_all] at h
  exact ⟨ws, rfl, by injection h with h; exact h.symm⟩
 ·rintro ⟨ws, rfl, rfl⟩
  exact catW_all ws
theorem valW_some {n : Nd} {k : Int} {b : UInt8} {t : List UInt8} {p : Int} {rs : List (Option Wd)} {w : Wd} : valW n k b t p rs = some w ↔ headV n k b t p rs.length /\ fullW n rs /\ ∃ ws : List Wd, rs = ws.map some /\ capW n b ws.flatten = some w := by
 unfold valW
 constructor
 ·intro h
  split at h
  ·rename_i h1
   rcases hc : catW rs with _ | x
   ·rw [hc] at h; cases h
   ·rw [hc] at h
    obtain ⟨ws, e1, e2⟩ := catW_iff.1 hc
    exact ⟨h1.1, h1.2, ws, e1, by rw [<- e2]; exact h⟩
  ·cases h
 ·rintro ⟨h1, h2, ws, rfl, h3⟩
  rw [if_pos ⟨h1, h2⟩, catW_all]; exact h3
theorem wrV_some {l : List Nd} {i : Nat} {v : Vl} {w : Wd} (h : wrV l i v = some w) : headV (atN l i) v.kind v.byte v.text v.pick v.kids.len /\
 ∃ ws : List Wd, ws.length = v.kids.len /\ (∀ j, j < v.kids.len -> wrV l (kidN (atN l i) v.pick j).toNat (v.kids.at j) = some (ws.getD j [])) /\ ((atN l i).kind = 6 \/ (atN l i).kind = 7 -> ∀ x ∈ ws, x ≠ []) /\ capW (atN l i) v.byte ws.flatten = some w := by
 unfold wrV at h
 obtain ⟨h1, h2, ws, h3, h4⟩ := valW_some.1 h
 rw [wrS_length] at h1
 have hl : ws.length = v.kids.len := by rw [<- wrS_length l _ v.kids, h3, List.length_map]
 refine ⟨h1, ws, hl, fun j hj => ?_, fun hk x hx e => ?_, h4⟩
 ·have := wrS_get l (fun j => (kidN (atN l i) v.pick j).toNat) v.kids j hj
  rw [h3, List.getElem?_map, List.getElem?_eq_getElem (by omega)] at this
  injection this with this
  rw [<- this, List.getD_eq_getElem?_getD, List.getElem?_eq_getElem (by omega)]; rfl
 ·refine h2 hk ?_
  rw [h3, <- e]
  exact List.mem_map_of_mem hx
theorem wrV_of {l : List Nd} {i : Nat} {v : Vl} {w : Wd} {ws : List Wd} (h1 : headV (atN l i) v.kind v.byte v.text v.pick v.kids.len) (hl : ws.length = v.kids.len) (h : ∀ j, j < v.kids.len -> wrV l (kidN (atN l i) v.pick j).toNat (v.kids.at j) = some (ws.getD j []))
 (hf : (atN l i).kind = 6 \/ (atN l i).kind = 7 -> ∀ x ∈ ws, x ≠ []) (hc : capW (atN l i) v.byte ws.flatten = some w) : wrV l i v = some w := by
 unfold wrV
 rw [wrS_eq (rs := ws.map some) (by rw [List.length_map]; exact hl) (fun j hj => by
  rw [h j hj, List.getElem?_map, List.getElem?_eq_getElem (by omega), List.getD_eq_getElem?_getD, List.getElem?_eq_getElem (by omega)]; rfl)]
 refine valW_some.2 ⟨by rw [List.length_map, hl]; exact h1, fun hk hm => ?_, ws, rfl, hc⟩
 obtain ⟨x, hx, e⟩ := List.mem_map.1 hm
 injection e with e
 exact hf hk x hx e
theorem flat_len : ∀ (ws : List Wd) {m : Nat}, (∀ x ∈ ws, x.length <= m) -> ws.flatten.length <= ws.length * m
 | [], m, _ => by simp
 | w :: ws, m, h => by
  have h1 := h w (by simp)
  have h2 := flat_len ws (fun x hx => h x (List.mem_cons_of_mem _ hx))
  rw [List.flatten_cons, List.length_append, List.length_cons, Nat.succ_mul]; omega
theorem flat_ge : ∀ (ws : List Wd) {m : Nat}, (∀ x ∈ ws, m <= x.length) -> ws.length * m <= ws.flatten.length
 | [], m, _ => by simp
 | w :: ws, m, h => by
  have h1 := h w (by simp)
  have h2 := flat_ge ws (fun x hx => h x (List.mem_cons_of_mem _ hx))
  rw [List.flatten_cons, List.length_append, List.length_cons, Nat.succ_mul]; omega
theorem ws_at {ws : List Wd} {x : Wd} (h : x ∈ ws) : ∃ j, j < ws.length /\ ws.getD j [] = x := by
 obtain ⟨j, hj, rfl⟩ := List.mem_iff_getElem.1 h
 exact ⟨j, hj, by rw [List.getD_eq_getElem?_getD, List.getElem?_eq_getElem hj]; rfl⟩
def InS (p : Spn) (n : Nat) : Prop := 0 <= p.1 /\ p.1 <= (n : Int) /\ (p.2 = -1 \/ (n : Int) <= p.2)
theorem one_span {n : Nd} {p : Spn} {ws : List Wd} {w : Wd} {k : Int} {b : UInt8} {t : List UInt8} {q : Int} (hp : SpOk p) (hk : 6 <= n.kind /\ n.kind <= 9) (h7 : n.kind = 7 -> 0 <= n.lo /\ n.lo <= n.hi) (h1 : headV n k b t q ws.length)
 (hw : ∀ x ∈ ws, InS p x.length) (hf : n.kind = 6 \/ n.kind = 7 -> ∀ x ∈ ws, x ≠ []) (hc : capW n b ws.flatten = some w) : InS (onePs n.kind n.lo n.hi p) w.length := by
 obtain ⟨-, -, -, -, -, -, -, hl1, hl7⟩ := h1
 have hpos : ∀ x ∈ ws, x ≠ [] -> 1 <= x.length := fun x _ hx => List.length_pos_iff.2 hx
 unfold capW at hc
 rw [if_neg (by omega), if_neg (by omega)] at hc
 unfold onePs
 by_cases k6 : n.kind = 6
 ·rw [if_pos k6]
  rw [if_neg (by omega), if_neg (by omega)] at hc
  injection hc with hc; subst hc
  split
  ·rename_i hh
   have : ws = [] := by
    cases ws with
    | nil => rfl
    | cons x ws =>
     exfalso
     obtain ⟨a1, a2, a3⟩ := hw x (by simp)
     have := hpos x (by simp) (hf (.inl k6) x (by simp))
     omega
   subst this
   exact ⟨by decide, by decide, .inr (by decide)⟩
  ·exact ⟨by decide, by show (0 : Int) <= _; omega, .inl rfl⟩
 ·rw [if_neg k6]
  by_cases k7 : n.kind = 7
  ·rw [if_pos k7]
   rw [if_neg (by omega), if_neg (by omega)] at hc
   injection hc with hc; subst hc
   obtain ⟨b1, b2⟩ := hl7 k7
   obtain ⟨c1, c2⟩ := h7 k7
   have hempty : (p.1 < 0 \/ n.hi = 0) -> ws = [] := fun hh => by
    cases ws with
    | nil => rfl
    | cons x ws =>
     exfalso
     obtain ⟨a1, a2, a3⟩ := hw x (by simp)
     rw [List.length_cons] at b2
     omega
   unfold repS
   split
   ·rename_i hh
    obtain rfl := hempty (.inl hh)
    simp at b1
    rw [if_neg (by omega)]
    exact ⟨by decide, by decide, .inr (by decide)⟩
   ·rename_i hh
    split
    ·rename_i hh2
     obtain rfl := hempty (.inr hh2)
     exact ⟨by decide, by decide, .inr (by decide)⟩
    ·rename_i hh2
     have hm0 : 0 <= p.1 * n.lo := Int.mul_nonneg (by omega) c1
     have hge := flat_ge ws (m := p.1.toNat) (fun x hx => by have := (hw x hx).2.1; omega)
     have hge2 : p.1 * n.lo <= (ws.flatten.length : Int) := by
      have e1 : p.1 * n.lo <= p.1 * (ws.length : Int) := Int.mul_le_mul_of_nonneg_left b1 (by omega)
      have e2 : ((ws.length * p.1.toNat : Nat) : Int) = p.1 * (ws.length : Int) := by
       rw [Int.natCast_mul, Int.toNat_of_nonneg (by omega), Int.mul_comm]
      omega
     refine ⟨by show 0 <= min mxS _; unfold mxS; omega, by show min mxS _ <= _; omega, ?_⟩
     show (if p.2 < 0 then (-1 : Int) else bndS (p.2 * n.hi)) = -1 \/ _ <= (if p.2 < 0 then (-1 : Int) else bndS (p.2 * n.hi))
     split
     ·exact .inl rfl
     ·rename_i hh3
      rcases bndS_cases (p.2 * n.hi) with e | ⟨e, -⟩
      ·exact .inl e
      ·right
       rw [e]
       have hle := flat_len ws (m := p.2.toNat) (fun x hx => by have := (hw x hx).2.2; omega)
       have e1 : p.2 * (ws.length : Int) <= p.2 * n.hi := Int.mul_le_mul_of_nonneg_left b2 (by omega)
       have e2 : ((ws.length * p.2.toNat : Nat) : Int) = p.2 * (ws.length : Int) := by
        rw [Int.natCast_mul, Int.toNat_of_nonneg (by omega), Int.mul_comm]
       omega
  ·rw [if_neg k7]
   have hone : ws.length = 1 := hl1 (by omega)
   obtain ⟨x, rfl⟩ := List.length_eq_one_iff.1 hone
   obtain ⟨a1, a2, a3⟩ := hw x (by simp)
   have ef : [x].flatten = x := by simp
   rw [ef] at hc
   have key : ∀ (most head : Int), (x.length : Int) <= most -> (w.length : Int) = (x.length : Int) + head -> 0 <= head -> InS (frmS most head p) w.length := fun most head hm hl hh => by
    unfold frmS
    rw [if_neg (by omega)]
    refine ⟨by show 0 <= p.1 + head; omega, by show p.1 + head <= _; omega, .inr ?_⟩
    show _ <= (if p.2 < 0 \/ most < p.2 then most else p.2) + head
    split
    ·omega
    ·rcases a3 with a3 | a3 <;> omega
   by_cases k8 : n.kind = 8
   ·rw [if_pos k8]
    rw [if_pos k8] at hc
    split at hc
    ·rename_i hle
     injection hc with hc; subst hc
     exact key 255 1 (by omega) (by rw [List.length_cons]; omega) (by decide)
    ·cases hc
   ·rw [if_neg k8]
    rw [if_neg k8, if_pos (by omega)] at hc
    split at hc
    ·rename_i hle
     injection hc with hc; subst hc
     exact key 65535 2 (by omega) (by rw [List.length_cons, List.length_cons]; omega) (by decide)
    ·cases hc
theorem wrV_span {l : List Nd} (hF : Form l) : ∀ v i w, i < l.length -> wrV l i v = some w -> InS (spN l i) w.length := fun v => by
 induction v using Vl.kids_ind with
 | h v ih =>
  intro i w hi0 h
  obtain ⟨h1, ws, hl, hk, hne, hc⟩ := wrV_some h
  have hkid : ∀ j, j < v.kids.len -> ∀ q : Nat, (kidN (atN l i) v.pick j).toNat = q -> q < l.length -> InS (spN l q) (ws.getD j []).length := fun j hj q hq hql => by
   have := hk j hj
   rw [hq] at this
   exact ih (v.kids.at j) (List.mem_of_getElem? (Vs.at_get hj)) _ _ hql this
  have ho := hF.2.1 i hi0
  obtain ⟨n, hn⟩ : ∃ n, atN l i = n := ⟨_, rfl⟩
  rw [hn] at ho h1 hk hne hc hkid
  cases ho.cs hn with
  | leaf hkk hf =>
   rw [spN_leaf (by rw [hn]; exact hkk), hn]
   obtain ⟨-, -, hb, -, -, h0, -, -, -⟩ := h1
   have hnil : ws = [] := List.length_eq_zero_iff.1 (by rw [hl]; exact h0 hkk)
   subst hnil
   unfold capW at hc
   unfold leafPs
   unfold leafK at hkk
   rcases hkk with e | e | e
   ·rw [if_pos e]
    rw [if_neg (by omega), if_neg (by omega), if_neg (by omega), if_neg (by omega)] at hc
    injection hc with hc; subst hc
    exact ⟨by decide, by decide, .inr (by decide)⟩
   ·rw [if_neg (by omega), if_pos e]
    rw [if_pos e] at hc
    injection hc with hc; subst hc
    have hcl : n.cls ≠ 0 := fun e0 => by
     have := hb e
     rw [e0] at this
     simp at this
    rw [if_neg hcl]
    exact ⟨by decide, by show (1 : Int) <= _; simp, .inr (by show _ <= (1 : Int); simp)⟩
   ·rw [if_neg (by omega), if_neg (by omega)]
    rw [if_neg (by omega), if_pos e] at hc
    injection hc with hc; subst hc
    exact ⟨by show (0 : Int) <= _; omega, Int.le_refl _, .inr (Int.le_refl _)⟩
  | one hkk hi ha hb h7 hr hcl hf =>
   rw [spN_one hi (by rw [hn]; exact hkk) (by rw [hn]; exact ha), hn]
   have hkq : ∀ j, (kidN n v.pick j).toNat = i - 1 := fun j => by unfold kidN; rw [if_neg (by omega)]; omega
   refine one_span (spN_ok hF _ (by omega)) hkk (fun e => ?_) (by rw [hl]; exact h1) (fun x hx => ?_) hne hc
   ·unfold okN at ho; omega
   ·obtain ⟨j, hj, rfl⟩ := ws_at hx
    exact hkid j (by omega) (i - 1) (hkq j) (by omega)
  | two hkk hi hb ha hf0 hl2 hcl hf =>
   have hle := firstP_le l (i - 1)
   rw [spN_two (p := firstP l (i - 1) - 1) hi (by rw [hn]; exact hkk) (by rw [hn]; omega) (by omega) (by rw [hn]; exact hb), hn]
   obtain ⟨-, -, -, -, hp, -, h4, h5, -⟩ := h1
   unfold capW at hc
   rw [if_neg (by omega), if_neg (by omega), if_neg (by omega), if_neg (by omega)] at hc
   injection hc with hc; subst hc
   unfold twoPs
   rcases hkk with e | e
   ·rw [if_pos e]
    have hl2' : ws.length = 2 := by rw [hl]; exact h4 e
    obtain ⟨x, y, rfl⟩ : ∃ x y, ws = [x, y] := by
     match ws, hl2' with
     | [x, y], _ => exact ⟨x, y, rfl⟩
    have hx := hkid 0 (by rw [h4 e]; decide) (firstP l (i - 1) - 1) (by unfold kidN; rw [if_neg (by omega)]; omega) (by omega)
    have hy := hkid 1 (by rw [h4 e]; decide) (i - 1) (by unfold kidN; rw [if_pos (.inl ⟨e, rfl⟩)]; omega) (by omega)
    simp at hx hy ⊢
    generalize spN l (firstP l (i - 1) - 1) = p at *
    generalize spN l (i - 1) = q at *
    obtain ⟨a1, a2, a3⟩ := hx
    obtain ⟨b1, b2, b3⟩ := hy
    unfold seqS
    rw [if_neg (by omega)]
    refine ⟨by show 0 <= min mxS _; unfold mxS; omega, by show min mxS _ <= _; omega, ?_⟩
    show (if p.2 < 0 \/ q.2 < 0 then (-1 : Int) else bndS (p.2 + q.2)) = -1 \/ _ <= (if p.2 < 0 \/ q.2 < 0 then (-1 : Int) else bndS (p.2 + q.2))
    split
    ·exact .inl rfl
    ·rcases bndS_cases (p.2 + q.2) with e | ⟨e, -⟩
     ·exact .inl e
     ·right; rw [e]; omega
   ·rw [if_neg (by omega)]
    have hl1' : ws.length = 1 := by rw [hl]; exact h5 (.inl e)
    obtain ⟨x, rfl⟩ := List.length_eq_one_iff.1 hl1'
    have sp := spN_ok hF (firstP l (i - 1) - 1) (by omega)
    have sq := spN_ok hF (i - 1) (by omega)
    have hor : InS (spN l (firstP l (i - 1) - 1)) x.length \/ InS (spN l (i - 1)) x.length := by
     rcases hp with hp | ⟨-, hp⟩
     ·left
      have := hkid 0 (by rw [h5 (.inl e)]; decide) (firstP l (i - 1) - 1) (by unfold kidN; rw [if_neg (by omega)]; omega) (by omega)
      simpa using this
     ·right
      have := hkid 0 (by rw [h5 (.inl e)]; decide) (i - 1) (by unfold kidN; rw [if_pos (.inr ⟨e, hp⟩)]; omega) (by omega)
      simpa using this
    simp only [List.flatten_cons, List.flatten_nil, List.append_nil]
    generalize spN l (firstP l (i - 1) - 1) = p at *
    generalize spN l (i - 1) = q at *
    unfold SpOk at sp sq
    unfold orS
    split
    ·rcases hor with ⟨a1, a2, a3⟩ | h
     ·omega
     ·exact h
    ·split
     ·rcases hor with h | ⟨a1, a2, a3⟩
      ·exact h
      ·omega
     ·refine ⟨by show 0 <= min p.1 q.1; omega, by show min p.1 q.1 <= _; rcases hor with ⟨a1, a2, a3⟩ | ⟨a1, a2, a3⟩ <;> omega, ?_⟩
      show (if p.2 < 0 \/ q.2 < 0 then (-1 : Int) else max p.2 q.2) = -1 \/ _ <= (if p.2 < 0 \/ q.2 < 0 then (-1 : Int) else max p.2 q.2)
      split
      ·exact .inl rfl
      ·right
       rcases hor with ⟨a1, a2, a3⟩ | ⟨a1, a2, a3⟩ <;> omega
theorem valW_mv (d : Int) (n : Nd) (k : Int) (b : UInt8) (t : List UInt8) (p : Int) (rs : List (Option Wd)) : valW (mvN d n) k b t p rs = valW n k b t p rs := by
 have e1 := mvN_kind d n
 have e2 : (mvN d n).cls = n.cls := by unfold mvN; (repeat' split) <;> rfl
 have e3 : (mvN d n).text = n.text := by unfold mvN; (repeat' split) <;> rfl
 have e4 : (mvN d n).lo = n.lo := by unfold mvN; (repeat' split) <;> rfl
 have e5 : (mvN d n).hi = n.hi := by unfold mvN; (repeat' split) <;> rfl
 unfold valW
 have h1 : headV (mvN d n) k b t p rs.length ↔ headV n k b t p rs.length := by unfold headV; rw [e1, e2, e3, e4, e5]
 have h2 : fullW (mvN d n) rs ↔ fullW n rs := by unfold fullW; rw [e1]
 have h3 : capW (mvN d n) b = capW n b := by funext w; unfold capW; rw [e1, e3]
 rw [h3]
 by_cases h : headV n k b t p rs.length /\ fullW n rs
 ·rw [if_pos h, if_pos ⟨h1.2 h.1, h2.2 h.2⟩]
 ·rw [if_neg h, if_neg (fun hh => h ⟨h1.1 hh.1, h2.1 hh.2⟩)]
theorem valW_kids {n : Nd} {k : Int} {b : UInt8} {t : List UInt8} {p : Int} {rs : List (Option Wd)} (hk : leafK n.kind) (hr : rs.length ≠ 0) : valW n k b t p rs = none := by
 unfold valW
 rw [if_neg]
 rintro ⟨⟨-, -, -, -, -, h0, -⟩, -⟩
 exact hr (h0 hk)
theorem wr_moved {l m : List Nd} {d : Int} {f i : Nat} (hat : ∀ j, f <= j -> j <= i -> 0 <= (j : Int) + d /\ atN m ((j : Int) + d).toNat = mvN d (atN l j)) (hok : ∀ j, f <= j -> j <= i -> okN l j (atN l j) /\ f <= firstP l j) :
 ∀ j, f <= j -> j <= i -> ∀ v, wrV m ((j : Int) + d).toNat v = wrV l j v := by
 intro j
 induction j using Nat.strongRecOn with
 | ind j ih =>
  intro h1 h2 v
  obtain ⟨e0, e⟩ := hat j h1 h2
  obtain ⟨ho, hfj⟩ := hok j h1 h2
  unfold wrV
  rw [e, valW_mv]
  generalize hn : atN l j = n at e ho ⊢
  cases ho.cs hn with
  | leaf hk hf =>
   by_cases hz : v.kids.len = 0
   ·rw [wrS_congr (m := l) (g := fun j => (kidN n v.pick j).toNat) (fun j hj => by omega)]
   ·rw [valW_kids hk (by rw [wrS_length]; exact hz), valW_kids hk (by rw [wrS_length]; exact hz)]
  | one hk hi ha hb h7 hr hc hf =>
   have hfl := firstP_le l (j - 1)
   rw [wrS_congr (m := l) (g := fun j => (kidN n v.pick j).toNat) (fun q hq => ?_)]
   have e2 : (mvN d n).a = n.a + d := by unfold mvN; rw [if_pos hk]
   have e3 := mvN_kind d n
   have ek : kidN (mvN d n) v.pick q = ((j - 1 : Nat) : Int) + d := by unfold kidN; rw [e3, if_neg (by omega), e2]; omega
   have ek2 : (kidN n v.pick q).toNat = j - 1 := by unfold kidN; rw [if_neg (by omega)]; omega
   rw [ek, ek2]
   exact ih (j - 1) (by omega) (by omega) (by omega) _
  | two hk hi hb ha hf0 hl hc hf =>
   have hle := firstP_le l (j - 1)
   have hle2 := firstP_le l (firstP l (j - 1) - 1)
   rw [wrS_congr (m := l) (g := fun j => (kidN n v.pick j).toNat) (fun q hq => ?_)]
   have e2 : (mvN d n).a = n.a + d := by unfold mvN; rw [if_neg (by omega), if_pos hk]
   have e5 : (mvN d n).b = n.b + d := by unfold mvN; rw [if_neg (by omega), if_pos hk]
   have e3 := mvN_kind d n
   by_cases hc9 : n.kind = 4 /\ q = 1 \/ n.kind = 5 /\ v.pick = 1
   ·have ek : kidN (mvN d n) v.pick q = ((j - 1 : Nat) : Int) + d := by unfold kidN; rw [e3, if_pos hc9, e5]; omega
    have ek2 : (kidN n v.pick q).toNat = j - 1 := by unfold kidN; rw [if_pos hc9]; omega
    rw [ek, ek2]
    exact ih (j - 1) (by omega) (by omega) (by omega) _
   ·have ek : kidN (mvN d n) v.pick q = ((firstP l (j - 1) - 1 : Nat) : Int) + d := by unfold kidN; rw [e3, if_neg hc9, e2]; omega
    have ek2 : (kidN n v.pick q).toNat = firstP l (j - 1) - 1 := by unfold kidN; rw [if_neg hc9]; omega
    rw [ek, ek2]
    exact ih (firstP l (j - 1) - 1) (by omega) (by omega) (by omega) _
theorem wr_keep {l m : List Nd} {i : Nat} (h : ∀ j, j <= i -> atN l j = atN m j) (hok : okTo l i) (v : Vl) : wrV m i v = wrV l i v := by
 have mv0 : ∀ n : Nd, mvN 0 n = n := fun n => by unfold mvN; (repeat' split) <;> (obtain ⟨k, a, b, lo, hi, c, t⟩ := n; simp)
 have := wr_moved (l := l) (m := m) (d := 0) (f := 0) (i := i) (fun j _ hj => ⟨by omega, by rw [mv0, Int.add_zero, Int.toNat_natCast, <- h j hj]⟩) (fun j _ hj => ⟨hok j hj, Nat.zero_le _⟩) i (Nat.zero_le _) (Nat.le_refl _) v
 rw [Int.add_zero, Int.toNat_natCast] at this
 exact this
end Go.Proofs.Ytidoofdofdhjpaa
