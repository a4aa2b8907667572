/- Leaf, Wrap, Pair: walked. -/
import Derived.Test.YtgdlbahfmddkaaaM10
import Derived.Test.YtgdlbahfmddkaaaM15
import Derived.Test.YtgdlbahfmddkaaaM16
import Derived.Laws.MakeOwn
namespace Go.Proofs.Ytgdlbahfmddkaaa
open Go Go.RowKit
set_option linter.unusedVariables false
set_option linter.unusedSimpArgs false

theorem Blk.grow {w w' : World} {b g : Nat} {vs : Array Value} {t : TypeId} (h : Blk w b vs t) (hne : b ≠ g) (hg : w.grownBy w' (some g)) : Blk w' b vs t := (hg.block b h.lt (fun e => hne (Option.some.inj e))).trans h
end Go.Proofs.Ytgdlbahfmddkaaa
/- The anchor of layer 4: answers that the document fixes. -/
namespace Go.Proofs.Ytgdlbahfmddkaaa
open Go Go.RowKit
set_option linter.unusedVariables false
set_option linter.unusedSimpArgs false

end Go.Proofs.Ytgdlbahfmddkaaa
/- The statement NodeParts of layer 4, walked. -/
namespace Go.Proofs.Ytgdlbahfmddkaaa
open Go Go.RowKit
set_option linter.unusedVariables false
set_option linter.unusedSimpArgs false

theorem Form.mvOk {l : List Nd} (h : Form l) (ht : Txt l) (hlen : l.length ≤ 1073741823) {d : Int} (h1 : -1073741824 ≤ d) (h2 : d ≤ 1073741824) : ∀ n ∈ l, MvOk d n := fun n hn => by
  obtain ⟨i, hi, e⟩ := List.mem_iff_getElem.1 hn
  have ha : atN l i = n := by unfold atN; rw [List.getD_eq_getElem?_getD, List.getElem?_eq_getElem hi]; exact e
  have := (h.2.1 i hi).mvOk (by omega) (txt_at ht i) h1 h2
  rwa [ha] at this
end Go.Proofs.Ytgdlbahfmddkaaa
/- The statement NodeForms of layer 4, walked. -/
namespace Go.Proofs.Ytgdlbahfmddkaaa
open Go Go.RowKit
set_option linter.unusedVariables false
set_option linter.unusedSimpArgs false

theorem okN.kind9 {l : List Nd} {i : Nat} {n : Nd} (h : okN l i n) : n.kind ≤ 9 := by
  obtain ⟨_, h⟩ := h; omega
set_option maxHeartbeats 8000000 in
set_option maxRecDepth 100000 in
theorem rsub_any (l : List Nd) (A : Option Addr) (c i : Nat) (hc : l.length ≤ c) (hi : i < l.length) (hlen : l.length ≤ 536870912) (hok : okTo l i) (htx : Txt l) (w : World) (hrow : NRow w A l) :
    Calls Try.prog 19 #[.agg #[.slice A l.length c], .int .i64 (i : Int)] w (DPost w (subL l i)) := by
  have HS0 := Lib.hid (SbS.new w A l c hrow)
  have HF : Hid (∀ w', NRow w' A l → Calls Try.prog 30 #[.slice A l.length c, .int .i64 (i : Int)] w' (Ans w' (.int .i64 (firstP l i : Int)))) := fun w' h => by
    have := reffirst_any l A c (by omega) htx (i + 1) (by omega) w' h
    rw [refG_ok l i hok] at this
    rwa [show ((i + 1 : Nat) : Int) - 1 = (i : Int) by omega] at this
  obtain ⟨ba, oa, rfl, hbl, -⟩ := hrow i hi
  have HOK := Lib.hid hok
  have HTX := Lib.hid htx
  clear hrow hok htx
  go_enter Try.func19, Try.ntmps19
  go_upto_region 1 with (fail)
  generalize (w.alloc (.cells #[.slice (some ⟨ba, oa, none⟩) l.length c] 24)).alloc (.cells #[.slice none 0 0] 24) = w1 at *
  have e0 := HS0.out.fst.box.cell 0
  simp at e0
  go_wp2_with fail
  refine (HF.out _ HS0.out.fst.row).mono ?_; rintro e w3 ⟨rfl, hb3⟩
  have HS3 := Lib.hid (HS0.out.later hb3)
  clear hb3 e0
  have e0 := HS3.out.fst.box.cell 0
  simp at e0
  have hfi := firstP_le l i
  have HM : Hid (∀ n ∈ seg l (firstP l i) (i + 1 - firstP l i), MvOk (-(firstP l i : Int)) n ∧ n.kind ≤ 9) := fun n hn => by
    obtain ⟨j, h1, h2, rfl⟩ := mem_seg (by omega) hn
    exact ⟨(HOK.out j (by omega)).mvOk (by omega) (txt_at HTX.out j) (by omega) (by omega), (HOK.out j (by omega)).kind9⟩
  have HSL : Hid (∀ w', NRow w' (some ⟨ba, oa, none⟩) l → NRow w' (some ⟨ba, oa + firstP l i * 10, none⟩) (seg l (firstP l i) (i + 1 - firstP l i))) := fun w' h => h.part (by omega)
  have HLN : Hid ((seg l (firstP l i) (i + 1 - firstP l i)).length = i + 1 - firstP l i) := seg_length (by omega)
  have HSU : Hid (subL l i = (seg l (firstP l i) (i + 1 - firstP l i)).map (mvN (-(firstP l i : Int)))) := rfl
  clear HF
  generalize firstP l i = f at *
  generalize seg l f (i + 1 - f) = m at *
  have hic : (i : Int) + 1 ≤ (c : Int) := by omega
  have hfz : (f : Int) ≤ (i : Int) + 1 := by omega
  have hfc : ¬ (f = c) := by omega
  have LC : Hid (Calls Try.prog 31 #[.slice (some ⟨ba, oa + f * 10, none⟩) (i + 1 - f) (c - f), .int .i64 (-(f : Int))] w3 (LaidPost w3 w3.heap.size (subL l i))) := by
    have h := rmoved_any m (-(f : Int)) (some ⟨ba, oa + f * 10, none⟩) (c - f) w3 (HSL.out _ HS3.out.fst.row) (by rw [HLN.out]; omega) HM.out
    rw [HLN.out] at h
    unfold Hid; rw [HSU.out]; exact h
  go_wp2_with fail
  refine LC.out.mono ?_; intro e w4 hp; obtain ⟨s, rfl, ho, hb4⟩ := hp
  obtain ⟨A2, c2, rfl, -⟩ := ho.row
  have HS4 := Lib.hid (HS3.out.later hb4)
  have HO := Lib.hid ho
  have hlow : w.heap.size + 1 < w3.heap.size := HS3.out.res.lt
  clear hb4 ho e0 LC
  have r0 := HS4.out.res.cell 0
  simp at r0
  have rf := HS4.out.res.frozen
  have s0 := HS4.out.res.put10 (o := 0) (by simp)
  go_wp2
  exact bodyPost_ret (v := .agg #[.slice A2 (subL l i).length c2]) (by simp [results, Try.results19, go_sem, s0]) rfl ⟨_, rfl, (HO.out.setCell_ne (a := ⟨w.heap.size + 1, 0, none⟩) hlow _).weaken (by omega), HS4.out.fst.bel.setCell (p := ⟨w.heap.size + 1, 0, none⟩) (Nat.le_succ _) _⟩
end Go.Proofs.Ytgdlbahfmddkaaa
