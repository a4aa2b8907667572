/- Form, Same, Leaf, Sub: walked. -/
import Derived.Test.YtgehepiphdphjaaDoorNodeLaid2
namespace Go.Proofs.YtgehepiphdphjaaDoor
open Go Go.RowKit
set_option linter.unusedVariables false
set_option linter.unusedSimpArgs false

def Txt (l : List Nd) : Prop := ∀ n ∈ l, n.text.length ≤ 281474976710656
/-- The form, as a bool. -/
def formB (l : List Nd) : Bool := decide (0 < l.length) && ((List.range l.length).all fun i => fmd l i) && decide (firstP l (l.length - 1) = 0)
theorem formB_iff (l : List Nd) : formB l = true ↔ Form l := by
  unfold formB Form fmd
  simp only [Bool.and_eq_true, decide_eq_true_iff, List.all_eq_true, List.mem_range]
  exact ⟨fun ⟨⟨a, b⟩, c⟩ => ⟨a, b, c⟩, fun ⟨a, b, c⟩ => ⟨⟨a, b⟩, c⟩⟩
theorem formB_eq {l : List Nd} (h : Form l) : formB l = true := (formB_iff l).2 h
theorem formB_not {l : List Nd} (h : ¬ Form l) : formB l = false := by
  cases hb : formB l with
  | false => rfl
  | true => exact absurd ((formB_iff l).1 hb) h
def FormL (w0 : World) (A : Option Addr) (l : List Nd) (c : Nat) (i : Value) (w : World) : Prop :=
  ∃ k : Nat, k ≤ l.length ∧ i = .int .i64 (k : Int) ∧ (∀ j, j < k → fmd l j = true) ∧ FmS w0 A l c w
set_option maxHeartbeats 8000000 in
set_option maxRecDepth 100000 in
theorem form_any (l : List Nd) (A : Option Addr) (c : Nat) (hlen : l.length ≤ 1073741824) (htx : Txt l) (w : World) (hrow : NRow w A l) (hT : U8T w) :
    Calls Tryd.prog 31 #[.agg #[.slice A l.length c]] w (Ans w (.bool (formB l))) := by
  have HB := (Below.refl w.heap.size w).alloc (Nat.le_refl _) (.cells #[.slice A l.length c] 49)
  have HS0 : Hid (FmS w A l c (w.alloc (.cells #[.slice A l.length c] 49))) := ⟨⟨HB, hrow.later HB, Blk.new _ _ _⟩, hT.later HB⟩
  have HTX := Lib.hid htx
  clear hrow hT HB htx
  go_enter Tryd.func31, Tryd.ntmps31
  go_upto_region 1 with (fail)
  generalize w.alloc (.cells #[.slice A l.length c] 49) = w1 at *
  have e0 := HS0.out.fst.box.cell 0
  simp at e0
  go_wp2
  clear e0
  go_loopw [8] (FormL w A l c) (fun i _ => l.length - (intOf i).toNat)
  case atStart => exact ⟨0, Nat.zero_le _, rfl, fun j hj => by omega, HS0.out⟩
  case round =>
    obtain ⟨k, hk, rfl, hf, hs⟩ := hrel
    have HS := Lib.hid hs
    have HF := Lib.hid hf
    have e0 := hs.fst.box.cell 0
    simp at e0
    by_cases hlt : k < l.length
    · have hltz : (k : Int) < (l.length : Int) := by omega
      have HC := Lib.hid (fun (w' : World) (h : FmS w A l c w') => formed_any l A c k hlt hlen HTX.out w' h.fst.row h.u8)
      clear hs hf
      cases hq : fmd l k with
      | true =>
        have HF2 : Hid (∀ j, j < k + 1 → fmd l j = true) := fun j hj => by
          by_cases h : j = k
          · rw [h]; exact hq
          · exact HF.out j (by omega)
        rw [hq] at HC
        clear hq
        go_wp2_with fail
        refine (HC.out _ HS.out).mono ?_; rintro e w2 ⟨rfl, hb2⟩
        have HS2 := Lib.hid (HS.out.later hb2)
        clear hb2 e0
        go_wp2
        go_roundw
        case rel => exact ⟨k + 1, by omega, by go_num, HF2.out, HS2.out⟩
        case measure => simp [intOf]; omega
      | false =>
        have HR : Hid (formB l = false) := by
          unfold Hid formB
          have : ((List.range l.length).all fun i => fmd l i) = false := by rw [List.all_eq_false]; exact ⟨k, List.mem_range.2 hlt, by simp [hq]⟩
          rw [this]; simp
        rw [hq] at HC
        clear hq
        go_wp2_with fail
        refine (HC.out _ HS.out).mono ?_; rintro e w2 ⟨rfl, hb2⟩
        have HS2 := Lib.hid (HS.out.later hb2)
        clear hb2 e0
        go_wp2
        go_ret
        exact ⟨by rw [HR.out]; rfl, HS2.out.fst.bel⟩
    · obtain rfl : k = l.length := by omega
      have HALL : Hid (((List.range l.length).all fun i => fmd l i) = true) := by unfold Hid; rw [List.all_eq_true]; intro j hj; exact hf j (List.mem_range.1 hj)
      clear hs hf
      by_cases h0 : l.length = 0
      · have HR : Hid (formB l = false) := by unfold Hid formB; simp [h0]
        have hz : (l.length : Int) = 0 := by omega
        obtain ⟨n0, hn0⟩ : ∃ n0, n0 = l.length := ⟨_, rfl⟩
        rw [← hn0] at h0
        subst h0
        rw [← hn0] at *
        go_wp2
        go_ret
        exact ⟨by rw [HR.out]; rfl, HS.out.fst.bel⟩
      · obtain ⟨n, hn⟩ : ∃ n, l.length = n + 1 := ⟨l.length - 1, by omega⟩
        have hni : (l.length : Int) - 1 = (n : Int) := by omega
        have HR : Hid (formB l = decide ((firstP l n : Int) = 0)) := by
          unfold Hid formB
          rw [HALL.out, hn, Nat.add_sub_cancel]
          simp
        have HC := Lib.hid (fun (w' : World) (h : FmS w A l c w') => first_any l A c n (by omega) w' h.fst.row)
        have HNI := Lib.hid hni
        have hge : (l.length : Int) - 1 ≥ 0 := by omega
        rw [← hni] at HC
        clear hn hni h0
        go_wp2_with fail
        refine (HC.out _ HS.out).mono ?_; rintro e w2 ⟨rfl, hb2⟩
        have HS2 := Lib.hid (HS.out.later hb2)
        clear hb2 e0
        go_wp2
        go_ret
        exact ⟨by rw [HR.out]; rfl, HS2.out.fst.bel⟩
set_option maxHeartbeats 4000000 in
theorem nsame_any (a b : List Nd) (A B : Option Addr) (c1 c2 : Nat) (w : World) (ha : NRow w A a) (hb : NRow w B b) (h1 : a.length ≤ 1073741824) (h2 : b.length ≤ 1073741824) :
    Calls Tryd.prog 32 #[.agg #[.slice A a.length c1], .agg #[.slice B b.length c2]] w (Ans w (.bool (decide (a = b)))) := by
  have HB := ((Below.refl w.heap.size w).alloc (Nat.le_refl _) (.cells #[.slice A a.length c1] 49)).alloc (by simp) (.cells #[.slice B b.length c2] 49)
  have HA := Lib.hid (ha.later HB)
  have HBB := Lib.hid (hb.later HB)
  have HX := Lib.hid HB
  clear ha hb HB
  go_enter Tryd.func32, Tryd.ntmps32
  go_wp2_with fail
  refine (nseq_any a b A B c1 c2 _ HA.out HBB.out h1 h2).mono ?_; rintro e w2 ⟨rfl, hb2⟩
  have HY := Lib.hid (HX.out.trans (hb2.mono HX.out.size))
  clear hb2
  go_wp2
  go_ret
  exact ⟨rfl, HY.out⟩
/-- A description's value, and its row. -/
def IsD (l : List Nd) (v : Value) (w : World) : Prop := ∃ A c, l.length ≤ c ∧ v = .agg #[.slice A l.length c] ∧ NRow w A l
theorem IsD.later (l : List Nd) (v : Value) (w w' : World) (h : IsD l v w) (hb : Below w.heap.size w w') : IsD l v w' := by
  obtain ⟨A, c, h1, h2, h3⟩ := h
  exact ⟨A, c, h1, h2, h3.later hb⟩
theorem OwnN.isD {w : World} {base : Nat} {s : Value} {l : List Nd} (h : OwnN w base s l) : IsD l (.agg #[s]) w := by
  obtain ⟨_, ⟨hv, hn⟩ | ⟨g, cap, cur, hv, hb, hg, hc, hm, hs, ht⟩⟩ := h
  · have : l = [] := List.length_eq_zero_iff.1 hn
    subst this
    exact ⟨none, 0, Nat.le_refl _, by rw [hv]; rfl, NRow.nil _ _⟩
  · obtain ⟨A, c, h1, h2⟩ := OwnN.row (w := w) (base := base) (v := s) (l := l) ⟨by assumption, .inr ⟨g, cap, cur, hv, hb, hg, hc, hm, hs, ht⟩⟩
    rw [hv] at h1
    cases h1
    exact ⟨_, cap, hc, by rw [hv], h2⟩
def DPost (w : World) (l : List Nd) (e : Ending) (w' : World) : Prop := ∃ s, e = .returned (.agg #[s]) ∧ OwnN w' w.heap.size s l ∧ Below w.heap.size w w'
theorem OwnN.setCell_ne {w : World} {base : Nat} {s : Value} {l : List Nd} (h : OwnN w base s l) {a : Addr} (ha : a.block < base) (v : Value) : OwnN (w.setCell a v) base s l := by
  obtain ⟨h0, ⟨hv, hn⟩ | ⟨g, cap, cur, hv, hb, hg, hr⟩⟩ := h
  · exact ⟨h0, .inl ⟨hv, hn⟩⟩
  · refine ⟨h0, .inr ⟨g, cap, cur, hv, hb, ?_, hr⟩⟩
    have : Blk w g cur 59 := hg
    exact this.setCell_ne (a := a) (by omega) v
theorem OwnN.weaken {w : World} {base base' : Nat} {s : Value} {l : List Nd} (h : OwnN w base s l) (hb : base' ≤ base) : OwnN w base' s l := by
  obtain ⟨h0, ⟨hv, hn⟩ | ⟨g, cap, cur, hv, hbg, hr⟩⟩ := h
  · exact ⟨h0, .inl ⟨hv, hn⟩⟩
  · exact ⟨h0, .inr ⟨g, cap, cur, hv, Nat.le_trans hb hbg, hr⟩⟩
theorem NRow.part {w : World} {b o : Nat} {l : List Nd} (h : NRow w (some ⟨b, o, none⟩) l) {f k : Nat} (hk : f + k ≤ l.length) : NRow w (some ⟨b, o + f * 10, none⟩) (seg l f k) := fun i hi => by
  rw [seg_length hk] at hi
  obtain ⟨b', o', h1, h2, h3⟩ := h (f + i) (by omega)
  cases h1
  refine ⟨b, o + f * 10, rfl, h2, fun j hj => ?_⟩
  have := h3 j hj
  rw [show (seg l f k).getD i nd0 = l.getD (f + i) nd0 from seg_at hi]
  rw [← this]; congr 2; omega
theorem wrap_in {x : Int} (h1 : -9223372036854775808 ≤ x) (h2 : x ≤ 9223372036854775807) : IntKind.i64.wrap x = x := IntWalk.i64_in _ (by omega)
theorem okN.mvOk {l : List Nd} {i : Nat} (h : okN l i (atN l i)) (hi : i < 1073741824) (ht : (atN l i).text.length ≤ 281474976710656) {d : Int} (h1 : -1073741824 ≤ d) (h2 : d ≤ 1073741824) : MvOk d (atN l i) := by
  have hle := firstP_le l (i - 1)
  refine ⟨ht, fun hp => ?_, fun hk => ?_⟩
  · cases h.cs rfl with
    | leaf hk hf => unfold leafK at hk; unfold partK at hp; omega
    | one hk hi ha => exact wrap_in (by omega) (by omega)
    | two hk hi hb ha => exact wrap_in (by omega) (by omega)
  · cases h.cs rfl with
    | leaf hk2 hf => unfold leafK at hk2; omega
    | one hk2 hi ha => omega
    | two hk hi hb ha => exact wrap_in (by omega) (by omega)
theorem mem_seg {l : List Nd} {f k : Nat} (hk : f + k ≤ l.length) {n : Nd} (h : n ∈ seg l f k) : ∃ j, f ≤ j ∧ j < f + k ∧ n = atN l j := by
  obtain ⟨i, hi, e⟩ := List.mem_iff_getElem.1 h
  rw [seg_length hk] at hi
  refine ⟨f + i, by omega, by omega, ?_⟩
  rw [← seg_at (l := l) (f := f) hi, ← e]
  unfold atN
  rw [List.getD_eq_getElem?_getD, List.getElem?_eq_getElem (by rw [seg_length hk]; exact hi)]; rfl
theorem txt_at {l : List Nd} (h : Txt l) (j : Nat) : (atN l j).text.length ≤ 281474976710656 := by
  unfold atN
  rw [List.getD_eq_getElem?_getD]
  cases hj : l[j]? with
  | none => simp [nd0]
  | some n => exact h n (List.mem_of_getElem? hj)
structure SbS (w0 : World) (A : Option Addr) (l : List Nd) (c : Nat) (w : World) : Prop where
  fst : FstS w0 A l c w
  res : Blk w (w0.heap.size + 1) #[.slice none 0 0] 49
theorem SbS.later {w0 w w' : World} {A : Option Addr} {l : List Nd} {c : Nat} (h : SbS w0 A l c w) (hb : Below w.heap.size w w') : SbS w0 A l c w' := ⟨h.fst.later hb, h.res.later hb⟩
theorem SbS.new (w : World) (A : Option Addr) (l : List Nd) (c : Nat) (h : NRow w A l) : SbS w A l c ((w.alloc (.cells #[.slice A l.length c] 49)).alloc (.cells #[.slice none 0 0] 49)) := by
  have HB := ((Below.refl w.heap.size w).alloc (Nat.le_refl _) (.cells #[.slice A l.length c] 49)).alloc (by simp) (.cells #[.slice none 0 0] 49)
  refine ⟨⟨HB, h.later HB, (Blk.new w _ _).alloc _⟩, ?_⟩
  have := Blk.new (w.alloc (.cells #[.slice A l.length c] 49)) #[.slice none 0 0] 49
  simpa using this
set_option maxHeartbeats 8000000 in
set_option maxRecDepth 100000 in
theorem sub_any (l : List Nd) (A : Option Addr) (c i : Nat) (hc : l.length ≤ c) (hi : i < l.length) (hlen : l.length ≤ 536870912) (hok : okTo l i) (htx : Txt l) (w : World) (hrow : NRow w A l) :
    Calls Tryd.prog 33 #[.agg #[.slice A l.length c], .int .i64 (i : Int)] w (DPost w (subL l i)) := by
  have HS0 := Lib.hid (SbS.new w A l c hrow)
  obtain ⟨ba, oa, rfl, hbl, -⟩ := hrow i hi
  have HOK := Lib.hid hok
  have HTX := Lib.hid htx
  clear hrow hok htx
  go_enter Tryd.func33, Tryd.ntmps33
  go_upto_region 1 with (fail)
  generalize (w.alloc (.cells #[.slice (some ⟨ba, oa, none⟩) l.length c] 49)).alloc (.cells #[.slice none 0 0] 49) = w1 at *
  have e0 := HS0.out.fst.box.cell 0
  simp at e0
  go_wp2_with fail
  refine (there_any l _ c i hi _).mono ?_; rintro e w2 ⟨rfl, hb2⟩
  have HS2 := Lib.hid (HS0.out.later hb2)
  clear hb2 e0
  have e0 := HS2.out.fst.box.cell 0
  simp at e0
  go_wp2_with fail
  refine (first_any l _ c i hi _ HS2.out.fst.row).mono ?_; rintro e w3 ⟨rfl, hb3⟩
  have HS3 := Lib.hid (HS2.out.later hb3)
  clear hb3 e0
  have e0 := HS3.out.fst.box.cell 0
  simp at e0
  have hfi := firstP_le l i
  have HM : Hid (∀ n ∈ seg l (firstP l i) (i + 1 - firstP l i), MvOk (-(firstP l i : Int)) n) := fun n hn => by
    obtain ⟨j, h1, h2, rfl⟩ := mem_seg (by omega) hn
    exact (HOK.out j (by omega)).mvOk (by omega) (txt_at HTX.out j) (by omega) (by omega)
  have HSL : Hid (∀ w', NRow w' (some ⟨ba, oa, none⟩) l → NRow w' (some ⟨ba, oa + firstP l i * 10, none⟩) (seg l (firstP l i) (i + 1 - firstP l i))) := fun w' h => h.part (by omega)
  have HLN : Hid ((seg l (firstP l i) (i + 1 - firstP l i)).length = i + 1 - firstP l i) := seg_length (by omega)
  have HSU : Hid (subL l i = (seg l (firstP l i) (i + 1 - firstP l i)).map (mvN (-(firstP l i : Int)))) := rfl
  generalize firstP l i = f at *
  generalize seg l f (i + 1 - f) = m at *
  have hic : (i : Int) + 1 ≤ (c : Int) := by omega
  have hfz : (f : Int) ≤ (i : Int) + 1 := by omega
  have hfc : ¬ (f = c) := by omega
  have hbl3 : ba < w3.heap.size := Nat.lt_of_lt_of_le hbl HS3.out.fst.bel.size
  have LC : Hid (Calls Tryd.prog 55 #[.slice none 0 0, .slice (some ⟨ba, oa + f * 10, none⟩) (i + 1 - f) (c - f), .int .i64 (-(f : Int))] w3 (LaidPost w3 w3.heap.size (subL l i))) := by
    have h := laid_any [] m (-(f : Int)) (.slice none 0 0) (some ⟨ba, oa + f * 10, none⟩) (c - f) w3.heap.size w3 (OwnN.nil _ _) (HSL.out _ HS3.out.fst.row) (fun b o e => by cases e; exact hbl3) (Nat.le_refl _) (by rw [HLN.out]; simp; omega) HM.out
    rw [HLN.out, List.nil_append] at h
    unfold Hid; rw [HSU.out]; exact h
  go_wp2_with fail
  refine LC.out.mono ?_; intro e w4 hp; obtain ⟨s, rfl, ho, hb4⟩ := hp
  obtain ⟨A2, c2, rfl, -⟩ := ho.row
  have HS4 := Lib.hid (HS3.out.later hb4)
  have HO := Lib.hid ho
  have hlow : w.heap.size + 1 < w3.heap.size := HS3.out.res.lt
  clear hb4 ho e0 LC
  have r0 := HS4.out.res.cell 0
  simp at r0
  have rf := HS4.out.res.frozen
  have s0 := HS4.out.res.put10 (o := 0) (by simp)
  go_wp2
  exact bodyPost_ret (v := .agg #[.slice A2 (subL l i).length c2]) (by simp [results, Tryd.results33, go_sem, s0]) rfl ⟨_, rfl, (HO.out.setCell_ne (a := ⟨w.heap.size + 1, 0, none⟩) hlow _).weaken (by omega), HS4.out.fst.bel.setCell (p := ⟨w.heap.size + 1, 0, none⟩) (Nat.le_succ _) _⟩
end Go.Proofs.YtgehepiphdphjaaDoor
