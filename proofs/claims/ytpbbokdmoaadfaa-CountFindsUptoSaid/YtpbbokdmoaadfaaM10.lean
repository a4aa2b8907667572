/- The document's nodes: text, First, Form, Few, Same: walked. -/
import Derived.Test.YtpbbokdmoaadfaaM07
import Derived.Test.YtpbbokdmoaadfaaM09
namespace Go.Proofs.Ytpbbokdmoaadfaa
set_option maxHeartbeats 64000000
set_option maxRecDepth 1000000
set_option linter.all false
open Go Go.RowKit
def TxtLp (l : List UInt8) (w0 : World) (i : Value) (w : World) : Prop := ∃ k : Nat, k <= l.length /\ i = .int .i64 (k : Int) /\ (34 : UInt8) ∉ l.take k /\ w0 = w
theorem reftext_any (l : List UInt8) (hl : l.length < 9223372036854775800) (w : World) : Calls Try.prog 54 #[.string (bs l)] w (Pure w (.bool (textOk l))) := by
 obtain ⟨v, hv⟩ : ∃ v, textOk l = v := ⟨_, rfl⟩
 rw [hv]
 have HV := Lib.hid hv
 clear hv
 go_enter Try.func54, Try.ntmps54
 go_wp2
 go_loopw [3] (TxtLp l w) (fun i _ => l.length - (intOf i).toNat)
 case atStart => exact ⟨0, Nat.zero_le _, rfl, by simp, rfl⟩
 case round =>
  obtain ⟨k, hk, rfl, hu, rfl⟩ := hrel
  have HU := Lib.hid hu
  clear hu
  by_cases hlt : k < l.length
  ·have hltz : (k : Int) < ((bs l).size : Int) := by rw [bs_size]; omega
   have hq : k < (bs l).size := by rw [bs_size]; exact hlt
   have hget : (bs l)[k]'hq = l.getD k 0 := by rw [bs_get, List.getD_eq_getElem?_getD, List.getElem?_eq_getElem hlt]; rfl
   have HT : Hid (l.take (k + 1) = l.take k ++ [l.getD k 0]) := by unfold Hid; rw [List.take_succ_eq_append_getElem hlt, List.getD_eq_getElem?_getD, List.getElem?_eq_getElem hlt]; rfl
   generalize l.getD k 0 = c at *
   by_cases hc : c = 34
   ·subst hc
    have HR : Hid (v = false) := by
     unfold Hid; rw [<- HV.out]; unfold textOk
     have : (34 : UInt8) ∈ l := by
      have : (34 : UInt8) ∈ l.take (k + 1) := by rw [HT.out]; simp
      exact List.mem_of_mem_take this
     simp [this]
    clear hlt
    go_wp2
    go_ret
    exact ⟨by rw [HR.out]; rfl, rfl⟩
   ·have HN : Hid ((34 : UInt8) ∉ l.take (k + 1)) := by unfold Hid; rw [HT.out]; intro h; rcases List.mem_append.1 h with h | h; exact HU.out h; simp at h; exact hc h.symm
    have hcz : ((c.toNat : Int) == 34) = false := by rw [beq_eq_false_iff_ne]; intro e; apply hc; apply UInt8.toNat_inj.1; show _ = 34; omega
    have HLT := Lib.hid hlt
    clear hlt hc
    go_wp2
    go_roundw
    case rel => exact ⟨k + 1, HLT.out, by go_num, HN.out, rfl⟩
    case measure => have := HLT.out; simp [intOf] <;> omega
  ·obtain rfl : k = l.length := by omega
   have hltz : ¬ ((l.length : Nat) : Int) < ((bs l).size : Int) := by rw [bs_size]; omega
   have hno : (34 : UInt8) ∉ l := by have := HU.out; rwa [List.take_length] at this
   have HU8 := Lib.hid (fun w => refutf8_any l hl w)
   by_cases h0 : l = []
   ·have HR : Hid (v = false) := by unfold Hid; rw [<- HV.out]; unfold textOk; simp [h0]
    have hz : ¬ ((bs l).size : Int) > 0 := by rw [bs_size, h0]; decide
    clear hno h0
    go_wp2
    go_ret
    exact ⟨by rw [HR.out]; rfl, rfl⟩
   ·have HR : Hid (v = utf8L l) := by unfold Hid; rw [<- HV.out]; unfold textOk; simp [h0, hno]
    have hz : ((bs l).size : Int) > 0 := by rw [bs_size]; have := List.length_pos_iff.2 h0; omega
    clear hno h0
    go_wp2_with ((with_reducible refine (HU8.out _).mono ?_); rintro e w' ⟨rfl, rfl⟩)
    go_ret
    exact ⟨by rw [HR.out]; rfl, rfl⟩
def sumT (l : List Nd) : Nat := (l.map fun n => n.text.length).sum
def fewB (l : List Nd) : Bool := decide (l.length <= 100) && decide (sumT (l.take 200) <= 2000)
theorem sumT_snoc {l : List Nd} {k : Nat} (h : k < l.length) : sumT (l.take (k + 1)) = sumT (l.take k) + (l.getD k nd0).text.length := by
 unfold sumT
 rw [List.take_succ_eq_append_getElem h, List.map_append, List.sum_append, List.getD_eq_getElem?_getD, List.getElem?_eq_getElem h]; simp
theorem sumT_mem {l : List Nd} {n : Nd} (h : n ∈ l) : n.text.length <= sumT l := by
 unfold sumT
 induction l with
 | nil => cases h
 | cons x l ih =>
  rw [List.map_cons, List.sum_cons]
  rcases List.mem_cons.1 h with rfl | h
  ·omega
  ·have := ih h; omega
theorem few_txt {l : List Nd} (h : fewB l = true) : l.length <= 100 /\ ∀ n ∈ l, n.text.length <= 2000 := by
 unfold fewB at h
 simp only [Bool.and_eq_true, decide_eq_true_iff] at h
 refine ⟨h.1, fun n hn => ?_⟩
 rw [List.take_of_length_le (by omega)] at h
 exact Nat.le_trans (sumT_mem hn) h.2
theorem sumT_bound {l : List Nd} (h : ∀ n ∈ l, n.text.length <= 281474976710656) : sumT l <= l.length * 281474976710656 := by
 unfold sumT
 induction l with
 | nil => simp
 | cons x l ih =>
  rw [List.map_cons, List.sum_cons, List.length_cons]
  have h1 := h x (by simp)
  have h2 := ih (fun n hn => h n (by simp [hn]))
  omega
def FwL (w0 : World) (A : Option Addr) (l : List Nd) (c : Nat) (s i : Value) (w : World) : Prop :=
 ∃ k : Nat, k <= l.length /\ k <= 200 /\ i = .int .i64 (k : Int) /\ s = .int .i64 (sumT (l.take k) : Int) /\ FstS w0 A l c w
theorem few_any (l : List Nd) (A : Option Addr) (c : Nat) (hl : l.length <= 9223372036854775807) (htx : Txt l) (w : World) (hrow : NRow w A l) :
 Calls Try.prog 9 #[.agg #[.slice A l.length c]] w (Ans w (.bool (fewB l))) := by
 have HB := (Below.refl w.heap.size w).alloc (Nat.le_refl _) (.cells #[.slice A l.length c] 24)
 have HS0 : Hid (FstS w A l c (w.alloc (.cells #[.slice A l.length c] 24))) := ⟨HB, hrow.later HB, Blk.new _ _ _⟩
 have HTX := Lib.hid htx
 clear hrow HB htx
 obtain ⟨v, hv⟩ : ∃ v, fewB l = v := ⟨_, rfl⟩
 rw [hv]
 have HV := Lib.hid hv
 clear hv
 go_enter Try.func9, Try.ntmps9
 go_upto_region 1 with (fail)
 generalize w.alloc (.cells #[.slice A l.length c] 24) = w1 at *
 go_wp2
 go_loopw [3, 4] (FwL w A l c) (fun _ i _ => 200 - (intOf i).toNat)
 case atStart => exact ⟨0, Nat.zero_le _, by omega, rfl, rfl, HS0.out⟩
 case round =>
  obtain ⟨k, hk, hk2, rfl, rfl, hs⟩ := hrel
  have HS := Lib.hid hs
  have e0 := hs.box.cell 0
  simp at e0
  have hbd := sumT_bound (l := l.take k) (fun n hn => HTX.out n (List.mem_of_mem_take hn))
  rw [List.length_take] at hbd
  by_cases hlt : k < l.length
  ·have hltz : (k : Int) < (l.length : Int) := by omega
   by_cases h200 : k < 200
   ·have h2z : (k : Int) < 200 := by omega
    obtain ⟨ba, oa, rfl, -, -⟩ := hs.row k hlt
    obtain ⟨_, _, _, _, _, _, _, _, _, g9⟩ := hs.row.at hlt rfl
    have HN := Lib.hid (sumT_snoc hlt)
    have htk := HTX.out (l.getD k nd0) (by rw [List.getD_eq_getElem?_getD, List.getElem?_eq_getElem hlt]; exact List.getElem_mem _)
    have hbs := bs_size (l.getD k nd0).text
    generalize l.getD k nd0 = n at *
    have hb2 : sumT (l.take k) <= 72057594037927936 := by
     have : min k l.length <= 200 := by omega
     have := Nat.mul_le_mul_right 281474976710656 this
     omega
    generalize sumT (l.take k) = q at *
    have hbz : ((bs n.text).size : Int) = (n.text.length : Int) := by rw [hbs]
    have HBZ := Lib.hid hbz
    have hbz2 : ((bs n.text).size : Int) <= 281474976710656 := by omega
    clear hs hbd hbs hbz
    go_wp2
    go_roundw
    case rel => exact ⟨k + 1, by omega, by omega, by go_num, by have := HN.out; have := HBZ.out; congr 1; omega, HS.out⟩
    case measure => simp [intOf] <;> omega
   ·obtain rfl : k = 200 := by omega
    have HR : Hid (v = false) := by unfold Hid; rw [<- HV.out]; unfold fewB; simp; omega
    have hnz : ¬ (l.length : Int) <= 100 := by omega
    clear hs hbd
    go_wp2
    go_ret
    exact ⟨by rw [HR.out]; rfl, HS.out.bel⟩
  ·obtain rfl : k = l.length := by omega
   have hlast : ¬ ((l.length : Nat) : Int) < (l.length : Int) := by omega
   rw [List.take_length] at *
   by_cases h100 : l.length <= 100
   ·have h1z : (l.length : Int) <= 100 := by omega
    have HR : Hid (v = decide ((sumT l : Int) <= 2000)) := by
     unfold Hid; rw [<- HV.out]; unfold fewB; rw [List.take_of_length_le (by omega)]; simp [h100]; omega
    clear hs hbd h100
    generalize sumT l = q at *
    go_wp2
    go_ret
    exact ⟨by rw [HR.out]; rfl, HS.out.bel⟩
   ·have h1z : ¬ (l.length : Int) <= 100 := by omega
    have HR : Hid (v = false) := by unfold Hid; rw [<- HV.out]; unfold fewB; simp [h100]
    clear hs hbd h100
    go_wp2
    go_ret
    exact ⟨by rw [HR.out]; rfl, HS.out.bel⟩
end Go.Proofs.Ytpbbokdmoaadfaa
