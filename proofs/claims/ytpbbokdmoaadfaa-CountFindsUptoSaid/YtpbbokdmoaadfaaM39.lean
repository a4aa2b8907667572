/- The document's ways of words: a row's, an or's, a star's, a repeat's. Walked. -/
import Derived.Test.YtpbbokdmoaadfaaM38
import Derived.Test.YtpbbokdmoaadfaaM24
import Derived.Test.YtpbbokdmoaadfaaM29
import Derived.Test.YtpbbokdmoaadfaaM15
import Derived.Test.YtpbbokdmoaadfaaM27
namespace Go.Proofs.Ytpbbokdmoaadfaa
set_option maxHeartbeats 64000000
set_option maxRecDepth 1000000
set_option linter.all false
open Go Go.RowKit
def EqV (x : Nat) (v : Value) (w : World) : Prop := v = .int .i64 (x : Int)
structure Sc (l : List Nd) : Prop where
 form : Form l
 len : l.length <= 4096
 tx : ∀ n ∈ l, n.text.length <= 1073741824
theorem few_sc {l : List Nd} (h : fewB l = true) (hF : Form l) : Sc l := ⟨hF, by have := (few_txt h).1; omega, fun n hn => by have := (few_txt h).2 n hn; omega⟩
section
variable {l : List Nd} {x uw : Value} {W : Wd} {w : World} (h : IsD l x w) (hs : Sc l) (hw : IsW W uw w) (hn : W.length <= 900)
include h hs hw hn
theorem IsD.cways : Calls Try.prog 13 #[x, uw] w (Ans w (.int .i64 ((wyD l W : Nat) : Int))) := by
 obtain ⟨A, c, hc, rfl, hrow⟩ := h
 exact cWays_any hs.form hs.len hs.tx hn w hrow hw
theorem IsD.chas : Calls Try.prog 14 #[x, uw] w (Ans w (.bool (decide (0 < wyD l W)))) := by
 obtain ⟨A, c, hc, rfl, hrow⟩ := h
 exact cHas_any hs.form hs.len hs.tx hn w hrow hw
theorem IsD.cvals : Calls Try.prog 16 #[x, uw] w (VusP w ((EN l (l.length - 1) W).take 2)) := by
 obtain ⟨A, c, hc, rfl, hrow⟩ := h
 exact cvalues_any hs.form hs.len hs.tx hn w hrow hw
end
theorem vals_len {l : List Nd} {W : Wd} (hF : Form l) : ((EN l (l.length - 1) W).take 2).length = wyD l W := by
 rw [List.length_take, wyD_eq, EN_length hF (by have := hF.1; omega)]
def fitsB (n m : Nat) : Bool := decide (n <= 16) && decide (m <= 8)
theorem rfits_any (A Au : Option Addr) (n c m cu : Nat) (w : World) (hn : n <= 9223372036854775807) (hm : m <= 9223372036854775807) : Calls Try.prog 10 #[.agg #[.slice A n c], .slice Au m cu] w (Ans w (.bool (fitsB n m))) := by
 have hb1 := (Below.refl w.heap.size w).alloc (Nat.le_refl _) (.cells #[.slice A n c] 24)
 have hz1 := Blk.new w #[.slice A n c] 24
 have HB1 := Lib.hid hb1
 clear hb1
 unfold fitsB
 by_cases h1 : n <= 16
 ·have h1z : (n : Int) <= 16 := by omega
  have hd1 : decide ((n : Int) <= 16) = true := decide_eq_true h1z
  by_cases h2 : m <= 8
  ·have h2z : (m : Int) <= 8 := by omega
   have hd2 : decide ((m : Int) <= 8) = true := decide_eq_true h2z
   rw [decide_eq_true h1, decide_eq_true h2]
   go_enter Try.func10, Try.ntmps10
   go_upto_region 1 with (fail)
   generalize w.alloc (.cells #[.slice A n c] 24) = w1 at *
   have d0 := hz1.cell 0
   simp at d0
   go_wp2
   go_ret
   exact ⟨rfl, HB1.out⟩
  ·have h2z : ¬ (m : Int) <= 8 := by omega
   have hd2 : decide ((m : Int) <= 8) = false := decide_eq_false h2z
   rw [decide_eq_true h1, decide_eq_false h2]
   go_enter Try.func10, Try.ntmps10
   go_upto_region 1 with (fail)
   generalize w.alloc (.cells #[.slice A n c] 24) = w1 at *
   have d0 := hz1.cell 0
   simp at d0
   go_wp2
   go_ret
   exact ⟨rfl, HB1.out⟩
 ·have h1z : ¬ (n : Int) <= 16 := by omega
  have hd1 : decide ((n : Int) <= 16) = false := decide_eq_false h1z
  have hb3 : (decide (n <= 16) && decide (m <= 8)) = false := by rw [decide_eq_false h1]; rfl
  rw [hb3]
  go_enter Try.func10, Try.ntmps10
  go_upto_region 1 with (fail)
  generalize w.alloc (.cells #[.slice A n c] 24) = w1 at *
  have d0 := hz1.cell 0
  simp at d0
  go_wp2
  go_ret
  exact ⟨rfl, HB1.out⟩
end Go.Proofs.Ytpbbokdmoaadfaa
namespace Go.Proofs.Ytpbbokdmoaadfaa
set_option maxHeartbeats 64000000
set_option maxRecDepth 1000000
set_option linter.all false
open Go Go.RowKit
structure Dx (b : Nat) (A : Option Addr) (l : List Nd) (n c : Nat) (w : World) : Prop where
 cap : l.length <= c
 len : l.length = n
 box : Blk w b #[.slice A n c] 24
 row : NRow w A l
theorem Dx.later {b : Nat} {A : Option Addr} {l : List Nd} {n c : Nat} {w w' : World} (h : Dx b A l n c w) (hb : Below w.heap.size w w') : Dx b A l n c w' := ⟨h.cap, h.len, h.box.later hb, h.row.later hb⟩
theorem Dx.isD {b : Nat} {A : Option Addr} {l : List Nd} {n c : Nat} {w : World} (h : Dx b A l n c w) : IsD l (.agg #[.slice A n c]) w := ⟨A, c, h.cap, by rw [h.len], h.row⟩
theorem Dx.load {b : Nat} {A : Option Addr} {l : List Nd} {n c : Nat} {w : World} (h : Dx b A l n c w) : w.cell? ⟨b, 0, none⟩ = some (.slice A n c) := by
 have := h.box.cell 0; simpa using this
theorem nrow_one {n : Nd} {b : Nat} {w : World} (h : Blk w b (ndC n) 44) : NRow w (some ⟨b, 0, none⟩) [n] := fun i hi => by
 obtain rfl : i = 0 := by simpa using hi
 exact ⟨b, 0, rfl, h.lt, fun j _ => by rw [h.cell]; simp⟩
theorem dx_one (n : Nd) (w : World) {cs : Array Value} (hc : ndC n = cs) : Dx (w.heap.size + 1) (some ⟨w.heap.size, 0, none⟩) [n] 1 1 ((w.alloc (.cells cs 44)).alloc (.cells #[.slice (some ⟨w.heap.size, 0, none⟩) 1 1] 24)) /\ Below w.heap.size w ((w.alloc (.cells cs 44)).alloc (.cells #[.slice (some ⟨w.heap.size, 0, none⟩) 1 1] 24)) := by
 subst hc
 exact ⟨⟨by simp, rfl, Blk.new' (by simp) _ _, nrow_one ((Blk.new w _ _).alloc _)⟩, ((Below.refl w.heap.size w).alloc (Nat.le_refl _) _).alloc (by simp) _⟩
theorem dx_of {l : List Nd} {w : World} {A : Option Addr} {n c : Nat} (hr : NRow w A l) (hl : l.length = n) (hc : n <= c) : Dx w.heap.size A l n c (w.alloc (.cells #[.slice A n c] 24)) :=
 ⟨by omega, hl, Blk.new w _ _, hr.later ((Below.refl w.heap.size w).alloc (Nat.le_refl _) _)⟩
def cwDn : Nd := { kind := 2, cls := rowB 0 255 }
def cwTn : Nd := { kind := 3, text := [97] }
def cwD : List Nd := [cwDn]
def cwT : List Nd := [cwTn]
def cwO : List Nd := pairL 5 cwD cwT
def cwS : List Nd := wrapL 6 0 0 cwO
def cwF : List Nd := wrapL 8 0 0 cwS
theorem cwO_a : wyD cwO [97] = 2 := by kernel_rfl
theorem cwO_b : wyD cwO [98] = 1 := by kernel_rfl
theorem cwO_e : wyD cwO [] = 0 := by kernel_rfl
theorem cwS_e : decide (0 < wyD cwS []) = true := by kernel_rfl
theorem cwS_ba : wyD cwS [98, 97] = 2 := by kernel_rfl
theorem cwF_1 : wyD cwF [1, 98] = 1 := by kernel_rfl
theorem cwF_2 : wyD cwF [2, 98] = 0 := by kernel_rfl
theorem cwD_sp : Sp cwD := sp_one ⟨rfl, .inr (.inl rfl)⟩ (.inr (.inl rfl)) (by decide)
theorem cwT_sp : Sp cwT := sp_one ⟨rfl, .inr (.inr (.inl ⟨rfl, by decide⟩))⟩ (.inr (.inr rfl)) (by decide)
theorem cwO_sp : Sp cwO := cwD_sp.pair cwT_sp (by decide) (.inr rfl)
theorem cwS_sp : Sp cwS := cwO_sp.wrap (by decide) (.inl rfl)
theorem cwF_sp : Sp cwF := cwS_sp.wrap (by decide) (.inr (.inl rfl))
theorem cwO_sc : Sc cwO := ⟨cwO_sp.sm.form, by decide, by decide⟩
theorem cwS_sc : Sc cwS := ⟨cwS_sp.sm.form, by decide, by decide⟩
theorem cwF_sc : Sc cwF := ⟨cwF_sp.sm.form, by decide, by decide⟩
def cwV1 : Vl := ⟨5, 0, [], 0, Vs.of [⟨2, 97, [], 0, .nil⟩]⟩
def cwV2 : Vl := ⟨5, 0, [], 1, Vs.of [⟨3, 0, [97], 0, .nil⟩]⟩
theorem cw_e0 : EN cwO 0 [97] = [⟨2, 97, [], 0, .nil⟩] := by
 unfold EN
 rw [if_neg (by decide), if_pos (by decide), if_pos ⟨rfl, by kernel_rfl⟩]
 rfl
theorem cw_e1 : EN cwO 1 [97] = [⟨3, 0, [97], 0, .nil⟩] := by
 unfold EN
 rw [if_neg (by decide), if_neg (by decide), if_pos (by decide), if_pos (by decide)]
 rfl
theorem cw_n0 : EN cwO 0 [] = [] := by
 unfold EN
 rw [if_neg (by decide), if_pos (by decide), if_neg (fun h => by cases h.1)]
theorem cw_n1 : EN cwO 1 [] = [] := by
 unfold EN
 rw [if_neg (by decide), if_neg (by decide), if_pos (by decide), if_neg (by decide)]
theorem cwO_v : (EN cwO (cwO.length - 1) [97]).take 2 = [cwV1, cwV2] := by
 rw [show cwO.length - 1 = 2 from rfl, EN_k5 cwO_sp.sm.form (show 2 < cwO.length by decide) (by decide)]
 show (((EN cwO 0 [97]).map fun x => (⟨5, 0, [], 0, Vs.of [x]⟩ : Vl)) ++ (EN cwO 1 [97]).map fun x => (⟨5, 0, [], 1, Vs.of [x]⟩ : Vl)).take 2 = _
 rw [cw_e0, cw_e1]
 rfl
theorem cwO_v0 : (EN cwO (cwO.length - 1) []).take 2 = [] := by
 rw [show cwO.length - 1 = 2 from rfl, EN_k5 cwO_sp.sm.form (show 2 < cwO.length by decide) (by decide)]
 show (((EN cwO 0 []).map fun x => (⟨5, 0, [], 0, Vs.of [x]⟩ : Vl)) ++ (EN cwO 1 []).map fun x => (⟨5, 0, [], 1, Vs.of [x]⟩ : Vl)).take 2 = _
 rw [cw_n0, cw_n1]
 rfl
theorem cwV_ne : sameV cwV1 cwV2 = false := sameV_f (fun h => by injection h with h1 h2 h3 h4 h5; cases h4)
end Go.Proofs.Ytpbbokdmoaadfaa
