/- Sizes: what the laws call, of descriptions wherever they stand. -/
import Derived.Test.YtidoofdofdhjpaaM20
import Derived.Test.YtidoofdofdhjpaaM17
import Derived.Test.YtidoofdofdhjpaaM12
namespace Go.Proofs.Ytidoofdofdhjpaa
open Go Go.RowKit
set_option linter.unusedVariables false
set_option linter.unusedSimpArgs false
structure Sm (l : List Nd) : Prop where
 form : Form l
 len : l.length <= 4096
 txt : Txt l
theorem Form.at_ {l : List Nd} (h : Form l) {n : Nd} (hn : n ∈ l) : ∃ i, i < l.length /\ atN l i = n := by
 obtain ⟨i, hi, rfl⟩ := List.mem_iff_getElem.1 hn
 exact ⟨i, hi, by unfold atN; rw [List.getD_eq_getElem?_getD, List.getElem?_eq_getElem hi]; rfl⟩
theorem Sm.mv {l : List Nd} (h : Sm l) {d : Int} (h1 : -1073741824 <= d) (h2 : d <= 1073741824) : ∀ n ∈ l, MvOk d n /\ n.kind <= 9 := fun n hn => by
 have hl := h.len
 obtain ⟨i, hi, rfl⟩ := h.form.at_ hn
 exact ⟨(h.form.2.1 i hi).mvOk (by omega) (txt_at h.txt i) h1 h2, (h.form.2.1 i hi).kind9⟩
theorem Txt.snoc {l : List Nd} (h : Txt l) {n : Nd} (hn : n.text = []) : Txt (l ++ [n]) := fun m hm => by
 rcases List.mem_append.1 hm with h1 | h1
 ·exact h m h1
 ·rw [List.mem_singleton.1 h1, hn]; simp
theorem Sm.wrap {l : List Nd} (h : Sm l) (hl : l.length <= 999) {kind : Int} (hk : kind = 6 \/ kind = 8 \/ kind = 9) : Sm (wrapL kind 0 0 l) :=
 ⟨wrap_form h.form hk ⟨rfl, rfl⟩, by unfold wrapL; rw [List.length_append]; simp; omega, by unfold wrapL; exact h.txt.snoc rfl⟩
theorem IsD.rwrap {l : List Nd} {v : Value} {w : World} (h : IsD l v w) (hs : Sm l) (kind lo hi : Int) : Calls Try.prog 20 #[.int .i64 kind, .int .i64 lo, .int .i64 hi, v] w (DPost w (wrapL kind lo hi l)) := by
 obtain ⟨A, c, hc, rfl, hr⟩ := h
 exact rwrap_any kind lo hi l A c hs.form.1 (by have := hs.len; omega) (hs.mv (by omega) (by omega)) w hr
theorem IsD.rpair {l m : List Nd} {u v : Value} {w : World} (h : IsD l u w) (k : IsD m v w) (hs : Sm l) (ks : Sm m) (kind : Int) : Calls Try.prog 26 #[.int .i64 kind, u, v] w (DPost w (pairL kind l m)) := by
 obtain ⟨A, c, hc, rfl, hr⟩ := h
 obtain ⟨B, d, hd, rfl, hq⟩ := k
 have h1 := hs.len
 have h2 := ks.len
 exact rpairs_any kind l m A B c d hs.form.1 ks.form.1 (by omega) (by omega) (hs.mv (by omega) (by omega)) (ks.mv (by omega) (by omega)) w hr hq
set_option maxRecDepth 100000
def rgB (l : List Nd) : Bool := !(fstW l).2 && formB l
theorem rgB_iff (l : List Nd) : rgB l = true ↔ Rgt l := by
 unfold rgB Rgt
 rw [Bool.and_eq_true, formB_iff, Bool.not_eq_true', fstW_right]
 exact ⟨fun h => ⟨h.2, h.1⟩, fun h => ⟨h.2, h.1⟩⟩
def fstV (l : List Nd) : Value := .tuple #[.int .i64 ((fstW l).1 : Int), .bool (fstW l).2]
structure NrwS (w0 : World) (A : Option Addr) (l : List Nd) (c : Nat) (S : List Nat) (v : Value) (w : World) : Prop where
 bel : Below w0.heap.size w0 w
 own : OwnI w (w0.heap.size + 1) v (natI S)
 row : NRow w A l
 box : Blk w w0.heap.size #[.slice A l.length c] 24
 low : w0.heap.size + 1 <= w.heap.size
theorem NrwS.later {w0 w w' : World} {A : Option Addr} {l : List Nd} {c : Nat} {S : List Nat} {v : Value} (h : NrwS w0 A l c S v w) (hb : Below w.heap.size w w') : NrwS w0 A l c S v w' :=
 ⟨h.bel.trans (hb.mono h.bel.size), h.own.later hb, h.row.later hb, h.box.later hb, Nat.le_trans h.low hb.size⟩
structure NrxS (w0 : World) (A : Option Addr) (l : List Nd) (c : Nat) (S : List Nat) (v : Value) (bx : Nat) (n : Nd) (B : Option Addr) (w : World) : Prop where
 s : NrwS w0 A l c S v w
 x : Blk w bx (ndC n) 58
 r : IRow w B (natI S)
theorem NrxS.later {w0 w w' : World} {A : Option Addr} {l : List Nd} {c : Nat} {S : List Nat} {v : Value} {bx : Nat} {n : Nd} {B : Option Addr} (h : NrxS w0 A l c S v bx n B w) (hb : Below w.heap.size w w') : NrxS w0 A l c S v bx n B w' := ⟨h.s.later hb, h.x.later hb, h.r.later hb⟩
def NrwL (w0 : World) (A : Option Addr) (l : List Nd) (c i : Nat) (v x : Value) (w : World) : Prop := ∃ k : Nat, k <= i + 1 /\ x = .int .i64 (k : Int) /\ NrwS w0 A l c (wys l k) v w
def RtL (w3 : World) (a lo hi : Nat) (x t : Value) (w : World) : Prop := ∃ j : Nat, lo + j <= hi + 1 /\ t = .int .i64 ((lo + j : Nat) : Int) /\ x = .int .i64 ((rsW a (lo : Int) j : Nat) : Int) /\ w = w3
def RmL (w3 : World) (a t : Nat) (p m : Value) (w : World) : Prop := ∃ j : Nat, j <= t /\ m = .int .i64 (j : Int) /\ p = .int .i64 ((powW a (j : Int) : Nat) : Int) /\ w = w3
set_option maxHeartbeats 32000000 in
theorem rways_any (l : List Nd) (A : Option Addr) (c : Nat) (hc : l.length <= c) (hlen : l.length <= 536870912) (i : Nat) (hi : i < l.length) (hok : okTo l i) (w : World) (hrow : NRow w A l) :
 Calls Try.prog 42 #[.agg #[.slice A l.length c], .int .i64 (i : Int)] w (Ans w (.int .i64 ((wyN l i : Nat) : Int))) := by
 have HB := (Below.refl w.heap.size w).alloc (Nat.le_refl _) (.cells #[.slice A l.length c] 24)
 have HS0 : Hid (NrwS w A l c [] (.slice none 0 0) (w.alloc (.cells #[.slice A l.length c] 24))) := ⟨HB, OwnI.nil _ _, hrow.later HB, Blk.new _ _ _, by simp⟩
 have hA : ∀ b o, A = some ⟨b, o, none⟩ -> b < w.heap.size := fun b o e => by
  obtain ⟨b', o', h1, h2, _⟩ := hrow 0 (by omega)
  rw [e] at h1; cases h1; exact h2
 have HA := Lib.hid hA
 obtain ⟨ba, oa, rfl, -, -⟩ := hrow i hi
 have HOK := Lib.hid hok
 obtain ⟨v, hv⟩ : ∃ v, wyN l i = v := ⟨_, rfl⟩
 rw [hv]
 have HV := Lib.hid hv
 clear hrow HB hok hA hv
 have hi1 : (i : Int) <= 536870912 := by omega
 go_enter Try.func42, Try.ntmps42
 go_upto_region 1 with (fail)
 generalize w.alloc (.cells #[.slice (some ⟨ba, oa, none⟩) l.length c] 24) = w1 at *
 go_wp2
 go_loopw [5, 6] (NrwL w (some ⟨ba, oa, none⟩) l c i) (fun _ x _ => i + 1 - (intOf x).toNat)
 case atStart => exact ⟨0, Nat.zero_le _, rfl, HS0.out⟩
 case round =>
  obtain ⟨k, hk, rfl, hs⟩ := hrel
  have HS := Lib.hid hs
  clear hs HS0
  by_cases hlt : k < i + 1
  ·have hltz : (k : Int) <= (i : Int) := by omega
   have hkl : k < l.length := by omega
   have hklz : (k : Int) < (l.length : Int) := by omega
   have g : At10 wr ba (oa + k * 10) (l.getD k nd0) := HS.out.row.at hkl rfl
   have hcs := (HOK.out k (by omega)).cs rfl
   have hn : atN l k = l.getD k nd0 := rfl
   rw [hn] at hcs
   have HN0 : Hid (wys l (k + 1) = wys l k ++ [waysW (l.getD k nd0) (wys l k)]) := rfl
   have HL := Lib.hid (wys_le l k)
   have hkS : (wys l k).length = k := wys_length l k
   generalize hS : wys l k = S at *
   clear hS
   generalize l.getD k nd0 = n at *
   clear hn
   obtain ⟨a7, c7, hv7, hr7⟩ := HS.out.own.row
   rw [natI_length, hkS] at hv7
   subst hv7
   have HS1 : Hid ((natI S).length < 1073741824) := by unfold Hid; rw [natI_length, hkS]; omega
   have HXN : Hid (∀ x, waysW n S = x -> wys l (k + 1) = S ++ [x]) := fun x hx => by rw [HN0.out, hx]
   have HR7 := Lib.hid hr7
   have HKS := Lib.hid hkS
   clear hr7 hkS HN0
   have hb2 := (Below.refl wr.heap.size wr).alloc (Nat.le_refl _) (.cells (ndC n) 58)
   have HS3 := Lib.hid (HS.out.later hb2)
   have HR3 := Lib.hid (HR7.out.later hb2)
   have HX3 := Lib.hid (Blk.new wr (ndC n) 58)
   have e0 := HS.out.box.cell 0
   simp at e0
   clear hb2 HR7
   obtain ⟨kk, na, nb, nlo, nhi, ncls, ntext⟩ := n
   unfold At10 at g
   simp only at g
   obtain ⟨g0, g1, g2, g3, g4, g5, g6, g7, g8, g9⟩ := g
   unfold ndC at HS3 HR3 HX3
   simp only at HS3 HR3 HX3
   go_upto_region 6 with (fail)
   clear g0 g1 g2 g3 g4 g5 g6 g7 g8 g9 e0 HS
   generalize wr.alloc (.cells #[.int .i64 kk, .int .i64 na, .int .i64 nb, .int .i64 nlo, .int .i64 nhi, .int .u64 (wd ncls 0), .int .u64 (wd ncls 1), .int .u64 (wd ncls 2), .int .u64 (wd ncls 3), .string (bs ntext)] 58) = w3 at *
   generalize wr.heap.size = bx at *
   have gg := HX3.out
   obtain ⟨g0, g1, g2, g3, g4, g5, g6, g7, g8, g9⟩ := ten_cells gg
   clear gg
   have HCS := Lib.hid hcs
   clear hcs
   cases HCS.out with
   | leaf hk hf =>
    clear HCS
    unfold leafK at hk
    simp only at hk
    rcases hk with rfl | rfl | rfl
    ·
     have HN := Lib.hid (HXN.out 1 (by simp [waysW]))
     have HX4 : Hid (Blk (w3.alloc (.cells #[.int .i64 ((1 : Nat) : Int)] 3)) w3.heap.size #[.int .i64 ((1 : Nat) : Int)] 3) := Blk.new _ _ _
     have HS4 := Lib.hid (HS3.out.later ((Below.refl _ _).alloc (Nat.le_refl _) (.cells #[.int .i64 ((1 : Nat) : Int)] 3)))
     clear HXN
     have hlow4 := HS4.out.low
     have hlow5 : w.heap.size <= w.heap.size + 1 := Nat.le_succ _
     go_wp2_with (at_builtin; refine wpList_append_int rfl _ _ rfl (w.heap.size + 1) _ (natI S) rfl HS4.out.own _ ((1 : Nat) : Int) rfl HX4.out HS1.out hlow4 ?_; intro v' w6 h1 h2 h3; rw [natI_snoc, <- HN.out] at h1; have HO6 := Lib.hid h1; have HB6 := Lib.hid ((Below.refl (w.heap.size + 1) _).grown h2 hlow4 (fun k hk => (World.ownsRow.lt HS4.out.own k hk).1)); clear h1 h2 h3)
     have HS6 : Hid (NrwS w (some ⟨ba, oa, none⟩) l c (wys l (k + 1)) v' w6) := ⟨HS4.out.bel.trans (HB6.out.mono (Nat.le_succ _)), HO6.out, HS4.out.row.below (fun b o e => Nat.lt_succ_of_lt (HA.out b o e)) HB6.out HB6.out.size, (HB6.out.block w.heap.size (Nat.lt_succ_self _)).trans HS4.out.box, Nat.le_trans hlow4 HB6.out.size⟩
     clear HO6 HB6 HS4 HX4
     go_wp2
     go_roundw
     case rel => exact ⟨k + 1, by omega, by go_num, HS6.out⟩
     case measure => simp [intOf]; omega
    ·
     have HN := Lib.hid (HXN.out 0 (by simp [waysW]))
     have HX4 : Hid (Blk (w3.alloc (.cells #[.int .i64 ((0 : Nat) : Int)] 3)) w3.heap.size #[.int .i64 ((0 : Nat) : Int)] 3) := Blk.new _ _ _
     have HS4 := Lib.hid (HS3.out.later ((Below.refl _ _).alloc (Nat.le_refl _) (.cells #[.int .i64 ((0 : Nat) : Int)] 3)))
     clear HXN
     have hlow4 := HS4.out.low
     have hlow5 : w.heap.size <= w.heap.size + 1 := Nat.le_succ _
     go_wp2_with (at_builtin; refine wpList_append_int rfl _ _ rfl (w.heap.size + 1) _ (natI S) rfl HS4.out.own _ ((0 : Nat) : Int) rfl HX4.out HS1.out hlow4 ?_; intro v' w6 h1 h2 h3; rw [natI_snoc, <- HN.out] at h1; have HO6 := Lib.hid h1; have HB6 := Lib.hid ((Below.refl (w.heap.size + 1) _).grown h2 hlow4 (fun k hk => (World.ownsRow.lt HS4.out.own k hk).1)); clear h1 h2 h3)
     have HS6 : Hid (NrwS w (some ⟨ba, oa, none⟩) l c (wys l (k + 1)) v' w6) := ⟨HS4.out.bel.trans (HB6.out.mono (Nat.le_succ _)), HO6.out, HS4.out.row.below (fun b o e => Nat.lt_succ_of_lt (HA.out b o e)) HB6.out HB6.out.size, (HB6.out.block w.heap.size (Nat.lt_succ_self _)).trans HS4.out.box, Nat.le_trans hlow4 HB6.out.size⟩
     clear HO6 HB6 HS4 HX4
     go_wp2
     go_roundw
     case rel => exact ⟨k + 1, by omega, by go_num, HS6.out⟩
     case measure => simp [intOf]; omega
    ·
     have HN := Lib.hid (HXN.out 0 (by simp [waysW]))
     have HX4 : Hid (Blk (w3.alloc (.cells #[.int .i64 ((0 : Nat) : Int)] 3)) w3.heap.size #[.int .i64 ((0 : Nat) : Int)] 3) := Blk.new _ _ _
     have HS4 := Lib.hid (HS3.out.later ((Below.refl _ _).alloc (Nat.le_refl _) (.cells #[.int .i64 ((0 : Nat) : Int)] 3)))
     clear HXN
     have hlow4 := HS4.out.low
     have hlow5 : w.heap.size <= w.heap.size + 1 := Nat.le_succ _
     go_wp2_with (at_builtin; refine wpList_append_int rfl _ _ rfl (w.heap.size + 1) _ (natI S) rfl HS4.out.own _ ((0 : Nat) : Int) rfl HX4.out HS1.out hlow4 ?_; intro v' w6 h1 h2 h3; rw [natI_snoc, <- HN.out] at h1; have HO6 := Lib.hid h1; have HB6 := Lib.hid ((Below.refl (w.heap.size + 1) _).grown h2 hlow4 (fun k hk => (World.ownsRow.lt HS4.out.own k hk).1)); clear h1 h2 h3)
     have HS6 : Hid (NrwS w (some ⟨ba, oa, none⟩) l c (wys l (k + 1)) v' w6) := ⟨HS4.out.bel.trans (HB6.out.mono (Nat.le_succ _)), HO6.out, HS4.out.row.below (fun b o e => Nat.lt_succ_of_lt (HA.out b o e)) HB6.out HB6.out.size, (HB6.out.block w.heap.size (Nat.lt_succ_self _)).trans HS4.out.box, Nat.le_trans hlow4 HB6.out.size⟩
     clear HO6 HB6 HS4 HX4
     go_wp2
     go_roundw
     case rel => exact ⟨k + 1, by omega, by go_num, HS6.out⟩
     case measure => simp [intOf]; omega
   | one hk hi0 ha hb h7 hr hc hf =>
    clear HCS
    simp only at hk ha hb h7 hr hc
    clear hf hb h7 hc
    have hkk : kk = 6 \/ kk = 7 \/ kk = 8 \/ kk = 9 := by omega
    rcases hkk with rfl | rfl | rfl | rfl
    ·
     obtain ⟨q, hq⟩ : ∃ q, k = q + 1 := ⟨k - 1, by omega⟩
     obtain rfl : na = (q : Int) := by omega
     have hqz : (q : Int) < (k : Int) := by omega
     have hps : partS S (q : Int) = S.getD q 0 := by unfold partS; rw [if_pos ⟨by omega, by rw [HKS.out]; omega⟩]; rfl
     have hx2 : S.getD q 0 <= 2 := by rw [<- hps]; exact partS_two HL.out _
     obtain ⟨b7, o7, hae, -, hc7⟩ := HR3.out q (by rw [natI_length, HKS.out]; omega)
     subst hae
     rw [natI_get (by rw [HKS.out]; omega)] at hc7
     have HW : Hid (waysW ⟨6, (q : Int), nb, nlo, nhi, ncls, ntext⟩ S = min (1 + S.getD q 0) 2) := by unfold Hid; simp [waysW, hps]
     generalize S.getD q 0 = x at *
     clear hps hr hi0 ha hq
     by_cases hx : x = 0
     ·subst hx
      have h0 : ¬ ((0 : Nat) : Int) > 0 := by omega
      have HN := Lib.hid (HXN.out 1 (by rw [HW.out]; rfl))
      have HX4 : Hid (Blk (w3.alloc (.cells #[.int .i64 ((1 : Nat) : Int)] 3)) w3.heap.size #[.int .i64 ((1 : Nat) : Int)] 3) := Blk.new _ _ _
      have HS4 := Lib.hid (HS3.out.later ((Below.refl _ _).alloc (Nat.le_refl _) (.cells #[.int .i64 ((1 : Nat) : Int)] 3)))
      clear HXN
      have hlow4 := HS4.out.low
      have hlow5 : w.heap.size <= w.heap.size + 1 := Nat.le_succ _
      go_wp2_with (at_builtin; refine wpList_append_int rfl _ _ rfl (w.heap.size + 1) _ (natI S) rfl HS4.out.own _ ((1 : Nat) : Int) rfl HX4.out HS1.out hlow4 ?_; intro v' w6 h1 h2 h3; rw [natI_snoc, <- HN.out] at h1; have HO6 := Lib.hid h1; have HB6 := Lib.hid ((Below.refl (w.heap.size + 1) _).grown h2 hlow4 (fun k hk => (World.ownsRow.lt HS4.out.own k hk).1)); clear h1 h2 h3)
      have HS6 : Hid (NrwS w (some ⟨ba, oa, none⟩) l c (wys l (k + 1)) v' w6) := ⟨HS4.out.bel.trans (HB6.out.mono (Nat.le_succ _)), HO6.out, HS4.out.row.below (fun b o e => Nat.lt_succ_of_lt (HA.out b o e)) HB6.out HB6.out.size, (HB6.out.block w.heap.size (Nat.lt_succ_self _)).trans HS4.out.box, Nat.le_trans hlow4 HB6.out.size⟩
      clear HO6 HB6 HS4 HX4
      go_wp2
      go_roundw
      case rel => exact ⟨k + 1, by omega, by go_num, HS6.out⟩
      case measure => simp [intOf]; omega
     ·have h0 : (x : Int) > 0 := by omega
      have HN := Lib.hid (HXN.out 2 (by rw [HW.out]; omega))
      have HX4 : Hid (Blk (w3.alloc (.cells #[.int .i64 ((2 : Nat) : Int)] 3)) w3.heap.size #[.int .i64 ((2 : Nat) : Int)] 3) := Blk.new _ _ _
      have HS4 := Lib.hid (HS3.out.later ((Below.refl _ _).alloc (Nat.le_refl _) (.cells #[.int .i64 ((2 : Nat) : Int)] 3)))
      clear HXN
      have hlow4 := HS4.out.low
      have hlow5 : w.heap.size <= w.heap.size + 1 := Nat.le_succ _
      go_wp2_with (at_builtin; refine wpList_append_int rfl _ _ rfl (w.heap.size + 1) _ (natI S) rfl HS4.out.own _ ((2 : Nat) : Int) rfl HX4.out HS1.out hlow4 ?_; intro v' w6 h1 h2 h3; rw [natI_snoc, <- HN.out] at h1; have HO6 := Lib.hid h1; have HB6 := Lib.hid ((Below.refl (w.heap.size + 1) _).grown h2 hlow4 (fun k hk => (World.ownsRow.lt HS4.out.own k hk).1)); clear h1 h2 h3)
      have HS6 : Hid (NrwS w (some ⟨ba, oa, none⟩) l c (wys l (k + 1)) v' w6) := ⟨HS4.out.bel.trans (HB6.out.mono (Nat.le_succ _)), HO6.out, HS4.out.row.below (fun b o e => Nat.lt_succ_of_lt (HA.out b o e)) HB6.out HB6.out.size, (HB6.out.block w.heap.size (Nat.lt_succ_self _)).trans HS4.out.box, Nat.le_trans hlow4 HB6.out.size⟩
      clear HO6 HB6 HS4 HX4
      go_wp2
      go_roundw
      case rel => exact ⟨k + 1, by omega, by go_num, HS6.out⟩
      case measure => simp [intOf]; omega
    ·
     have hr7 := hr rfl
     obtain ⟨lo, rfl⟩ : ∃ lo : Nat, nlo = (lo : Int) := ⟨nlo.toNat, by omega⟩
     obtain ⟨hi, rfl⟩ : ∃ hi : Nat, nhi = (hi : Int) := ⟨nhi.toNat, by omega⟩
     obtain ⟨q, hq⟩ : ∃ q, k = q + 1 := ⟨k - 1, by omega⟩
     obtain rfl : na = (q : Int) := by omega
     have hqz : (q : Int) < (k : Int) := by omega
     have hps : partS S (q : Int) = S.getD q 0 := by unfold partS; rw [if_pos ⟨by omega, by rw [HKS.out]; omega⟩]; rfl
     have hx2 : S.getD q 0 <= 2 := by rw [<- hps]; exact partS_two HL.out _
     obtain ⟨b7, o7, hae, -, hc7⟩ := HR3.out q (by rw [natI_length, HKS.out]; omega)
     subst hae
     rw [natI_get (by rw [HKS.out]; omega)] at hc7
     have HW : Hid (waysW ⟨7, (q : Int), nb, (lo : Int), (hi : Int), ncls, ntext⟩ S = tmsW (S.getD q 0) (lo : Int) (hi : Int)) := by unfold Hid; simp [waysW, hps]
     generalize S.getD q 0 = x at *
     have hhi : (hi : Int) <= 255 := hr7.2.2
     have hlh : lo <= hi := by omega
     clear hps hr hi0 ha hq hr7
     have HALL : Hid (rsW x (lo : Int) (hi + 1 - lo) = tmsW x (lo : Int) (hi : Int)) := by
      have := rsW_all hx2 (lo := (lo : Int)) (hi := (hi : Int)) (by omega) (by omega)
      rwa [show ((hi : Int) - (lo : Int) + 1).toNat = hi + 1 - lo by omega] at this
     go_upto_region 20 with (fail)
     go_loopw [8, 9] (RtL w3 x lo hi) (fun _ t _ => hi + 1 - (intOf t).toNat)
     case atStart => exact ⟨0, by omega, rfl, rfl, rfl⟩
     case round =>
      obtain ⟨j, hj, rfl, rfl, hwe⟩ := hrel
      replace hwe := hwe.symm
      subst hwe
      have hw2 := rsW_le x (lo : Int) j
      have HST : Hid (rsW x (lo : Int) (j + 1) = min 2 (rsW x (lo : Int) j + powW x ((lo + j : Nat) : Int))) := by unfold Hid; rw [rsW]; rfl
      have HAT : Hid (lo + j = hi + 1 -> rsW x (lo : Int) j = tmsW x (lo : Int) (hi : Int)) := fun e => by rw [<- HALL.out, show j = hi + 1 - lo by omega]
      generalize rsW x (lo : Int) j = u at *
      by_cases hjh : lo + j <= hi
      ·have hjz : ((lo + j : Nat) : Int) <= (hi : Int) := by omega
       clear HAT
       generalize ht : lo + j = t at hj hjh hjz HST ⊢
       have HT := Lib.hid ht
       clear ht
       go_upto_region 24 with (fail)
       go_loopw [10, 11] (RmL w3 x t) (fun _ m _ => t - (intOf m).toNat)
       case atStart => exact ⟨0, by omega, rfl, rfl, rfl⟩
       case round =>
        obtain ⟨d, hd, rfl, rfl, hwe⟩ := hrel
        replace hwe := hwe.symm
        subst hwe
        have hp2 := powW_le hx2 ((d : Nat) : Int)
        have HPS : Hid (min 2 (powW x ((d : Nat) : Int) * x) = powW x ((d + 1 : Nat) : Int)) := powW_step hx2
        have HPE : Hid (d = t -> powW x ((d : Nat) : Int) = powW x ((t : Nat) : Int)) := fun e => by rw [e]
        generalize hpp : powW x ((d : Nat) : Int) = p at *
        clear hpp
        by_cases hdt : d < t
        ·have hdz : (d : Int) < (t : Int) := by omega
         have hxy : p * x <= 4 := Nat.mul_le_mul hp2 hx2
         have hcc : ((p * x : Nat) : Int) = (p : Int) * (x : Int) := by simp
         have hm1 : (p : Int) * (x : Int) <= 4 := by rw [<- hcc]; omega
         have hm0 : 0 <= (p : Int) * (x : Int) := by rw [<- hcc]; omega
         have hmn : Hid (min (2 : Int) ((p : Int) * (x : Int)) = ((powW x ((d + 1 : Nat) : Int) : Nat) : Int)) := by unfold Hid; rw [<- HPS.out, <- hcc]; omega
         clear hcc hxy HPS HPE
         go_wp2
         go_roundw
         case rel => exact ⟨d + 1, by omega, by go_num, by rw [hmn.out], rfl⟩
         case measure => simp [intOf]; omega
        ·have hdz : ¬ (d : Int) < (t : Int) := by omega
         have HPT := Lib.hid (HPE.out (by omega))
         have hup : Hid (min (2 : Int) ((u : Int) + (p : Int)) = ((rsW x (lo : Int) (j + 1) : Nat) : Int)) := by unfold Hid; rw [HST.out, <- HPT.out]; omega
         clear HPS HPE HPT HST
         go_wp2
         go_roundw
         case rel => exact ⟨j + 1, by have := HT.out; omega, by have := HT.out; go_num, by rw [hup.out], rfl⟩
         case measure => simp [intOf]; omega
      ·have HWT := Lib.hid (HAT.out (by omega))
       have hjz : ¬ ((lo + j : Nat) : Int) <= (hi : Int) := by omega
       clear HST HAT
       generalize ht : lo + j = t at hj hjh hjz ⊢
       clear ht
       rw [<- HWT.out] at HW
       have hmn : min (2 : Int) (u : Int) = (u : Int) := by omega
       clear HWT HALL
       have HN := Lib.hid (HXN.out u HW.out)
       have HX4 : Hid (Blk (w3.alloc (.cells #[.int .i64 (u : Int)] 3)) w3.heap.size #[.int .i64 (u : Int)] 3) := Blk.new _ _ _
       have HS4 := Lib.hid (HS3.out.later ((Below.refl _ _).alloc (Nat.le_refl _) (.cells #[.int .i64 (u : Int)] 3)))
       clear HXN
       have hlow4 := HS4.out.low
       have hlow5 : w.heap.size <= w.heap.size + 1 := Nat.le_succ _
       go_wp2_with (at_builtin; refine wpList_append_int rfl _ _ rfl (w.heap.size + 1) _ (natI S) rfl HS4.out.own _ (u : Int) rfl HX4.out HS1.out hlow4 ?_; intro v' w6 h1 h2 h3; rw [natI_snoc, <- HN.out] at h1; have HO6 := Lib.hid h1; have HB6 := Lib.hid ((Below.refl (w.heap.size + 1) _).grown h2 hlow4 (fun k hk => (World.ownsRow.lt HS4.out.own k hk).1)); clear h1 h2 h3)
       have HS6 : Hid (NrwS w (some ⟨ba, oa, none⟩) l c (wys l (k + 1)) v' w6) := ⟨HS4.out.bel.trans (HB6.out.mono (Nat.le_succ _)), HO6.out, HS4.out.row.below (fun b o e => Nat.lt_succ_of_lt (HA.out b o e)) HB6.out HB6.out.size, (HB6.out.block w.heap.size (Nat.lt_succ_self _)).trans HS4.out.box, Nat.le_trans hlow4 HB6.out.size⟩
       clear HO6 HB6 HS4 HX4
       go_wp2
       go_roundw
       case rel => exact ⟨k + 1, by omega, by go_num, HS6.out⟩
       case measure => simp [intOf]; omega
    ·
     have HN := Lib.hid (HXN.out 0 (by simp [waysW]))
     have HX4 : Hid (Blk (w3.alloc (.cells #[.int .i64 ((0 : Nat) : Int)] 3)) w3.heap.size #[.int .i64 ((0 : Nat) : Int)] 3) := Blk.new _ _ _
     have HS4 := Lib.hid (HS3.out.later ((Below.refl _ _).alloc (Nat.le_refl _) (.cells #[.int .i64 ((0 : Nat) : Int)] 3)))
     clear HXN
     have hlow4 := HS4.out.low
     have hlow5 : w.heap.size <= w.heap.size + 1 := Nat.le_succ _
     go_wp2_with (at_builtin; refine wpList_append_int rfl _ _ rfl (w.heap.size + 1) _ (natI S) rfl HS4.out.own _ ((0 : Nat) : Int) rfl HX4.out HS1.out hlow4 ?_; intro v' w6 h1 h2 h3; rw [natI_snoc, <- HN.out] at h1; have HO6 := Lib.hid h1; have HB6 := Lib.hid ((Below.refl (w.heap.size + 1) _).grown h2 hlow4 (fun k hk => (World.ownsRow.lt HS4.out.own k hk).1)); clear h1 h2 h3)
     have HS6 : Hid (NrwS w (some ⟨ba, oa, none⟩) l c (wys l (k + 1)) v' w6) := ⟨HS4.out.bel.trans (HB6.out.mono (Nat.le_succ _)), HO6.out, HS4.out.row.below (fun b o e => Nat.lt_succ_of_lt (HA.out b o e)) HB6.out HB6.out.size, (HB6.out.block w.heap.size (Nat.lt_succ_self _)).trans HS4.out.box, Nat.le_trans hlow4 HB6.out.size⟩
     clear HO6 HB6 HS4 HX4
     go_wp2
     go_roundw
     case rel => exact ⟨k + 1, by omega, by go_num, HS6.out⟩
     case measure => simp [intOf]; omega
    ·
     have HN := Lib.hid (HXN.out 0 (by simp [waysW]))
     have HX4 : Hid (Blk (w3.alloc (.cells #[.int .i64 ((0 : Nat) : Int)] 3)) w3.heap.size #[.int .i64 ((0 : Nat) : Int)] 3) := Blk.new _ _ _
     have HS4 := Lib.hid (HS3.out.later ((Below.refl _ _).alloc (Nat.le_refl _) (.cells #[.int .i64 ((0 : Nat) : Int)] 3)))
     clear HXN
     have hlow4 := HS4.out.low
     have hlow5 : w.heap.size <= w.heap.size + 1 := Nat.le_succ _
     go_wp2_with (at_builtin; refine wpList_append_int rfl _ _ rfl (w.heap.size + 1) _ (natI S) rfl HS4.out.own _ ((0 : Nat) : Int) rfl HX4.out HS1.out hlow4 ?_; intro v' w6 h1 h2 h3; rw [natI_snoc, <- HN.out] at h1; have HO6 := Lib.hid h1; have HB6 := Lib.hid ((Below.refl (w.heap.size + 1) _).grown h2 hlow4 (fun k hk => (World.ownsRow.lt HS4.out.own k hk).1)); clear h1 h2 h3)
     have HS6 : Hid (NrwS w (some ⟨ba, oa, none⟩) l c (wys l (k + 1)) v' w6) := ⟨HS4.out.bel.trans (HB6.out.mono (Nat.le_succ _)), HO6.out, HS4.out.row.below (fun b o e => Nat.lt_succ_of_lt (HA.out b o e)) HB6.out HB6.out.size, (HB6.out.block w.heap.size (Nat.lt_succ_self _)).trans HS4.out.box, Nat.le_trans hlow4 HB6.out.size⟩
     clear HO6 HB6 HS4 HX4
     go_wp2
     go_roundw
     case rel => exact ⟨k + 1, by omega, by go_num, HS6.out⟩
     case measure => simp [intOf]; omega
   | two hk hi0 hb ha hf0 hl hc hf =>
    clear HCS
    simp only at hk ha hb hl hc
    have hfl := firstP_le l (k - 1)
    obtain ⟨p, hp⟩ : ∃ p, firstP l (k - 1) = p + 1 := ⟨firstP l (k - 1) - 1, by omega⟩
    rw [hp] at ha hfl
    obtain rfl : na = (p : Int) := by omega
    have hpz : (p : Int) < (k : Int) := by omega
    clear hl hc hf hf0 hp ha
    obtain ⟨q, hq⟩ : ∃ q, k = q + 1 := ⟨k - 1, by omega⟩
    obtain rfl : nb = (q : Int) := by omega
    have hqz : (q : Int) < (k : Int) := by omega
    have hps : partS S (q : Int) = S.getD q 0 := by unfold partS; rw [if_pos ⟨by omega, by rw [HKS.out]; omega⟩]; rfl
    have hx2 : S.getD q 0 <= 2 := by rw [<- hps]; exact partS_two HL.out _
    obtain ⟨b7, o7, hae, -, hc7⟩ := HR3.out q (by rw [natI_length, HKS.out]; omega)
    subst hae
    rw [natI_get (by rw [HKS.out]; omega)] at hc7
    have hpp : partS S (p : Int) = S.getD p 0 := by unfold partS; rw [if_pos ⟨by omega, by rw [HKS.out]; omega⟩]; rfl
    have hy2 : S.getD p 0 <= 2 := by rw [<- hpp]; exact partS_two HL.out _
    obtain ⟨b8, o8, hae, -, hc8⟩ := HR3.out p (by rw [natI_length, HKS.out]; omega)
    cases hae
    rw [natI_get (by rw [HKS.out]; omega)] at hc8
    have HW4 : Hid (waysW ⟨4, (p : Int), (q : Int), nlo, nhi, ncls, ntext⟩ S = min (S.getD p 0 * S.getD q 0) 2) := by unfold Hid; simp [waysW, hps, hpp]
    have HW5 : Hid (waysW ⟨5, (p : Int), (q : Int), nlo, nhi, ncls, ntext⟩ S = min (S.getD p 0 + S.getD q 0) 2) := by unfold Hid; simp [waysW, hps, hpp]
    have HCP : Hid (∀ w', IRow w' (some ⟨b7, o7, none⟩) (natI S) -> w'.cell? ⟨b7, o7 + q, none⟩ = some (.int .i64 (S.getD q 0 : Int)) /\ w'.cell? ⟨b7, o7 + p, none⟩ = some (.int .i64 (S.getD p 0 : Int))) := fun w' h => by
     obtain ⟨b, o, e1, -, e2⟩ := h q (by rw [natI_length, HKS.out]; omega)
     cases e1
     obtain ⟨b, o, e1, -, e3⟩ := h p (by rw [natI_length, HKS.out]; omega)
     cases e1
     rw [natI_get (by rw [HKS.out]; omega)] at e2 e3
     exact ⟨e2, e3⟩
    clear hc7 hc8
    generalize S.getD q 0 = x at *
    generalize S.getD p 0 = y at *
    clear hps hpp hi0 hb hq hfl
    rcases hk with rfl | rfl
    ·have hxy : y * x <= 4 := Nat.mul_le_mul hy2 hx2
     have hcc : ((y * x : Nat) : Int) = (y : Int) * (x : Int) := by simp
     have hm1 : (y : Int) * (x : Int) <= 4 := by rw [<- hcc]; omega
     have hm0 : 0 <= (y : Int) * (x : Int) := by rw [<- hcc]; omega
     obtain ⟨z, hz⟩ : ∃ z, min (y * x) 2 = z := ⟨_, rfl⟩
     have hmn : min (2 : Int) ((y : Int) * (x : Int)) = (z : Int) := by rw [<- hcc]; omega
     rw [hz] at HW4
     clear HW5 hcc hxy hz
     have HX0 : Hid (NrxS w (some ⟨ba, oa, none⟩) l c S (.slice (some ⟨b7, o7, none⟩) k c7) bx ⟨4, (p : Int), (q : Int), nlo, nhi, ncls, ntext⟩ (some ⟨b7, o7, none⟩) w3) := ⟨HS3.out, HX3.out, HR3.out⟩
     have HCL : Hid (∀ w', IRow w' (some ⟨b7, o7, none⟩) (natI S) -> w'.cell? ⟨b7, o7 + q, none⟩ = some (.int .i64 (x : Int)) /\ w'.cell? ⟨b7, o7 + p, none⟩ = some (.int .i64 (y : Int))) := HCP
     clear HCP HS3 HR3 HX3
     go_upto_region 11 with (fail)
     clear g0 g1 g2 g3 g4 g5 g6 g7 g8 g9
     refine wp_region_stable (S := (NrxS w (some ⟨ba, oa, none⟩) l c S (.slice (some ⟨b7, o7, none⟩) k c7) bx ⟨4, (p : Int), (q : Int), nlo, nhi, ncls, ntext⟩ (some ⟨b7, o7, none⟩))) (hSt := fun _ _ h hb => h.later hb) (plan := [[(5, none)], [(7, none)], [(29, some 1)], [(28, some 0), (30, some 2)], [(31, some 3)], [(5, none)], [(7, none)], [(34, some 6)], [(33, some 5), (35, some 7)], [(36, some 8)], [(32, some 4), (37, some 9)], [(38, some 10)]]) (by kernel_rfl) (by kernel_rfl) (by kernel_rfl) ?hS ?_
     rotate_left
     iterate 12 first
      | (refine chain_skip (by rfl) (by rfl) ?_)
      | (apply chain_want (by rfl)
         ·intro act wx hS hr
          simp at hr
          obtain ⟨g0, g1, g2, g3, g4, g5, g6, g7, g8, g9⟩ := ten_cells hS.x
          obtain ⟨hc7, hc8⟩ := HCL.out _ hS.r
          go_simp
          (try go_ints)
          first
           | exact Done.same
        )
     show ∀ w', _ -> _
     intro w4 hw4
     simp [Act.put]
     case hS => exact HX0.out
     have HS3 := Lib.hid hw4.s
     clear hw4 HX0 HCL
     have HN := Lib.hid (HXN.out z HW4.out)
     have HX4 : Hid (Blk (w4.alloc (.cells #[.int .i64 (z : Int)] 3)) w4.heap.size #[.int .i64 (z : Int)] 3) := Blk.new _ _ _
     have HS4 := Lib.hid (HS3.out.later ((Below.refl _ _).alloc (Nat.le_refl _) (.cells #[.int .i64 (z : Int)] 3)))
     clear HXN
     have hlow4 := HS4.out.low
     have hlow5 : w.heap.size <= w.heap.size + 1 := Nat.le_succ _
     go_wp2_with (at_builtin; refine wpList_append_int rfl _ _ rfl (w.heap.size + 1) _ (natI S) rfl HS4.out.own _ (z : Int) rfl HX4.out HS1.out hlow4 ?_; intro v' w6 h1 h2 h3; rw [natI_snoc, <- HN.out] at h1; have HO6 := Lib.hid h1; have HB6 := Lib.hid ((Below.refl (w.heap.size + 1) _).grown h2 hlow4 (fun k hk => (World.ownsRow.lt HS4.out.own k hk).1)); clear h1 h2 h3)
     have HS6 : Hid (NrwS w (some ⟨ba, oa, none⟩) l c (wys l (k + 1)) v' w6) := ⟨HS4.out.bel.trans (HB6.out.mono (Nat.le_succ _)), HO6.out, HS4.out.row.below (fun b o e => Nat.lt_succ_of_lt (HA.out b o e)) HB6.out HB6.out.size, (HB6.out.block w.heap.size (Nat.lt_succ_self _)).trans HS4.out.box, Nat.le_trans hlow4 HB6.out.size⟩
     clear HO6 HB6 HS4 HX4
     go_wp2
     go_roundw
     case rel => exact ⟨k + 1, by omega, by go_num, HS6.out⟩
     case measure => simp [intOf]; omega
    ·obtain ⟨z, hz⟩ : ∃ z, min (y + x) 2 = z := ⟨_, rfl⟩
     have hmn : min (2 : Int) ((y : Int) + (x : Int)) = (z : Int) := by omega
     rw [hz] at HW5
     clear HW4 hz
     have HX0 : Hid (NrxS w (some ⟨ba, oa, none⟩) l c S (.slice (some ⟨b7, o7, none⟩) k c7) bx ⟨5, (p : Int), (q : Int), nlo, nhi, ncls, ntext⟩ (some ⟨b7, o7, none⟩) w3) := ⟨HS3.out, HX3.out, HR3.out⟩
     have HCL : Hid (∀ w', IRow w' (some ⟨b7, o7, none⟩) (natI S) -> w'.cell? ⟨b7, o7 + q, none⟩ = some (.int .i64 (x : Int)) /\ w'.cell? ⟨b7, o7 + p, none⟩ = some (.int .i64 (y : Int))) := HCP
     clear HCP HS3 HR3 HX3
     go_upto_region 13 with (fail)
     clear g0 g1 g2 g3 g4 g5 g6 g7 g8 g9
     refine wp_region_stable (S := (NrxS w (some ⟨ba, oa, none⟩) l c S (.slice (some ⟨b7, o7, none⟩) k c7) bx ⟨5, (p : Int), (q : Int), nlo, nhi, ncls, ntext⟩ (some ⟨b7, o7, none⟩))) (hSt := fun _ _ h hb => h.later hb) (plan := [[(5, none)], [(7, none)], [(42, some 1)], [(41, some 0), (43, some 2)], [(44, some 3)], [(5, none)], [(7, none)], [(47, some 6)], [(46, some 5), (48, some 7)], [(49, some 8)], [(45, some 4), (50, some 9)], [(51, some 10)]]) (by kernel_rfl) (by kernel_rfl) (by kernel_rfl) ?hS ?_
     rotate_left
     iterate 12 first
      | (refine chain_skip (by rfl) (by rfl) ?_)
      | (apply chain_want (by rfl)
         ·intro act wx hS hr
          simp at hr
          obtain ⟨g0, g1, g2, g3, g4, g5, g6, g7, g8, g9⟩ := ten_cells hS.x
          obtain ⟨hc7, hc8⟩ := HCL.out _ hS.r
          go_simp
          (try go_ints)
          first
           | exact Done.same
        )
     show ∀ w', _ -> _
     intro w4 hw4
     simp [Act.put]
     case hS => exact HX0.out
     have HS3 := Lib.hid hw4.s
     clear hw4 HX0 HCL
     have HN := Lib.hid (HXN.out z HW5.out)
     have HX4 : Hid (Blk (w4.alloc (.cells #[.int .i64 (z : Int)] 3)) w4.heap.size #[.int .i64 (z : Int)] 3) := Blk.new _ _ _
     have HS4 := Lib.hid (HS3.out.later ((Below.refl _ _).alloc (Nat.le_refl _) (.cells #[.int .i64 (z : Int)] 3)))
     clear HXN
     have hlow4 := HS4.out.low
     have hlow5 : w.heap.size <= w.heap.size + 1 := Nat.le_succ _
     go_wp2_with (at_builtin; refine wpList_append_int rfl _ _ rfl (w.heap.size + 1) _ (natI S) rfl HS4.out.own _ (z : Int) rfl HX4.out HS1.out hlow4 ?_; intro v' w6 h1 h2 h3; rw [natI_snoc, <- HN.out] at h1; have HO6 := Lib.hid h1; have HB6 := Lib.hid ((Below.refl (w.heap.size + 1) _).grown h2 hlow4 (fun k hk => (World.ownsRow.lt HS4.out.own k hk).1)); clear h1 h2 h3)
     have HS6 : Hid (NrwS w (some ⟨ba, oa, none⟩) l c (wys l (k + 1)) v' w6) := ⟨HS4.out.bel.trans (HB6.out.mono (Nat.le_succ _)), HO6.out, HS4.out.row.below (fun b o e => Nat.lt_succ_of_lt (HA.out b o e)) HB6.out HB6.out.size, (HB6.out.block w.heap.size (Nat.lt_succ_self _)).trans HS4.out.box, Nat.le_trans hlow4 HB6.out.size⟩
     clear HO6 HB6 HS4 HX4
     go_wp2
     go_roundw
     case rel => exact ⟨k + 1, by omega, by go_num, HS6.out⟩
     case measure => simp [intOf]; omega
  ·obtain rfl : k = i + 1 := by omega
   have hlast : ¬ ((i + 1 : Nat) : Int) <= (i : Int) := by omega
   have hlen1 : (natI (wys l (i + 1))).length = i + 1 := by rw [natI_length, wys_length]
   have hg1 : (natI (wys l (i + 1))).getD i 0 = ((v : Nat) : Int) := by rw [natI_get (by rw [wys_length]; omega), wys_get l (i + 1) i (by omega), HV.out]
   obtain ⟨a7, c7, hv7, hr7⟩ := HS.out.own.row
   obtain ⟨b7, o7, hae, -, hc7⟩ := hr7 i (by omega)
   subst hae
   rw [hg1] at hc7
   rw [hlen1] at hv7
   subst hv7
   clear hr7
   go_wp2
   go_ret
   exact ⟨rfl, HS.out.bel⟩
def RfL (w0 : World) (A : Option Addr) (l : List Nd) (c : Nat) (x : Value) (w : World) : Prop := ∃ k : Nat, k <= l.length /\ x = .int .i64 (k : Int) /\ (∀ j, j < k -> badW l j = false) /\ FstS w0 A l c w
set_option maxHeartbeats 16000000 in
theorem rfirst_any (l : List Nd) (A : Option Addr) (c : Nat) (hF : Form l) (hc : l.length <= c) (hlen : l.length <= 536870912) (w : World) (hrow : NRow w A l) :
 Calls Try.prog 28 #[.agg #[.slice A l.length c]] w (Ans w (fstV l)) := by
 have HB := (Below.refl w.heap.size w).alloc (Nat.le_refl _) (.cells #[.slice A l.length c] 24)
 have HS0 : Hid (FstS w A l c (w.alloc (.cells #[.slice A l.length c] 24))) := ⟨HB, hrow.later HB, Blk.new _ _ _⟩
 have HF := Lib.hid hF
 have hlz : (l.length : Int) <= 536870912 := by omega
 clear hrow HB hF
 go_enter Try.func28, Try.ntmps28
 go_upto_region 1 with (fail)
 generalize w.alloc (.cells #[.slice A l.length c] 24) = w1 at *
 go_wp2
 go_loopw [4] (RfL w A l c) (fun x _ => l.length - (intOf x).toNat)
 case atStart => exact ⟨0, Nat.zero_le _, rfl, fun j hj => absurd hj (Nat.not_lt_zero j), HS0.out⟩
 case round =>
  obtain ⟨k, hk, rfl, hall, hs⟩ := hrel
  have HALL := Lib.hid hall
  have HS := Lib.hid hs
  have e0 := hs.box.cell 0
  simp at e0
  clear hall hs HS0
  by_cases hlt : k < l.length
  ·have hltz : (k : Int) < (l.length : Int) := by omega
   obtain ⟨ba, oa, hAe, -, -⟩ := HS.out.row k hlt
   subst hAe
   have g : At10 wr ba (oa + k * 10) (l.getD k nd0) := HS.out.row.at hlt rfl
   have hcs := (HF.out.2.1 k hlt).cs rfl
   have hat : ∀ w', NRow w' (some ⟨ba, oa, none⟩) l -> w'.cell? ⟨ba, oa + k * 10, none⟩ = some (.int .i64 (l.getD k nd0).kind) /\ w'.cell? ⟨ba, oa + k * 10 + 1, none⟩ = some (.int .i64 (l.getD k nd0).a) := fun w' h => by
    have g : At10 w' ba (oa + k * 10) (l.getD k nd0) := h.at hlt rfl
    exact ⟨g.1, g.2.1⟩
   obtain ⟨n, hn⟩ : ∃ n, l.getD k nd0 = n := ⟨_, rfl⟩
   have HND : Hid (atN l k = n) := hn
   rw [show atN l k = n from hn] at hcs
   rw [hn] at g hat
   have HAT := Lib.hid hat
   have HCS := Lib.hid hcs
   clear hn hcs hat
   obtain ⟨kk, na, nb, nlo, nhi, ncls, ntext⟩ := n
   simp only at HAT
   have g0 : wr.cell? ⟨ba, oa + k * 10, none⟩ = some (.int .i64 kk) := g.1
   clear g
   go_upto_region 5 with (fail)
   clear e0 g0
   by_cases h6 : kk = 6
   ·subst h6
    obtain ⟨q, hq⟩ : ∃ q, k = q + 1 := ⟨k - 1, by
     cases HCS.out with
     | leaf hk hf => unfold leafK at hk; simp at hk
     | two hk => simp at hk
     | one hk h0 => omega⟩
    obtain rfl : na = (q : Int) := by
     cases HCS.out with
     | leaf hk hf => unfold leafK at hk; simp at hk
     | two hk => simp at hk
     | one hk h0 ha => simp only at ha; omega
    have CW : Hid (∀ w', FstS w (some ⟨ba, oa, none⟩) l c w' -> Calls Try.prog 42 #[.agg #[.slice (some ⟨ba, oa, none⟩) l.length c], .int .i64 (q : Int)] w' (Ans w' (.int .i64 ((wyN l q : Nat) : Int)))) := fun w' h => rways_any l _ c hc hlen q (by omega) (HF.out.okTo (by omega)) w' h.row
    have HB0 : Hid (wyN l q = 0 -> badW l k = false) := fun h => by
     cases hb : badW l k with
     | false => rfl
     | true =>
      have := ((badW_form HF.out hlt).1 hb).2
      rw [show k - 1 = q by omega] at this
      exact absurd h this
    have HB1 : Hid (wyN l q ≠ 0 -> badW l k = true) := fun h => (badW_form HF.out hlt).2 ⟨by rw [HND.out]; exact .inl rfl, by rw [show k - 1 = q by omega]; exact h⟩
    generalize wyN l q = x at *
    clear hq HCS
    by_cases hx : x = 0
    ·have HBD := Lib.hid (HB0.out hx)
     have hxz : ((x : Int) != 0) = false := by rw [bne_eq_false_iff_eq]; omega
     clear HB0 HB1 hx
     refine wp_region_stable (S := (FstS w (some ⟨ba, oa, none⟩) l c)) (hSt := fun _ _ h hb => h.later hb) (plan := [[(5, none)], [(19, some 0)], [(20, some 1)], [(5, none)], [(22, some 3)], [(21, some 2), (23, some 4)], [(24, some 5)], [(1, none)], [(1, none)], [(27, some 8)], [(4, none)], [(28, some 9), (29, some 10)], [(30, some 11)], [(31, some 12)], [(26, some 7), (32, some 13)], [(33, some 14)], [(25, some 6), (34, some 15)]]) (by kernel_rfl) (by kernel_rfl) (by kernel_rfl) ?hS ?_
     rotate_left
     iterate 17 first
      | (refine chain_skip (by rfl) (by rfl) ?_)
      | (apply chain_want (by rfl)
         ·intro act wx hS hr
          simp at hr
          have e0 := hS.box.cell 0
          simp at e0
          obtain ⟨g0, g1⟩ := HAT.out _ hS.row
          go_simp
          (try go_ints)
          first
           | ((with_reducible refine (CW.out _ hS).mono ?_); rintro e w' ⟨rfl, hb⟩; exact Done.mk hb)
           | exact Done.same
        )
     show ∀ w', _ -> _
     intro w4 hw4
     simp [Act.put]
     case hS => exact HS.out
     have HS4 := Lib.hid hw4
     clear hw4
     go_wp2
     go_roundw
     case rel => exact ⟨k + 1, by omega, by go_num, fun j hj => (by rcases Nat.lt_or_ge j k with h | h; exact HALL.out j h; rw [show j = k by omega]; exact HBD.out), HS4.out⟩
     case measure => simp [intOf]; omega
    ·have HBD := Lib.hid (HB1.out hx)
     have hxz : ((x : Int) != 0) = true := by rw [bne_iff_ne]; omega
     have HFV : Hid (fstV l = .tuple #[.int .i64 (k : Int), .bool true]) := by unfold Hid fstV; rw [fstW_some hlt HBD.out HALL.out]
     clear HB0 HB1 hx
     refine wp_region_stable (S := (FstS w (some ⟨ba, oa, none⟩) l c)) (hSt := fun _ _ h hb => h.later hb) (plan := [[(5, none)], [(19, some 0)], [(20, some 1)], [(5, none)], [(22, some 3)], [(21, some 2), (23, some 4)], [(24, some 5)], [(1, none)], [(1, none)], [(27, some 8)], [(4, none)], [(28, some 9), (29, some 10)], [(30, some 11)], [(31, some 12)], [(26, some 7), (32, some 13)], [(33, some 14)], [(25, some 6), (34, some 15)]]) (by kernel_rfl) (by kernel_rfl) (by kernel_rfl) ?hS ?_
     rotate_left
     iterate 17 first
      | (refine chain_skip (by rfl) (by rfl) ?_)
      | (apply chain_want (by rfl)
         ·intro act wx hS hr
          simp at hr
          have e0 := hS.box.cell 0
          simp at e0
          obtain ⟨g0, g1⟩ := HAT.out _ hS.row
          go_simp
          (try go_ints)
          first
           | ((with_reducible refine (CW.out _ hS).mono ?_); rintro e w' ⟨rfl, hb⟩; exact Done.mk hb)
           | exact Done.same
        )
     show ∀ w', _ -> _
     intro w4 hw4
     simp [Act.put]
     case hS => exact HS.out
     have HS4 := Lib.hid hw4
     clear hw4
     go_wp2
     go_ret2
     exact ⟨by rw [HFV.out]; rfl, HS4.out.bel⟩
   ·by_cases h7 : kk = 7
    ·subst h7
     clear h6
     obtain ⟨q, hq⟩ : ∃ q, k = q + 1 := ⟨k - 1, by
      cases HCS.out with
      | leaf hk hf => unfold leafK at hk; simp at hk
      | two hk => simp at hk
      | one hk h0 => omega⟩
     obtain rfl : na = (q : Int) := by
      cases HCS.out with
      | leaf hk hf => unfold leafK at hk; simp at hk
      | two hk => simp at hk
      | one hk h0 ha => simp only at ha; omega
     have CW : Hid (∀ w', FstS w (some ⟨ba, oa, none⟩) l c w' -> Calls Try.prog 42 #[.agg #[.slice (some ⟨ba, oa, none⟩) l.length c], .int .i64 (q : Int)] w' (Ans w' (.int .i64 ((wyN l q : Nat) : Int)))) := fun w' h => rways_any l _ c hc hlen q (by omega) (HF.out.okTo (by omega)) w' h.row
     have HB0 : Hid (wyN l q = 0 -> badW l k = false) := fun h => by
      cases hb : badW l k with
      | false => rfl
      | true =>
       have := ((badW_form HF.out hlt).1 hb).2
       rw [show k - 1 = q by omega] at this
       exact absurd h this
     have HB1 : Hid (wyN l q ≠ 0 -> badW l k = true) := fun h => (badW_form HF.out hlt).2 ⟨by rw [HND.out]; exact .inr rfl, by rw [show k - 1 = q by omega]; exact h⟩
     generalize wyN l q = x at *
     clear hq HCS
     by_cases hx : x = 0
     ·have HBD := Lib.hid (HB0.out hx)
      have hxz : ((x : Int) != 0) = false := by rw [bne_eq_false_iff_eq]; omega
      clear HB0 HB1 hx
      refine wp_region_stable (S := (FstS w (some ⟨ba, oa, none⟩) l c)) (hSt := fun _ _ h hb => h.later hb) (plan := [[(5, none)], [(19, some 0)], [(20, some 1)], [(5, none)], [(22, some 3)], [(21, some 2), (23, some 4)], [(24, some 5)], [(1, none)], [(1, none)], [(27, some 8)], [(4, none)], [(28, some 9), (29, some 10)], [(30, some 11)], [(31, some 12)], [(26, some 7), (32, some 13)], [(33, some 14)], [(25, some 6), (34, some 15)]]) (by kernel_rfl) (by kernel_rfl) (by kernel_rfl) ?hS ?_
      rotate_left
      iterate 17 first
       | (refine chain_skip (by rfl) (by rfl) ?_)
       | (apply chain_want (by rfl)
          ·intro act wx hS hr
           simp at hr
           have e0 := hS.box.cell 0
           simp at e0
           obtain ⟨g0, g1⟩ := HAT.out _ hS.row
           go_simp
           (try go_ints)
           first
            | ((with_reducible refine (CW.out _ hS).mono ?_); rintro e w' ⟨rfl, hb⟩; exact Done.mk hb)
            | exact Done.same
         )
      show ∀ w', _ -> _
      intro w4 hw4
      simp [Act.put]
      case hS => exact HS.out
      have HS4 := Lib.hid hw4
      clear hw4
      go_wp2
      go_roundw
      case rel => exact ⟨k + 1, by omega, by go_num, fun j hj => (by rcases Nat.lt_or_ge j k with h | h; exact HALL.out j h; rw [show j = k by omega]; exact HBD.out), HS4.out⟩
      case measure => simp [intOf]; omega
     ·have HBD := Lib.hid (HB1.out hx)
      have hxz : ((x : Int) != 0) = true := by rw [bne_iff_ne]; omega
      have HFV : Hid (fstV l = .tuple #[.int .i64 (k : Int), .bool true]) := by unfold Hid fstV; rw [fstW_some hlt HBD.out HALL.out]
      clear HB0 HB1 hx
      refine wp_region_stable (S := (FstS w (some ⟨ba, oa, none⟩) l c)) (hSt := fun _ _ h hb => h.later hb) (plan := [[(5, none)], [(19, some 0)], [(20, some 1)], [(5, none)], [(22, some 3)], [(21, some 2), (23, some 4)], [(24, some 5)], [(1, none)], [(1, none)], [(27, some 8)], [(4, none)], [(28, some 9), (29, some 10)], [(30, some 11)], [(31, some 12)], [(26, some 7), (32, some 13)], [(33, some 14)], [(25, some 6), (34, some 15)]]) (by kernel_rfl) (by kernel_rfl) (by kernel_rfl) ?hS ?_
      rotate_left
      iterate 17 first
       | (refine chain_skip (by rfl) (by rfl) ?_)
       | (apply chain_want (by rfl)
          ·intro act wx hS hr
           simp at hr
           have e0 := hS.box.cell 0
           simp at e0
           obtain ⟨g0, g1⟩ := HAT.out _ hS.row
           go_simp
           (try go_ints)
           first
            | ((with_reducible refine (CW.out _ hS).mono ?_); rintro e w' ⟨rfl, hb⟩; exact Done.mk hb)
            | exact Done.same
         )
      show ∀ w', _ -> _
      intro w4 hw4
      simp [Act.put]
      case hS => exact HS.out
      have HS4 := Lib.hid hw4
      clear hw4
      go_wp2
      go_ret2
      exact ⟨by rw [HFV.out]; rfl, HS4.out.bel⟩
    ·have hk6 : (kk == 6) = false := beq_false_of_ne h6
     have hk7 : (kk == 7) = false := beq_false_of_ne h7
     have HBD : Hid (badW l k = false) := by
      unfold Hid badW; rw [HND.out, decide_eq_false_iff_not]
      rintro ⟨h | h, _⟩
      ·exact h6 h
      ·exact h7 h
     have CW : Hid (∀ w', FstS w (some ⟨ba, oa, none⟩) l c w' -> Calls Try.prog 42 #[] w' (Ans w' (.bool true)) -> True) := fun _ _ _ => trivial
     clear h6 h7
     refine wp_region_stable (S := (FstS w (some ⟨ba, oa, none⟩) l c)) (hSt := fun _ _ h hb => h.later hb) (plan := [[(5, none)], [(19, some 0)], [(20, some 1)], [(5, none)], [(22, some 3)], [(21, some 2), (23, some 4)], [(24, some 5)], [(1, none)], [(1, none)], [(27, some 8)], [(4, none)], [(28, some 9), (29, some 10)], [(30, some 11)], [(31, some 12)], [(26, some 7), (32, some 13)], [(33, some 14)], [(25, some 6), (34, some 15)]]) (by kernel_rfl) (by kernel_rfl) (by kernel_rfl) ?hS ?_
     rotate_left
     iterate 17 first
      | (refine chain_skip (by rfl) (by rfl) ?_)
      | (apply chain_want (by rfl)
         ·intro act wx hS hr
          simp at hr
          have e0 := hS.box.cell 0
          simp at e0
          obtain ⟨g0, g1⟩ := HAT.out _ hS.row
          go_simp
          (try go_ints)
          first
           | ((with_reducible refine (CW.out _ hS).mono ?_); rintro e w' ⟨rfl, hb⟩; exact Done.mk hb)
           | exact Done.same
        )
     show ∀ w', _ -> _
     intro w4 hw4
     simp [Act.put]
     case hS => exact HS.out
     have HS4 := Lib.hid hw4
     clear hw4
     go_wp2
     go_roundw
     case rel => exact ⟨k + 1, by omega, by go_num, fun j hj => (by rcases Nat.lt_or_ge j k with h | h; exact HALL.out j h; rw [show j = k by omega]; exact HBD.out), HS4.out⟩
     case measure => simp [intOf]; omega
  ·obtain rfl : k = l.length := by omega
   have hlast : ¬ ((l.length : Nat) : Int) < (l.length : Int) := by omega
   have HFV : Hid (fstV l = .tuple #[.int .i64 0, .bool false]) := by unfold Hid fstV; rw [fstW_none HALL.out]; rfl
   go_wp2
   go_ret2
   exact ⟨by rw [HFV.out]; rfl, HS.out.bel⟩
set_option maxHeartbeats 16000000 in
theorem rright_any (l : List Nd) (A : Option Addr) (c : Nat) (hc : l.length <= c) (hlen : l.length <= 536870912) (htx : Txt l) (w : World) (hrow : NRow w A l) :
 Calls Try.prog 9 #[.agg #[.slice A l.length c]] w (Ans w (.bool (rgB l))) := by
 have HB := (Below.refl w.heap.size w).alloc (Nat.le_refl _) (.cells #[.slice A l.length c] 24)
 have HS0 : Hid (FstS w A l c (w.alloc (.cells #[.slice A l.length c] 24))) := ⟨HB, hrow.later HB, Blk.new _ _ _⟩
 have CG : Hid (∀ w', NRow w' A l -> Calls Try.prog 27 #[.agg #[.slice A l.length c]] w' (Ans w' (.bool (formB l)))) := fun w' h => refform_any l A c (by omega) htx w' h
 have CF : Hid (formB l = true -> ∀ w', NRow w' A l -> Calls Try.prog 28 #[.agg #[.slice A l.length c]] w' (Ans w' (.tuple #[.int .i64 ((fstW l).1 : Int), .bool (fstW l).2]))) := fun hf w' h => rfirst_any l A c ((formB_iff l).1 hf) hc hlen w' h
 have e : rgB l = (!(fstW l).2 && formB l) := rfl
 rw [e]
 clear hrow HB htx e
 generalize (fstW l).1 = p at *
 generalize (fstW l).2 = q at *
 generalize formB l = r at *
 go_enter Try.func9, Try.ntmps9
 go_upto_region 1 with (fail)
 generalize w.alloc (.cells #[.slice A l.length c] 24) = w1 at *
 have e0 := HS0.out.box.cell 0
 simp at e0
 go_wp2_with fail
 refine (CG.out _ HS0.out.row).mono ?_; rintro e w2 ⟨rfl, hb⟩
 have HS2 := Lib.hid (HS0.out.later hb)
 clear hb e0 HS0
 have e0 := HS2.out.box.cell 0
 simp at e0
 cases r with
 | false =>
  go_wp2
  go_ret
  exact ⟨by rw [Bool.and_false]; rfl, HS2.out.bel⟩
 | true =>
  have CF2 := Lib.hid (CF.out rfl)
  go_wp2_with fail
  refine (CF2.out _ HS2.out.row).mono ?_; rintro e w3 ⟨rfl, hb⟩
  have HB3 := Lib.hid (HS2.out.bel.trans (hb.mono HS2.out.bel.size))
  clear hb e0
  go_wp2
  go_ret
  exact ⟨by rw [Bool.and_true]; rfl, HB3.out⟩
set_option maxHeartbeats 16000000
section
variable {l : List Nd} {x : Itm} {n : Nd}
end
structure HfS (w0 : World) (A : Option Addr) (l : List Nd) (c : Nat) (x : Itm) (w : World) : Prop where
 s : FstS w0 A l c w
 it : Blk w (w0.heap.size + 1) (itV x) 44
theorem HfS.later {w0 w w' : World} {A : Option Addr} {l : List Nd} {c : Nat} {x : Itm} (h : HfS w0 A l c x w) (hb : Below w.heap.size w w') : HfS w0 A l c x w' := ⟨h.s.later hb, h.it.later hb⟩
theorem HfS.new {w : World} {A : Option Addr} {l : List Nd} (c : Nat) (x : Itm) (hrow : NRow w A l) : HfS w A l c x ((w.alloc (.cells #[.slice A l.length c] 24)).alloc (.cells (itV x) 44)) := by
 have HB := (Below.refl w.heap.size w).alloc (Nat.le_refl _) (.cells #[.slice A l.length c] 24)
 have h1 : FstS w A l c (w.alloc (.cells #[.slice A l.length c] 24)) := ⟨HB, hrow.later HB, Blk.new _ _ _⟩
 refine ⟨h1.later ((Below.refl _ _).alloc (Nat.le_refl _) _), ?_⟩
 have := Blk.new (w.alloc (.cells #[.slice A l.length c] 24)) (itV x) 44
 rwa [World.size_alloc] at this
section
variable {l : List Nd} {x : Itm} {n : Nd}
end
end Go.Proofs.Ytidoofdofdhjpaa
