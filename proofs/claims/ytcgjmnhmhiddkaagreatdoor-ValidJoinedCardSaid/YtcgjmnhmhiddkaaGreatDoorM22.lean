/- How long a description's text may be: plain mathematics. -/
import Derived.Test.YtcgjmnhmhiddkaaGreatDoorM21
import Derived.Test.YtcgjmnhmhiddkaaGreatDoorM08
import Derived.Test.YtcgjmnhmhiddkaaGreatDoorM20
import Derived.Test.YtcgjmnhmhiddkaaGreatDoorM17
import Derived.Test.YtcgjmnhmhiddkaaGreatDoorM12
import Derived.Test.YtcgjmnhmhiddkaaGreatDoorM05
import Derived.Test.YtcgjmnhmhiddkaaGreatDoorCards
import Derived.Test.YtcgjmnhmhiddkaaGreatDoorTie
import Derived.Lib.LaidIn
import Derived.Lib.LaidU8
import Derived.Lib.LaidU8T
namespace Go.Proofs.YtcgjmnhmhiddkaaGreatDoor
open Go
set_option linter.unusedVariables false
set_option linter.unusedSimpArgs false

theorem cntU_le (c : BitVec 256) : ∀ p, cntU c p ≤ p
  | 0 => Nat.le_refl _
  | p + 1 => by
    have := cntU_le c p
    show cntU c p + _ ≤ _
    split <;> omega
theorem clsT_bound (c : BitVec 256) : (clsT c).length ≤ 769 := by
  have := clsT_len c
  have := cntU_le c 256
  omega
theorem decT_bound (n : Nat) : (decT n).length ≤ 3 := by
  unfold decT
  (repeat' split) <;> simp
theorem bndT_bound (lo hi : Int) : (bndT lo hi).length ≤ 9 := by
  unfold bndT repT
  have h1 := decT_bound lo.toNat
  have h2 := decT_bound hi.toNat
  simp; omega
def lenO (o : List (List UInt8)) : Nat := o.flatten.length
theorem lenO_cons (s : List UInt8) (o : List (List UInt8)) : lenO (s :: o) = s.length + lenO o := by unfold lenO; simp
theorem lenO_append (a b : List (List UInt8)) : lenO (a ++ b) = lenO a + lenO b := by unfold lenO; simp
theorem lenO_nil : lenO [] = 0 := rfl
theorem outP_nil (f : Int → Int → List (List UInt8)) : outP f [] = [] := rfl
theorem outP_sg (f : Int → Int → List (List UInt8)) (s : List UInt8) (r : List Pc) : outP f (.sg s :: r) = s :: outP f r := by unfold outP; simp
theorem outP_nd (f : Int → Int → List (List UInt8)) (i lev : Int) (r : List Pc) : outP f (.nd i lev :: r) = f i lev ++ outP f r := by unfold outP; simp
theorem sgs_len (l : List Nd) (hok : ∀ j, j < l.length → okN l j (atN l j)) (ht : ∀ n ∈ l, n.text.length ≤ 2000) : ∀ (i : Nat), i < l.length → ∀ f : Nat, i < f → ∀ lev, lenO (sgsF clsT bndT l f (i : Int) lev) ≤ (i + 1 - firstP l i) * 3000 := by
  intro i
  induction i using Nat.strongRecOn with
  | ind i ih =>
    intro hi f hf lev
    obtain ⟨f, rfl⟩ : ∃ f', f = f' + 1 := ⟨f - 1, by omega⟩
    rw [sgsF_succ, Int.toNat_natCast]
    have hle := firstP_le l i
    have hcs := (hok i hi).cs rfl
    have htx : (atN l i).text.length ≤ 2000 := by
      unfold atN; rw [List.getD_eq_getElem?_getD, List.getElem?_eq_getElem hi]; exact ht _ (List.getElem_mem _)
    have key : ∀ (q : Nat) (lv : Int), q < i → lenO (sgsF clsT bndT l f (q : Int) lv) ≤ (q + 1 - firstP l q) * 3000 := fun q lv h1 => ih q h1 (by omega) f (by omega) lv
    have hp : lenO (outP (sgsF clsT bndT l f) (pcsN clsT bndT (atN l i))) + 2 ≤ (i + 1 - firstP l i) * 3000 := by
      generalize atN l i = n at hcs htx ⊢
      cases hcs with
      | leaf hk hfi =>
        unfold leafK at hk
        rw [hfi]
        have c1 := clsT_bound n.cls
        rcases hk with h | h | h <;> simp only [pcsN, h, Go.Proofs.YtcgjmnhmhiddkaaGreatDoor.brk] <;> simp [outP_sg, outP_nil, lenO_cons, lenO_nil] <;> omega
      | one hk h0 ha hb h7 hr hc hfi =>
        have hq := firstP_le l (i - 1)
        have K := fun lv => key (i - 1) lv (by omega)
        have e : n.a = ((i - 1 : Nat) : Int) := by omega
        have b1 := bndT_bound n.lo n.hi
        rw [hfi]
        have hkk : n.kind = 6 ∨ n.kind = 7 ∨ n.kind = 8 ∨ n.kind = 9 := by omega
        have K0 := K 0
        have K2 := K 2
        rcases hkk with h | h | h | h <;> simp only [pcsN, h, e, Go.Proofs.YtcgjmnhmhiddkaaGreatDoor.brk] <;> simp [outP_sg, outP_nd, outP_nil, lenO_cons, lenO_append, lenO_nil] <;> omega
      | two hk h0 hb ha hf0 hl hc hfi =>
        have hq := firstP_le l (i - 1)
        have hq2 := firstP_le l (firstP l (i - 1) - 1)
        have e : n.a = ((firstP l (i - 1) - 1 : Nat) : Int) := by omega
        have e2 : n.b = ((i - 1 : Nat) : Int) := by omega
        have KA := fun lv => key (firstP l (i - 1) - 1) lv (by omega)
        have KB := fun lv => key (i - 1) lv (by omega)
        rw [hfi]
        have A0 := KA 0
        have A1 := KA 1
        have B1 := KB 1
        have B2 := KB 2
        rcases hk with h | h <;> simp only [pcsN, h, e, e2] <;> simp [outP_sg, outP_nd, outP_nil, lenO_cons, lenO_append, lenO_nil] <;> omega
    unfold fullN
    split
    · rw [outP_brk, lenO_cons, lenO_append, lenO_cons, lenO_nil]; simp only [List.length_cons, List.length_nil]; omega
    · omega
theorem textN_len {l : List Nd} (hf : Form l) (ht : ∀ n ∈ l, n.text.length ≤ 2000) : (textN l).length ≤ l.length * 3000 := by
  have hpos := hf.1
  have := sgs_len l hf.2.1 ht (l.length - 1) (by omega) l.length (by omega) 0
  rw [show ((l.length - 1 : Nat) : Int) = (l.length : Int) - 1 by omega, show l.length - 1 + 1 = l.length by omega] at this
  unfold textN
  unfold lenO at this
  exact Nat.le_trans this (Nat.mul_le_mul_right _ (Nat.sub_le _ _))
end Go.Proofs.YtcgjmnhmhiddkaaGreatDoor
/- A class' text: walked. -/
namespace Go.Proofs.YtcgjmnhmhiddkaaGreatDoor
open Go Go.RowKit
set_option linter.unusedVariables false
set_option linter.unusedSimpArgs false

/-- What Class holds. -/
structure PcS (w0 : World) (a : BitVec 256) (l : List (List UInt8)) (v : Value) (w : World) : Prop where
  bel : Below w0.heap.size w0 w
  box : Blk w w0.heap.size (cells4 a) 42
  own : OwnS w (w0.heap.size + 1) v l
  low : w0.heap.size + 1 ≤ w.heap.size
theorem PcS.later {w0 w w' : World} {a : BitVec 256} {l : List (List UInt8)} {v : Value} (h : PcS w0 a l v w) (hb : Below w.heap.size w w') : PcS w0 a l v w' :=
  ⟨h.bel.trans (hb.mono h.bel.size), h.box.later hb, h.own.later hb, Nat.le_trans h.low hb.size⟩
def txR (l : List (Nat × Nat)) : List (List UInt8) := l.map fun r => rowT r.1 r.2
/-- Its rows so far; those from a byte on are still to be told. -/
def PcL (w0 : World) (a : BitVec 256) (v i : Value) (w : World) : Prop := ∃ (p : Nat) (f : Nat) (l : List (Nat × Nat)), p ≤ 256 ∧ 256 ≤ p + f ∧ l.length ≤ p ∧ l ++ rowsF a f p = rowsF a 256 0 ∧ i = .int .i64 (p : Int) ∧ PcS w0 a (txR l) v w
def PcI (w0 : World) (a : BitVec 256) (l : List (List UInt8)) (v : Value) (q : Nat) (x : Value) (w : World) : Prop := ∃ (p f : Nat), p < 256 ∧ 256 ≤ p + f ∧ lastF a f p = q ∧ x = .int .i64 (p : Int) ∧ PcS w0 a l v w
theorem cntS_all (a : BitVec 256) : cntS a = 256 ↔ a = rowB 0 255 := by
  have h := cntS_eq_iff a (rowB 0 255)
  have e1 : a ||| rowB 0 255 = rowB 0 255 := BitVec.eq_of_getLsbD_eq fun i hi => by
    rw [BitVec.getLsbD_or, rowB_bit _ _ _ hi, decide_eq_true (by omega : 0 ≤ i ∧ i ≤ 255)]; simp
  have e2 : a &&& rowB 0 255 = a := BitVec.eq_of_getLsbD_eq fun i hi => by
    rw [BitVec.getLsbD_and, rowB_bit _ _ _ hi, decide_eq_true (by omega : 0 ≤ i ∧ i ≤ 255)]; simp
  rw [e1, e2, cntS_row 0 255 (by omega) (by omega)] at h
  rw [← h]
  omega
theorem rowsF_end (a : BitVec 256) (f : Nat) : rowsF a f 256 = [] := by
  cases f with
  | zero => rfl
  | succ f => unfold rowsF; rw [if_pos (Nat.le_refl _)]
theorem rowsF_no {a : BitVec 256} {f p : Nat} (hp : p < 256) (h : a.getLsbD p = false) : rowsF a (f + 1) p = rowsF a f (p + 1) := by
  conv => lhs; unfold rowsF
  rw [if_neg (by omega), if_pos h]
theorem rowsF_yes {a : BitVec 256} {f p : Nat} (hp : p < 256) (h : a.getLsbD p = true) : rowsF a (f + 1) p = (p, lastF a 256 p) :: rowsF a f (lastF a 256 p + 1) := by
  conv => lhs; unfold rowsF
  rw [if_neg (by omega), if_neg (by rw [h]; simp)]
theorem four_cells6 {w : World} {b : Nat} {a : BitVec 256} (h : Blk w b (cells4 a) 42) : w.cell? ⟨b, 0, none⟩ = some (.int .u64 (wd a 0)) ∧ w.cell? ⟨b, 1, none⟩ = some (.int .u64 (wd a 1)) ∧ w.cell? ⟨b, 2, none⟩ = some (.int .u64 (wd a 2)) ∧ w.cell? ⟨b, 3, none⟩ = some (.int .u64 (wd a 3)) := by
  have g := h.cell
  exact ⟨(g 0).trans rfl, (g 1).trans rfl, (g 2).trans rfl, (g 3).trans rfl⟩
theorem clsT_some {a : BitVec 256} (h : a ≠ rowB 0 255) : clsT a = 60 :: (joinC (rowsT a) ++ [62]) := by unfold clsT; rw [if_neg h]
theorem OwnS.row2 {w : World} {base : Nat} {v : Value} {l : List (List UInt8)} (h : OwnS w base v l) : ∃ a cap, v = .slice a l.length cap ∧ l.length ≤ cap ∧ SRow w a l := by
  obtain ⟨a, cap, hv, hr⟩ := h.row
  refine ⟨a, cap, hv, ?_, hr⟩
  rcases h.2 with ⟨hv2, hn⟩ | ⟨g, cap2, cur, hv2, hb, hg, hc, hm, hs, ht⟩
  · omega
  · rw [hv] at hv2; cases hv2; exact hc
set_option maxHeartbeats 16000000 in
set_option maxRecDepth 100000 in
theorem class_any6 (a : BitVec 256) (w : World) : Calls Tryz.prog 74 #[cls a] w (Ans w (.string (bs (clsT a)))) := by
  have HS0 : Hid (PcS w a [] (.slice none 0 0) (w.alloc (.cells (cells4 a) 42))) :=
    ⟨(Below.refl _ _).alloc (Nat.le_refl _) _, Blk.new _ _ _, OwnS.nil _ _, by simp⟩
  have HC := Lib.hid (fun w' => count_any a w')
  obtain ⟨v, hv⟩ : ∃ v, clsT a = v := ⟨_, rfl⟩
  rw [hv]
  have HV := Lib.hid hv
  clear hv
  unfold cls at HC ⊢
  unfold cells4 at HS0
  go_enter Tryz.func74, Tryz.ntmps74
  go_upto_region 1 with (fail)
  generalize w.alloc (.cells #[.int .u64 (wd a 0), .int .u64 (wd a 1), .int .u64 (wd a 2), .int .u64 (wd a 3)] 42) = w1 at *
  have HH : Hid (∀ (p : Nat), p < 256 → ∀ w', Calls Tryz.prog 104 #[.agg #[.int .u64 (wd a 0), .int .u64 (wd a 1), .int .u64 (wd a 2), .int .u64 (wd a 3)], .int .u8 (p : Int)] w' (Ans w' (.bool (a.getLsbD p)))) := fun p hp w' => has_any a p hp w'
  obtain ⟨c0, c1, c2, c3⟩ := four_cells6 HS0.out.box
  have hca := cntS_all a
  generalize cntS a = n at *
  go_wp2_with fail
  refine (HC.out _).mono ?_; rintro e w2 ⟨rfl, hb⟩
  have HS2 := Lib.hid (HS0.out.later hb)
  clear hb c0 c1 c2 c3 HC HS0
  by_cases hall : a = rowB 0 255
  · have hn : n = 256 := hca.2 hall
    have hz : ((n : Int) == 256) = true := by rw [beq_iff_eq]; omega
    have HR : Hid (v = [46]) := by unfold Hid; rw [← HV.out]; unfold clsT; rw [if_pos hall]
    clear hca hn hall
    go_wp2
    go_ret
    exact ⟨by rw [HR.out]; rfl, HS2.out.bel⟩
  · have hz : ((n : Int) == 256) = false := by rw [beq_eq_false_iff_ne]; intro h; exact hall (hca.1 (by omega))
    have HR : Hid (v = 60 :: (joinC (rowsT a) ++ [62])) := by unfold Hid; rw [← HV.out]; exact clsT_some hall
    have HLB : Hid ((joinC (rowsT a)).length ≤ 1000) := by
      have h1 := clsT_len a
      have h2 : cntU a 256 ≤ 256 := cntU_le a 256
      rw [clsT_some hall] at h1
      simp at h1
      unfold Hid
      omega
    clear hca hall
    go_upto_region 4 with (fail)
    go_wp2
    go_loopw [3, 4] (PcL w a) (fun _ i _ => 257 - (intOf i).toNat)
    case atStart => exact ⟨0, 256, [], by omega, by omega, by simp, by simp, rfl, HS2.out⟩
    case round =>
      obtain ⟨p, f, l, hp, hf, hll, hl, rfl, hs⟩ := hrel
      have HS := Lib.hid hs
      have HL := Lib.hid hl
      clear hs hl
      by_cases hlt : p < 256
      · obtain ⟨f, rfl⟩ : ∃ f', f = f' + 1 := ⟨f - 1, by omega⟩
        have hltz : (p : Int) < 256 := by omega
        have hp5 : (p : Int) ≤ 255 := by omega
        obtain ⟨c0, c1, c2, c3⟩ := four_cells6 HS.out.box
        have CH := Lib.hid (HH.out p hlt)
        cases hbit : a.getLsbD p with
        | false =>
          rw [hbit] at CH
          have HE : Hid (l ++ rowsF a f (p + 1) = rowsF a 256 0) := by unfold Hid; rw [← HL.out, rowsF_no hlt hbit]
          clear hbit
          go_wp2_with fail
          refine (CH.out _).mono ?_; rintro e w3 ⟨rfl, hb⟩
          have HS3 := Lib.hid (HS.out.later hb)
          clear hb c0 c1 c2 c3
          go_wp2
          go_roundw
          case rel => exact ⟨p + 1, f, l, by omega, by omega, by omega, HE.out, by go_num, HS3.out⟩
          case measure => simp [intOf]; omega
        | true =>
          rw [hbit] at CH
          obtain ⟨q, hq⟩ : ∃ q, lastF a 256 p = q := ⟨_, rfl⟩
          have hok := lastF_ok a 256 p hlt (by omega) hbit
          rw [hq] at hok
          obtain ⟨hpq, hq6, -, -⟩ := hok
          have HE : Hid ((l ++ [(p, q)]) ++ rowsF a f (q + 1) = rowsF a 256 0) := by unfold Hid; rw [← HL.out, rowsF_yes hlt hbit, hq, List.append_assoc]; rfl
          have HQ := Lib.hid hq
          clear hbit hq
          go_wp2_with fail
          refine (CH.out _).mono ?_; rintro e w3 ⟨rfl, hb⟩
          have HS3 := Lib.hid (HS.out.later hb)
          clear hb c0 c1 c2 c3 HS HL CH
          go_wp2
          have HI0 : Hid (PcI w a (txR l) u3 q (.int .i64 (p : Int)) w3) := ⟨p, 256, hlt, by omega, HQ.out, rfl, HS3.out⟩
          clear hltz hp5
          go_loopw [5] (PcI w a (txR l) u3 q) (fun i _ => 257 - (intOf i).toNat)
          case atStart => exact HI0.out
          case round =>
            obtain ⟨j, g, hj, hg, hjq, rfl, hs⟩ := hrel
            have HSJ := Lib.hid hs
            clear hs
            obtain ⟨g, rfl⟩ : ∃ g', g = g' + 1 := ⟨g - 1, by omega⟩
            by_cases hj1 : j + 1 < 256
            · have hjz : (j : Int) + 1 < 256 := by omega
              have hj5 : (j : Int) + 1 ≤ 255 := by omega
              obtain ⟨c0, c1, c2, c3⟩ := four_cells6 HSJ.out.box
              have CH := Lib.hid (HH.out (j + 1) hj1)
              have ecast : ((j + 1 : Nat) : Int) = (j : Int) + 1 := by omega
              rw [ecast] at CH
              cases hbit : a.getLsbD (j + 1) with
              | false =>
                rw [hbit] at CH
                have hqj : q = j := by rw [← hjq]; unfold lastF; rw [if_neg (by rw [hbit]; simp)]
                clear hbit hjq
                subst hqj
                go_wp2_with fail
                refine (CH.out _).mono ?_; rintro e w4 ⟨rfl, hb⟩
                have HS4 := Lib.hid (HSJ.out.later hb)
                clear hb c0 c1 c2 c3 CH HSJ
                clear hjz hj5 ecast
                have hq5 : (q : Int) ≤ 255 := by omega
                have hp5 : (p : Int) ≤ 255 := by omega
                go_wp2_with fail
                refine (row_any6 p q hlt hq6 _).mono ?_; rintro e w5 ⟨rfl, hb⟩
                have HS5 := Lib.hid (HS4.out.later hb)
                have hal := (Below.refl w5.heap.size w5).alloc (Nat.le_refl _) (.cells #[.string (bs (rowT p q))] 9)
                have HS6 := Lib.hid (HS5.out.later hal)
                have HX6 := Lib.hid (Blk.new w5 #[.string (bs (rowT p q))] 9)
                clear hb hal
                have hlow6 := HS6.out.low
                have HTL : Hid ((txR l).length < 1073741824) := by unfold Hid txR; rw [List.length_map]; omega
                go_wp2_with (at_builtin; refine wpList_append_str rfl _ _ rfl (w.heap.size + 1) _ (txR l) rfl HS6.out.own w5.heap.size (rowT p q) rfl HX6.out HTL.out hlow6 ?_; intro v' w7 h1 h2 h3; have HO7 := Lib.hid h1; have HB7 := Lib.hid ((Below.refl (w.heap.size + 1) _).grown h2 hlow6 (fun k hk => (World.ownsRow.lt HS6.out.own k hk).1)); clear h1 h2 h3)
                have HS7 : Hid (PcS w a (txR (l ++ [(p, q)])) v' w7) := ⟨HS6.out.bel.trans (HB7.out.mono (Nat.le_succ _)), HS6.out.box.below HB7.out (Nat.lt_succ_self _), by have := HO7.out; unfold txR at this ⊢; rw [List.map_append]; exact this, Nat.le_trans hlow6 HB7.out.size⟩
                go_roundw
                case rel => exact ⟨q + 1, f, l ++ [(p, q)], by omega, by omega, by rw [List.length_append]; simp; omega, HE.out, by go_num, HS7.out⟩
                case measure => simp [intOf]; omega
              | true =>
                rw [hbit] at CH
                have hqj : lastF a g (j + 1) = q := by rw [← hjq]; conv => rhs; unfold lastF
                                                       rw [if_pos ⟨hj1, hbit⟩]
                clear hbit hjq
                go_wp2_with fail
                refine (CH.out _).mono ?_; rintro e w4 ⟨rfl, hb⟩
                have HS4 := Lib.hid (HSJ.out.later hb)
                clear hb c0 c1 c2 c3 CH HSJ
                go_wp2
                go_roundw
                case rel => exact ⟨j + 1, g, hj1, by omega, hqj, by go_num, HS4.out⟩
                case measure => simp [intOf]; omega
            · have hjz : ¬ (j : Int) + 1 < 256 := by omega
              have hqj : q = j := by rw [← hjq]; unfold lastF; rw [if_neg (by omega)]
              clear hjq
              subst hqj
              have hq5 : (q : Int) ≤ 255 := by omega
              have hp5 : (p : Int) ≤ 255 := by omega
              go_wp2_with fail
              refine (row_any6 p q hlt hq6 _).mono ?_; rintro e w5 ⟨rfl, hb⟩
              have HS5 := Lib.hid (HSJ.out.later hb)
              have hal := (Below.refl w5.heap.size w5).alloc (Nat.le_refl _) (.cells #[.string (bs (rowT p q))] 9)
              have HS6 := Lib.hid (HS5.out.later hal)
              have HX6 := Lib.hid (Blk.new w5 #[.string (bs (rowT p q))] 9)
              clear hb hal
              have hlow6 := HS6.out.low
              have HTL : Hid ((txR l).length < 1073741824) := by unfold Hid txR; rw [List.length_map]; omega
              go_wp2_with (at_builtin; refine wpList_append_str rfl _ _ rfl (w.heap.size + 1) _ (txR l) rfl HS6.out.own w5.heap.size (rowT p q) rfl HX6.out HTL.out hlow6 ?_; intro v' w7 h1 h2 h3; have HO7 := Lib.hid h1; have HB7 := Lib.hid ((Below.refl (w.heap.size + 1) _).grown h2 hlow6 (fun k hk => (World.ownsRow.lt HS6.out.own k hk).1)); clear h1 h2 h3)
              have HS7 : Hid (PcS w a (txR (l ++ [(p, q)])) v' w7) := ⟨HS6.out.bel.trans (HB7.out.mono (Nat.le_succ _)), HS6.out.box.below HB7.out (Nat.lt_succ_self _), by have := HO7.out; unfold txR at this ⊢; rw [List.map_append]; exact this, Nat.le_trans hlow6 HB7.out.size⟩
              go_roundw
              case rel => exact ⟨q + 1, f, l ++ [(p, q)], by omega, by omega, by rw [List.length_append]; simp; omega, HE.out, by go_num, HS7.out⟩
              case measure => simp [intOf]; omega
      · obtain rfl : p = 256 := by omega
        have HE : Hid (txR l = rowsT a) := by
          have := HL.out
          rw [rowsF_end, List.append_nil] at this
          unfold Hid txR rowsT; rw [this]
        have hlast : ¬ ((256 : Nat) : Int) < 256 := by omega
        obtain ⟨A, cap, rfl, hcap, hrow⟩ := HS.out.own.row2
        rw [HE.out] at hcap hrow ⊢
        have HCAP := Lib.hid hcap
        have HROW := Lib.hid hrow
        have HN : Hid ((rowsT a).length ≤ 1000) := by
          rw [← HE.out]; unfold Hid txR; rw [List.length_map]; omega
        clear hcap hrow
        go_wp2_with fail
        refine (sjoin_any (rowsT a) A cap HCAP.out HN.out (by have := HLB.out; omega) _ HROW.out).mono ?_; rintro e w3 ⟨rfl, hb⟩
        have HB3 := Lib.hid (HS.out.bel.trans (hb.mono HS.out.bel.size))
        clear hb
        have HV2 : Hid (⟨#[60]⟩ ++ bs (joinC (rowsT a)) ++ ⟨#[62]⟩ = bs v) := by
          unfold Hid
          rw [HR.out, show (⟨#[60]⟩ : ByteArray) = bs [60] from rfl, show (⟨#[62]⟩ : ByteArray) = bs [62] from rfl, bs_append, bs_append]; rfl
        have hsz : (bs (joinC (rowsT a))).size ≤ 1000 := by rw [bs_size]; exact HLB.out
        go_wp2
        go_ret
        exact ⟨by rw [← HV2.out]; rfl, HB3.out⟩
end Go.Proofs.YtcgjmnhmhiddkaaGreatDoor
/- The pieces of each kind's text: walked. -/
namespace Go.Proofs.YtcgjmnhmhiddkaaGreatDoor
open Go Go.RowKit
set_option linter.unusedVariables false
set_option linter.unusedSimpArgs false
set_option maxRecDepth 100000

/-- The library's table of tens. -/
def T10 (w : World) : Prop := Lib.TabIs Tryz.prog w "internal/strconv.uint64pow10" .u64 Lib.pow10Tab
theorem T10.later {w w' : World} (h : T10 w) (hb : Below w.heap.size w w') : T10 w' := by
  unfold T10 Lib.TabIs World.var? at h ⊢
  rw [show Tryz.prog.globalNamed "internal/strconv.uint64pow10" = some 3 by kernel_rfl] at h ⊢
  simp only [Option.bind_some] at h ⊢
  have hlt : 3 < w.heap.size := by
    rcases Nat.lt_or_ge 3 w.heap.size with h' | h'
    · exact h'
    · rw [Array.getElem?_eq_none h'] at h; cases h
  rw [hb.block _ hlt]
  exact h
theorem below_gd (w : World) (k : Nat) (os : Array Obj) : Below w.heap.size w (Sort.grow (w.drewN k) os) :=
  ⟨rfl, rfl, rfl, by unfold Sort.grow; show w.heap.size ≤ (w.heap ++ os).size; simp, fun i hi => by unfold Sort.grow; show (w.heap ++ os)[i]? = _; rw [Array.getElem?_append_left hi]⟩
theorem itoa_decT : ∀ n : Fin 256, Lib.itoa (n.val : Int) = decT n.val := by decide +kernel
theorem itoa_any (n : Nat) (hn : n < 256) (w : World) (hT : T10 w) : Calls Tryz.prog 107 #[.int .i64 (n : Int)] w (Ans w (.string (bs (decT n)))) := by
  have h := Any.strconv_Itoa laysItoa (n : Int) (by omega) (by omega) w hT
  refine h.mono ?_
  rintro e w' ⟨rfl, k, os, rfl⟩
  exact ⟨by rw [itoa_decT ⟨n, hn⟩]; rfl, below_gd w k os⟩
structure KtS (w0 : World) (n : Nd) (w : World) : Prop where
  k : KnS w0 n w
  t : T10 w
theorem KtS.later {w0 w w' : World} {n : Nd} (h : KtS w0 n w) (hb : Below w.heap.size w w') : KtS w0 n w' := ⟨h.k.later hb, h.t.later hb⟩
set_option maxHeartbeats 8000000 in
theorem bounds_any (n : Nd) (h1 : 0 ≤ n.lo) (h2 : n.lo ≤ 255) (h3 : 0 ≤ n.hi) (h4 : n.hi ≤ 255) (w : World) (hT : T10 w) : Calls Tryz.prog 80 #[.agg (ndC n)] w (Ans w (.string (bs (bndT n.lo n.hi)))) := by
  have HS0 : Hid (KtS w n (w.alloc (.cells (ndC n) 44))) := ⟨KnS.new w n, hT.later ((Below.refl _ _).alloc (Nat.le_refl _) _)⟩
  have hbn : bndT n.lo n.hi = 123 :: (decT n.lo.toNat ++ 44 :: (decT n.hi.toNat ++ [125])) := rfl
  obtain ⟨kind, a, b, lo, hi, cls_, text⟩ := n
  simp only at h1 h2 h3 h4 hbn
  obtain ⟨x, rfl⟩ : ∃ x : Nat, lo = (x : Int) := ⟨lo.toNat, by omega⟩
  obtain ⟨y, rfl⟩ : ∃ y : Nat, hi = (y : Int) := ⟨hi.toNat, by omega⟩
  rw [Int.toNat_natCast, Int.toNat_natCast] at hbn
  have HX : Hid (∀ w', T10 w' → Calls Tryz.prog 107 #[.int .i64 (x : Int)] w' (Ans w' (.string (bs (decT x))))) := fun w' h => itoa_any x (by omega) w' h
  have HY : Hid (∀ w', T10 w' → Calls Tryz.prog 107 #[.int .i64 (y : Int)] w' (Ans w' (.string (bs (decT y))))) := fun w' h => itoa_any y (by omega) w' h
  have hx3 : (bs (decT x)).size ≤ 3 := by rw [bs_size]; exact decT_bound x
  have hy3 : (bs (decT y)).size ≤ 3 := by rw [bs_size]; exact decT_bound y
  have HV : Hid (⟨#[123]⟩ ++ bs (decT x) ++ ⟨#[44]⟩ ++ bs (decT y) ++ ⟨#[125]⟩ = bs (bndT (x : Int) (y : Int))) := by
    unfold Hid
    rw [hbn, show (⟨#[123]⟩ : ByteArray) = bs [123] from rfl, show (⟨#[44]⟩ : ByteArray) = bs [44] from rfl, show (⟨#[125]⟩ : ByteArray) = bs [125] from rfl, bs_append, bs_append, bs_append, bs_append]
    simp
  clear hbn hT
  generalize bndT (x : Int) (y : Int) = v at *
  generalize decT x = dx at *
  generalize decT y = dy at *
  unfold ndC at HS0 ⊢
  simp only at HS0 ⊢
  go_enter Tryz.func80, Tryz.ntmps80
  go_upto_region 1 with (fail)
  generalize w.alloc (.cells #[.int .i64 kind, .int .i64 a, .int .i64 b, .int .i64 (x : Int), .int .i64 (y : Int), .int .u64 (wd cls_ 0), .int .u64 (wd cls_ 1), .int .u64 (wd cls_ 2), .int .u64 (wd cls_ 3), .string (bs text)] 44) = w1 at *
  refine wp_region_stable (S := (KtS w ⟨kind, a, b, (x : Int), (y : Int), cls_, text⟩)) (hSt := fun _ _ h hb => h.later hb) (plan := [[(1, none)], [(3, some 0)], [(4, some 1)], [(5, some 2)], [(6, some 3)], [(1, none)], [(8, some 5)], [(9, some 6)], [(7, some 4), (10, some 7)], [(11, some 8)], [(12, some 9)]]) (by kernel_rfl) (by kernel_rfl) (by kernel_rfl) ?hS ?_
  rotate_left
  iterate 11 first
    | (refine chain_skip (by rfl) (by rfl) ?_)
    | (apply chain_want (by rfl)
       · intro act wx hS hr
         simp at hr
         obtain ⟨f0, f1, f2, f3, f4, f5, f6, f7, f8, f9⟩ := ten_cells hS.k.box
         have q1 : ¬ 9223372036854775807 < 1 + (bs dx).size := by omega
         have q2 : ¬ 9223372036854775807 < 1 + (bs dx).size + 1 := by omega
         have q3 : ¬ 9223372036854775807 < 1 + (bs dx).size + 1 + (bs dy).size := by omega
         have q4 : ¬ 9223372036854775807 < 1 + (bs dx).size + 1 + (bs dy).size + 1 := by omega
         go_simp
         (try go_ints)
         first
           | ((with_reducible refine (HX.out _ hS.t).mono ?_); rintro e w' ⟨rfl, hb⟩; exact Done.mk hb)
           | ((with_reducible refine (HY.out _ hS.t).mono ?_); rintro e w' ⟨rfl, hb⟩; exact Done.mk hb)
           | exact Done.same
      )
  show ∀ w', _ → _
  intro wz hz
  simp [Act.put]
  case hS => exact HS0.out
  have HZ := Lib.hid hz
  clear hz
  go_wp2
  go_ret
  exact ⟨by rw [← HV.out]; rfl, HZ.out.k.bel⟩
set_option maxHeartbeats 8000000 in
theorem kinds1_any (n : Nd) (w : World) : Calls Tryz.prog 71 #[.agg (ndC n)] w (PcPost w (brk [])) := by
  have BR := Lib.hid (fun w' => bracketed_any [] (by simp) (.slice none 0 0) w' (.inl ⟨rfl, rfl⟩))
  have HS0 := Lib.hid (KnS.new w n)
  have HP := Lib.hid (fun i lev w' => part_any6 i lev w')
  have HG := Lib.hid (fun s w' => sign_any s w')
  obtain ⟨kind, a, b, lo, hi, cls_, text⟩ := n
  unfold ndC at HS0 ⊢
  simp only at HS0 ⊢
  simp only [pcC] at HP HG
  go_enter Tryz.func71, Tryz.ntmps71
  go_upto_region 1 with (fail)
  generalize w.alloc (.cells #[.int .i64 kind, .int .i64 a, .int .i64 b, .int .i64 lo, .int .i64 hi, .int .u64 (wd cls_ 0), .int .u64 (wd cls_ 1), .int .u64 (wd cls_ 2), .int .u64 (wd cls_ 3), .string (bs text)] 44) = w1 at *
  obtain ⟨f0, f1, f2, f3, f4, f5, f6, f7, f8, f9⟩ := ten_cells HS0.out.box
  go_wp2_with fail
  refine (BR.out _).mono ?_; rintro e w2 ⟨v, rfl, ho, hb⟩
  obtain ⟨a7, c7, rfl, -⟩ := ho.row
  have HO7 := Lib.hid (ho.lower HS0.out.bel.size)
  have HB7 := Lib.hid (HS0.out.bel.trans (hb.mono HS0.out.bel.size))
  clear ho hb
  generalize (brk []).length = m at *
  go_wp2
  go_ret
  exact ⟨_, rfl, HO7.out, HB7.out⟩
set_option maxHeartbeats 8000000 in
theorem kinds2_any (n : Nd) (w : World) : Calls Tryz.prog 72 #[.agg (ndC n)] w (PcPost w [.sg (clsT n.cls)]) := by
  have CL := Lib.hid (fun w' => class_any6 n.cls w')
  unfold cls at CL
  have HS0 := Lib.hid (KnS.new w n)
  have HP := Lib.hid (fun i lev w' => part_any6 i lev w')
  have HG := Lib.hid (fun s w' => sign_any s w')
  obtain ⟨kind, a, b, lo, hi, cls_, text⟩ := n
  unfold ndC at HS0 ⊢
  simp only at HS0 ⊢
  simp only [pcC] at HP HG
  go_enter Tryz.func72, Tryz.ntmps72
  go_upto_region 1 with (fail)
  generalize w.alloc (.cells #[.int .i64 kind, .int .i64 a, .int .i64 b, .int .i64 lo, .int .i64 hi, .int .u64 (wd cls_ 0), .int .u64 (wd cls_ 1), .int .u64 (wd cls_ 2), .int .u64 (wd cls_ 3), .string (bs text)] 44) = w1 at *
  obtain ⟨f0, f1, f2, f3, f4, f5, f6, f7, f8, f9⟩ := ten_cells HS0.out.box
  simp only at CL
  go_wp2_with fail
  refine (CL.out _).mono ?_; rintro e w2 ⟨rfl, hb⟩
  have HS2 := Lib.hid (HS0.out.later hb)
  clear hb
  go_wp2_with fail
  refine (HG.out _ _).mono ?_; rintro e w3 ⟨rfl, hb⟩
  have HZ := Lib.hid (HS2.out.later hb)
  clear hb
  go_wp2
  go_ret
  exact HZ.out.post rfl rfl (by omega)
set_option maxHeartbeats 8000000 in
theorem kinds7_any (n : Nd) (h1 : 0 ≤ n.lo) (h2 : n.lo ≤ 255) (h3 : 0 ≤ n.hi) (h4 : n.hi ≤ 255) (w : World) (hT : T10 w) : Calls Tryz.prog 79 #[.agg (ndC n)] w (PcPost w [.nd n.a 2, .sg (bndT n.lo n.hi)]) := by
  have BD := Lib.hid (fun w' h => bounds_any n h1 h2 h3 h4 w' h)
  have HT1 : Hid (T10 (w.alloc (.cells (ndC n) 44))) := hT.later ((Below.refl _ _).alloc (Nat.le_refl _) _)
  clear hT
  obtain ⟨v, hv⟩ : ∃ v, bndT n.lo n.hi = v := ⟨_, rfl⟩
  rw [hv] at BD ⊢
  clear hv h1 h2 h3 h4
  unfold ndC at BD HT1
  have HS0 := Lib.hid (KnS.new w n)
  have HP := Lib.hid (fun i lev w' => part_any6 i lev w')
  have HG := Lib.hid (fun s w' => sign_any s w')
  obtain ⟨kind, a, b, lo, hi, cls_, text⟩ := n
  unfold ndC at HS0 ⊢
  simp only at HS0 ⊢
  simp only [pcC] at HP HG
  go_enter Tryz.func79, Tryz.ntmps79
  go_upto_region 1 with (fail)
  generalize w.alloc (.cells #[.int .i64 kind, .int .i64 a, .int .i64 b, .int .i64 lo, .int .i64 hi, .int .u64 (wd cls_ 0), .int .u64 (wd cls_ 1), .int .u64 (wd cls_ 2), .int .u64 (wd cls_ 3), .string (bs text)] 44) = w1 at *
  obtain ⟨f0, f1, f2, f3, f4, f5, f6, f7, f8, f9⟩ := ten_cells HS0.out.box
  simp only at BD HT1
  have HS1 : Hid (KtS w ⟨kind, a, b, lo, hi, cls_, text⟩ w1) := ⟨HS0.out, HT1.out⟩
  refine wp_region_stable_tail 6 (S := (KtS w ⟨kind, a, b, lo, hi, cls_, text⟩)) (hSt := fun _ _ h hb => h.later hb) (plan := [[(1, none)], [(3, some 0)], [(4, some 1)], [(1, none)], [(6, some 3)], [(7, some 4)]]) rfl rfl (by kernel_rfl) (by kernel_rfl) (by kernel_rfl) (by kernel_rfl) ?hS ?_
  rotate_left
  iterate 6 first
    | (refine chain_skip (by rfl) (by rfl) ?_)
    | (apply chain_want (by rfl)
       · intro act wx hS hr
         simp at hr
         obtain ⟨f0, f1, f2, f3, f4, f5, f6, f7, f8, f9⟩ := ten_cells hS.k.box
         go_simp
         (try go_ints)
         first
           | ((with_reducible refine (HP.out _ _ _).mono ?_); rintro e w' ⟨rfl, hb⟩; exact Done.mk hb)
           | ((with_reducible refine (BD.out _ hS.t).mono ?_); rintro e w' ⟨rfl, hb⟩; exact Done.mk hb)
           | ((with_reducible refine (HG.out _ _).mono ?_); rintro e w' ⟨rfl, hb⟩; exact Done.mk hb)
           | exact Done.same
      )
  show ∀ w', _ → _
  intro wz hz
  simp [Act.put]
  case hS => exact HS1.out
  have HZ := Lib.hid hz.k
  clear hz
  go_wp2
  go_ret
  exact HZ.out.post rfl rfl (by omega)
def OwnQ (base : Nat) (l : List Pc) (v : Value) (w : World) : Prop := OwnP w base v l ∧ base ≤ w.heap.size
theorem OwnQ.later (base : Nat) (l : List Pc) (v : Value) (w w' : World) (h : OwnQ base l v w) (hb : Below w.heap.size w w') : OwnQ base l v w' := ⟨h.1.later hb, Nat.le_trans h.2 hb.size⟩
def RowQ (l : List Pc) (v : Value) (w : World) : Prop := RowOr w v l
theorem RowQ.later (l : List Pc) (v : Value) (w w' : World) (h : RowQ l v w) (hb : Below w.heap.size w w') : RowQ l v w' := RowOr.later h hb
structure FrS (w0 : World) (n : Nd) (bx : Nat) (s : List UInt8) (w : World) : Prop where
  k : KnS w0 n w
  box : Blk w bx #[.string (bs s)] 9
theorem FrS.later {w0 w w' : World} {n : Nd} {bx : Nat} {s : List UInt8} (h : FrS w0 n bx s w) (hb : Below w.heap.size w w') : FrS w0 n bx s w' := ⟨h.k.later hb, h.box.later hb⟩
theorem pc_new (p : Pc) (w : World) : OwnP (w.alloc (.cells (pcC p) 92)) w.heap.size (.slice (some ⟨w.heap.size, 0, none⟩) 1 1) [p] := OwnP.new (by show _ = (pcC p).toList ++ []; rw [List.append_nil]) rfl (by omega)
set_option maxHeartbeats 8000000 in
theorem framed1_any (n : Nd) (bx : Nat) (s : List UInt8) (w : World) (hbx : Blk w bx #[.string (bs s)] 9) : Calls Tryz.prog 108 #[.agg (ndC n), .pointer (some ⟨bx, 0, none⟩)] w (PcPost w (.sg s :: brk [.nd n.a 0])) := by
  have HX1 := Lib.hid (hbx.alloc (.cells (ndC n) 44))
  clear hbx
  unfold ndC at HX1
  have HS0 := Lib.hid (KnS.new w n)
  have HP := Lib.hid (fun i lev w' => part_any6 i lev w')
  have HG := Lib.hid (fun s w' => sign_any s w')
  obtain ⟨kind, a, b, lo, hi, cls_, text⟩ := n
  unfold ndC at HS0 ⊢
  simp only at HS0 ⊢
  simp only [pcC] at HP HG
  go_enter Tryz.func108, Tryz.ntmps108
  go_upto_region 1 with (fail)
  generalize w.alloc (.cells #[.int .i64 kind, .int .i64 a, .int .i64 b, .int .i64 lo, .int .i64 hi, .int .u64 (wd cls_ 0), .int .u64 (wd cls_ 1), .int .u64 (wd cls_ 2), .int .u64 (wd cls_ 3), .string (bs text)] 44) = w1 at *
  obtain ⟨f0, f1, f2, f3, f4, f5, f6, f7, f8, f9⟩ := ten_cells HS0.out.box
  have HS1 : Hid (FrS w ⟨kind, a, b, lo, hi, cls_, text⟩ bx s w1) := ⟨HS0.out, HX1.out⟩
  refine wp_region_stable_tail 8 (S := (FrS w ⟨kind, a, b, lo, hi, cls_, text⟩ bx s)) (hSt := fun _ _ h hb => h.later hb) (plan := [[(1, none)], [(4, some 0)], [(5, some 1)], [(2, none)], [(7, some 3)], [(8, some 4)], [(9, some 5)], [(10, some 6)]]) rfl rfl (by kernel_rfl) (by kernel_rfl) (by kernel_rfl) (by kernel_rfl) ?hS ?_
  rotate_left
  iterate 2 first
    | (refine chain_skip (by rfl) (by rfl) ?_)
    | (apply chain_want (by rfl)
       · intro act wx hS hr
         simp at hr
         obtain ⟨f0, f1, f2, f3, f4, f5, f6, f7, f8, f9⟩ := ten_cells hS.k.box
         have g0 := hS.box.cell 0
         simp at g0
         go_simp
         (try go_ints)
         first
           | ((with_reducible refine (HP.out _ _ _).mono ?_); rintro e w' ⟨rfl, hb⟩; exact Done.mk hb)
           | ((with_reducible refine (HG.out _ _).mono ?_); rintro e w' ⟨rfl, hb⟩; exact Done.mk hb)
           | exact Done.same
      )
  (refine chain_rel (OwnQ w.heap.size [.sg s]) (OwnQ.later _ _) (by rfl) ?_ ?_
   · intro act wx hS hr
     simp at hr
     obtain ⟨f0, f1, f2, f3, f4, f5, f6, f7, f8, f9⟩ := ten_cells hS.k.box
     have g0 := hS.box.cell 0
     simp at g0
     all_goals go_simp
     exact Done.rel ((Below.refl _ _).alloc (Nat.le_refl _) _) ⟨(pc_new (.sg s) wx).lower hS.k.bel.size, Nat.le_trans hS.k.bel.size (by simp)⟩
  )
  iterate 3 first
    | (refine chain_skip (by rfl) (by rfl) ?_)
    | (apply chain_want (by rfl)
       · intro act wx hS hr
         simp at hr
         obtain ⟨f0, f1, f2, f3, f4, f5, f6, f7, f8, f9⟩ := ten_cells hS.k.box
         have g0 := hS.box.cell 0
         simp at g0
         go_simp
         (try go_ints)
         first
           | ((with_reducible refine (HP.out _ _ _).mono ?_); rintro e w' ⟨rfl, hb⟩; exact Done.mk hb)
           | ((with_reducible refine (HG.out _ _).mono ?_); rintro e w' ⟨rfl, hb⟩; exact Done.mk hb)
           | exact Done.same
      )
  (refine chain_rel (RowQ [.nd a 0]) (RowQ.later _) (by rfl) ?_ ?_
   · intro act wx hS hr
     simp at hr
     obtain ⟨f0, f1, f2, f3, f4, f5, f6, f7, f8, f9⟩ := ten_cells hS.k.box
     have g0 := hS.box.cell 0
     simp at g0
     all_goals go_simp
     exact Done.rel ((Below.refl _ _).alloc (Nat.le_refl _) _) ((pc_new (.nd a 0) wx).rowOr (by simp))
  )
  (refine chain_rel (RowQ (brk [.nd a 0])) (RowQ.later _) (by rfl) ?_ ?_
   · intro act wx hS hr
     simp at hr
     obtain ⟨f0, f1, f2, f3, f4, f5, f6, f7, f8, f9⟩ := ten_cells hS.k.box
     have g0 := hS.box.cell 0
     simp at g0
     obtain ⟨v, hr3, hro⟩ := hr
     all_goals go_simp
     (try simp only [hr3, Option.getD_some])
     refine (bracketed_any [.nd a 0] (by simp) v wx hro).mono ?_
     rintro e w' ⟨u, rfl, ho, hb⟩
     exact Done.rel hb (ho.rowOr (by simp [brk]))
  )
  show ∀ w', _ → _
  intro wz hz
  simp [Act.put]
  case hS => exact HS1.out
  intro v2 hv2 v6 hv6 v7 hv7
  rcases hv7 with ⟨h7, -⟩ | ⟨g7, o7, c7, hl7, rfl, hr7⟩
  · exact absurd h7 (by simp [brk])
  · refine wpList_append_prow rfl (.tmp 6) (.tmp 11) rfl w.heap.size v2 [.sg s] rfl hv2.1 g7 o7 c7 (brk [.nd a 0]) rfl hr7 hl7 (by simp [brk]) hv2.2 ?_
    intro v' w8 h1 h2
    have HB8 := Lib.hid (hz.k.bel.trans ((Below.refl w.heap.size _).grown h2 hv2.2 (fun k hk => (World.ownsRow.lt hv2.1 k hk).1)))
    obtain ⟨a9, c9, rfl, -⟩ := h1.row
    have HO8 := Lib.hid h1
    clear h1 h2 hv2 hz hr7 hl7
    generalize ([Pc.sg s] ++ brk [.nd a 0]).length = m at *
    simp [Act.put]
    go_simp
    go_wp2
    go_ret
    exact ⟨_, rfl, HO8.out, HB8.out⟩
/-- A closure that frames with a letter. -/
def frV (b : Nat) : Value := .func (.func 108) #[] #[.pointer (some ⟨b, 0, none⟩)]
set_option maxHeartbeats 8000000 in
theorem framed_any (s : ByteArray) (w : World) : Calls Tryz.prog 81 #[.string s] w (fun e w' => e = .returned (frV w.heap.size) ∧ Blk w' w.heap.size #[.string s] 9 ∧ Below w.heap.size w w') := by
  have HB := Lib.hid (Blk.new w #[.string s] 9)
  go_enter Tryz.func81, Tryz.ntmps81
  go_wp2
  exact bodyPost_ret (v := frV w.heap.size) (by simp [results, Tryz.results81, go_sem, frV]) rfl ⟨rfl, HB.out, (Below.refl _ _).alloc (Nat.le_refl _) _⟩
end Go.Proofs.YtcgjmnhmhiddkaaGreatDoor
/- What a proof of a row of print and lex needs around its walk: the table of tens and those of unicode/utf8 out of the listed variables, a world for the witness. -/
namespace Go.Proofs.YtcgjmnhmhiddkaaGreatDoor
open Go Go.RowKit Go.ChangeShapes Go.WideShapes Go.ChangeAt Go.Joins
set_option maxRecDepth 100000

theorem tab_of_reads {P : Program} {W : World} {name : String} {k : IntKind} {zs : List Int} {g : Nat} {t e : TypeId} {n : Nat}
    (hg : P.globalNamed name = some g) (hty : (P.globals[g]?).map (·.type) = some t) (ht : P.underlying t = some (.array n e)) (he : P.underlying e = some (.int k)) (hce : P.cellsOf e = 1) (hct : P.cellsOf t = n)
    (h : Lib.VarReads P W name (Lib.tabData k zs)) : Lib.TabIs P W name k zs := by
  obtain ⟨g', t', cs, fuel, p, hg', ht', hvar, hd⟩ := h
  obtain rfl := Option.some.inj (hg.symm.trans hg')
  obtain rfl := Option.some.inj (hty.symm.trans ht')
  unfold Lib.TabIs
  rw [hvar, ← Lib.cells_of_tab ht he hce hct hd]
theorem tenD : (Rows.laid_internal_strconv_uint64pow10 : DataW Unit) = Lib.tabData .u64 Lib.pow10Tab := by kernel_rfl
theorem gTen : Tryz.prog.globalNamed "internal/strconv.uint64pow10" = some 3 := by kernel_rfl
theorem gTenType : (Tryz.prog.globals[3]?).map (·.type) = some 213 := by kernel_rfl
theorem cellsTen : Tryz.prog.cellsOf 213 = 20 := by kernel_rfl
theorem t10_of_laid {W : World} (h : laidMetH Tryz.prog [("math/bits.deBruijn32tab", Rows.laid_math_bits_deBruijn32tab), ("math/bits.deBruijn64tab", Rows.laid_math_bits_deBruijn64tab), ("internal/strconv.uint64pow10", Rows.laid_internal_strconv_uint64pow10), ("unicode/utf8.acceptRanges", Rows.laid_unicode_utf8_acceptRanges), ("unicode/utf8.first", Rows.laid_unicode_utf8_first)] W) : T10 W := by
  have hL : laidMet Tryz.prog [("math/bits.deBruijn32tab", Rows.laid_math_bits_deBruijn32tab), ("math/bits.deBruijn64tab", Rows.laid_math_bits_deBruijn64tab), ("internal/strconv.uint64pow10", Rows.laid_internal_strconv_uint64pow10), ("unicode/utf8.acceptRanges", Rows.laid_unicode_utf8_acceptRanges), ("unicode/utf8.first", Rows.laid_unicode_utf8_first)] W := h
  have hr := Lib.laidMet.reads hL (.tail _ (.tail _ (.head _)))
  rw [tenD] at hr
  exact tab_of_reads gTen gTenType Tryz.underlying213 Tryz.underlying40 cellsU64 cellsTen hr
theorem firstD : (Rows.laid_unicode_utf8_first : DataW Unit) = Lib.firstData := by kernel_rfl
theorem acceptD : (Rows.laid_unicode_utf8_acceptRanges : DataW Unit) = Lib.acceptData := by kernel_rfl
theorem u8_of_laid {W : World} (h : laidMetH Tryz.prog [("math/bits.deBruijn32tab", Rows.laid_math_bits_deBruijn32tab), ("math/bits.deBruijn64tab", Rows.laid_math_bits_deBruijn64tab), ("internal/strconv.uint64pow10", Rows.laid_internal_strconv_uint64pow10), ("unicode/utf8.acceptRanges", Rows.laid_unicode_utf8_acceptRanges), ("unicode/utf8.first", Rows.laid_unicode_utf8_first)] W) : U8T W := by
  have hL : laidMet Tryz.prog [("math/bits.deBruijn32tab", Rows.laid_math_bits_deBruijn32tab), ("math/bits.deBruijn64tab", Rows.laid_math_bits_deBruijn64tab), ("internal/strconv.uint64pow10", Rows.laid_internal_strconv_uint64pow10), ("unicode/utf8.acceptRanges", Rows.laid_unicode_utf8_acceptRanges), ("unicode/utf8.first", Rows.laid_unicode_utf8_first)] W := h
  have hf := Lib.laidMet.reads hL (.tail _ (.tail _ (.tail _ (.tail _ (.head _)))))
  have ha := Lib.laidMet.reads hL (.tail _ (.tail _ (.tail _ (.head _))))
  rw [firstD] at hf
  rw [acceptD] at ha
  have ht := utf8Tabs_of_readsT (U8Types.of196 laysValid) ⟨by kernel_rfl, by kernel_rfl, by kernel_rfl, by kernel_rfl, by kernel_rfl, by kernel_rfl, by kernel_rfl⟩ hf ha
  have h2 : Lib.Utf8Tabs 0 1 W := ht
  exact ⟨World.block_lt_of_cell? W _ (h2.1 0 (by omega)), World.block_lt_of_cell? W _ (h2.2 0 (by omega)).1, h2⟩
/-- The cells of a listed table of numbers. -/
def tabCells : DataW Unit → Array Value
  | .agg l => (l.map fun d => match d with | .lit (.int k z) => Value.int k z | _ => Value.bool false).toArray
  | _ => #[]
/-- A world for a witness: the tables holding what their initialisers lay. -/
noncomputable def laidWorldB (os : Os) : World :=
  let w0 := World.holding Tryz.prog os ⟨#[], #[], []⟩
  let put (h : Array Obj) (g : Nat) (cs : Array Value) : Array Obj := h.modify g fun
    | .cells _ t frozen => .cells cs t frozen
    | o => o
  let h1 := put w0.heap 4 (tabCells Rows.laid_math_bits_deBruijn32tab)
  let h2 := put h1 5 (tabCells Rows.laid_math_bits_deBruijn64tab)
  let h3 := put h2 3 (tabCells Rows.laid_internal_strconv_uint64pow10)
  let h4 := put h3 0 (Lib.firstTab.map fun z => Value.int .u8 z).toArray
  let h5 := put h4 1 ((List.range 16).flatMap fun i => [Value.int .u8 (Lib.accLo i), Value.int .u8 (Lib.accHi i)]).toArray
  { w0 with heap := h5 }
end Go.Proofs.YtcgjmnhmhiddkaaGreatDoor
