/- The statement SplitFine of layer 2, walked. -/
import Derived.Test.YtgehepiphdphjaaDoorSplitAwake
import Derived.Test.YtgehepiphdphjaaDoorSplitFineM
namespace Go.Proofs.YtgehepiphdphjaaDoor
open Go Go.RowKit
set_option linter.unusedVariables false
set_option linter.unusedSimpArgs false

theorem z4_fin : cells4 0#256 = #[.int .u64 0, .int .u64 0, .int .u64 0, .int .u64 0] := by
  unfold cells4
  rw [show wd 0#256 0 = 0 by decide, show wd 0#256 1 = 0 by decide, show wd 0#256 2 = 0 by decide, show wd 0#256 3 = 0 by decide]; rfl
theorem LRow.belowB {w w' : World} {a : Option Addr} {l : List (BitVec 256)} {B : Nat} (h : LRow w a l) (ha : ∀ b o, a = some ⟨b, o, none⟩ → l ≠ [] → b < B) (hb : Below B w w') : LRow w' a l := fun i hi => by
  obtain ⟨b, off, e, hlt, hc⟩ := h i hi
  have hbB := ha b off e (List.ne_nil_of_length_pos (by omega))
  exact ⟨b, off, e, Nat.lt_of_lt_of_le hlt hb.size, fun j hj => (hb.cell (p := ⟨b, off + i * 4 + j, none⟩) hbB).trans (hc j hj)⟩
theorem Row8.belowB {w w' : World} {A : Option Addr} {l : List Nat} {B : Nat} (h0 : Row8 w A l) (hlt : ∀ b off, A = some ⟨b, off, none⟩ → l ≠ [] → b < B) (hb : Below B w w') : Row8 w' A l :=
  ⟨h0.1, h0.2.1, fun i hi => by
    obtain ⟨b, off, ha, h1, hc⟩ := h0.2.2 i hi
    have := hlt b off ha (List.ne_nil_of_length_pos (by omega))
    exact ⟨b, off, ha, Nat.lt_of_lt_of_le h1 hb.size, (hb.cell (p := ⟨b, off + i, none⟩) this).trans hc⟩⟩
theorem Row8.at1 {w : World} {b o : Nat} {l : List Nat} (h : Row8 w (some ⟨b, o, none⟩) l) {i : Nat} (hi : i < l.length) {c : Nat} (hc : l.getD i 0 = c) : w.cell? ⟨b, o + i, none⟩ = some (.int .u8 (c : Int)) := by
  obtain ⟨b', o', e, _, h1⟩ := h.2.2 i hi
  cases e; rw [← hc]; exact h1
/-- What stands through the call. -/
structure FinS (w0 : World) (A : Option Addr) (b1 o1 b2 o2 : Nat) (l : List (BitVec 256)) (ba : Nat) (S : BitVec 256) (w : World) : Prop where
  below : Below w0.heap.size w0 w
  row : LRow w A l
  prow : LRow w (some ⟨b1, o1, none⟩) (partsL l)
  hrow : Row8 w (some ⟨b2, o2, none⟩) (headsL l)
  box : Blk w ba (cells4 S) 29
structure FinN (w0 : World) (A : Option Addr) (b1 b2 : Nat) (l : List (BitVec 256)) (ba : Nat) : Prop where
  low : w0.heap.size ≤ ba
  a : ∀ b o, A = some ⟨b, o, none⟩ → l ≠ [] → b < ba
  p : b1 < ba
  h : b2 < ba
theorem FinS.later {w0 w w' : World} {A : Option Addr} {b1 o1 b2 o2 : Nat} {l : List (BitVec 256)} {ba : Nat} {S : BitVec 256} (h : FinS w0 A b1 o1 b2 o2 l ba S w) (hb : Below w.heap.size w w') : FinS w0 A b1 o1 b2 o2 l ba S w' :=
  ⟨h.below.trans (hb.mono h.below.size), h.row.later hb, h.prow.later hb, h.hrow.later hb, h.box.later hb⟩
theorem FinS.beyond {w0 w w' : World} {A : Option Addr} {b1 o1 b2 o2 : Nat} {l : List (BitVec 256)} {ba : Nat} {S : BitVec 256} (hn : FinN w0 A b1 b2 l ba) (h : FinS w0 A b1 o1 b2 o2 l ba S w) (hb : Below (ba + 1) w w') : FinS w0 A b1 o1 b2 o2 l ba S w' :=
  ⟨h.below.trans (hb.mono (by have := hn.low; omega)), h.row.belowB (fun b o e hne => by have := hn.a b o e hne; omega) hb, h.prow.belowB (fun b o e _ => by cases e; have := hn.p; omega) hb, h.hrow.belowB (fun b o e _ => by cases e; have := hn.h; omega) hb, h.box.below hb (Nat.lt_succ_self _)⟩
theorem below4 {B : Nat} {w : World} {b : Nat} (hb : B ≤ b) (v0 v1 v2 v3 : Value) : Below B w ((((w.setCell ⟨b, 0, none⟩ v0).setCell ⟨b, 1, none⟩ v1).setCell ⟨b, 2, none⟩ v2).setCell ⟨b, 3, none⟩ v3) :=
  ((((Below.refl B w).setCell (p := ⟨b, 0, none⟩) hb v0).setCell (p := ⟨b, 1, none⟩) hb v1).setCell (p := ⟨b, 2, none⟩) hb v2).setCell (p := ⟨b, 3, none⟩) hb v3
theorem FinS.set {w0 w : World} {A : Option Addr} {b1 o1 b2 o2 : Nat} {l : List (BitVec 256)} {ba : Nat} {S : BitVec 256} (hn : FinN w0 A b1 b2 l ba) (h : FinS w0 A b1 o1 b2 o2 l ba S w) (T : BitVec 256) :
    FinS w0 A b1 o1 b2 o2 l ba T ((((w.setCell ⟨ba, 0, none⟩ (.int .u64 (wd T 0))).setCell ⟨ba, 1, none⟩ (.int .u64 (wd T 1))).setCell ⟨ba, 2, none⟩ (.int .u64 (wd T 2))).setCell ⟨ba, 3, none⟩ (.int .u64 (wd T 3))) := by
  have hb := below4 (B := ba) (w := w) (Nat.le_refl ba) (.int .u64 (wd T 0)) (.int .u64 (wd T 1)) (.int .u64 (wd T 2)) (.int .u64 (wd T 3))
  exact ⟨h.below.trans (hb.mono hn.low), h.row.belowB hn.a hb, h.prow.belowB (fun b o e _ => by cases e; exact hn.p) hb, h.hrow.belowB (fun b o e _ => by cases e; exact hn.h) hb, h.box.set4 T⟩
def FinL (w0 : World) (A : Option Addr) (b1 o1 b2 o2 : Nat) (l : List (BitVec 256)) (ba N : Nat) (i : Value) (w : World) : Prop := ∃ k : Nat, k ≤ N ∧ i = .int .i64 (k : Int) ∧ FinS w0 A b1 o1 b2 o2 l ba (joinTo l k) w
def FinA (w0 : World) (A : Option Addr) (b1 o1 b2 o2 : Nat) (l : List (BitVec 256)) (ba N : Nat) (S : BitVec 256) (i : Value) (w : World) : Prop := ∃ k : Nat, k ≤ N ∧ i = .int .i64 (k : Int) ∧ FinS w0 A b1 o1 b2 o2 l ba S w
def FinC (w0 : World) (A : Option Addr) (b1 o1 b2 o2 : Nat) (l : List (BitVec 256)) (ba : Nat) (S : BitVec 256) (c d : Nat) (ap m : Value) (w : World) : Prop := ∃ k : Nat, k ≤ l.length ∧ ap = .bool (apartB l c d k) ∧ m = .int .i64 (k : Int) ∧ FinS w0 A b1 o1 b2 o2 l ba S w
/-- A new box. -/
def NewBx (B : Nat) (v : Value) (w : World) : Prop := ∃ b, v = .pointer (some ⟨b, 0, none⟩) ∧ Blk w b (cells4 0#256) 29 ∧ B ≤ b
theorem NewBx.later (B : Nat) (v : Value) (w w' : World) (h : NewBx B v w) (hb : Below w.heap.size w w') : NewBx B v w' := by obtain ⟨b, h1, h2, h3⟩ := h; exact ⟨b, h1, h2.later hb, h3⟩
structure FinB (B : Nat) (w0 : World) (A : Option Addr) (b1 o1 b2 o2 : Nat) (l : List (BitVec 256)) (ba : Nat) (S : BitVec 256) (w : World) : Prop where
  s : FinS w0 A b1 o1 b2 o2 l ba S w
  le : B ≤ w.heap.size
theorem FinB.later {B : Nat} {w0 w w' : World} {A : Option Addr} {b1 o1 b2 o2 : Nat} {l : List (BitVec 256)} {ba : Nat} {S : BitVec 256} (h : FinB B w0 A b1 o1 b2 o2 l ba S w) (hb : Below w.heap.size w w') : FinB B w0 A b1 o1 b2 o2 l ba S w' := ⟨h.s.later hb, Nat.le_trans h.le hb.size⟩
structure FinX (w0 : World) (A : Option Addr) (b1 o1 b2 o2 : Nat) (l : List (BitVec 256)) (ba : Nat) (S : BitVec 256) (bs : Nat) (X : BitVec 256) (w : World) : Prop where
  s : FinS w0 A b1 o1 b2 o2 l ba S w
  x : Blk w bs (cells4 X) 29
theorem FinX.later {w0 w w' : World} {A : Option Addr} {b1 o1 b2 o2 : Nat} {l : List (BitVec 256)} {ba : Nat} {S : BitVec 256} {bs : Nat} {X : BitVec 256} (h : FinX w0 A b1 o1 b2 o2 l ba S bs X w) (hb : Below w.heap.size w w') : FinX w0 A b1 o1 b2 o2 l ba S bs X w' := ⟨h.s.later hb, h.x.later hb⟩
set_option maxRecDepth 1000000 in
set_option maxHeartbeats 64000000 in
theorem splitfine_walk (l : List (BitVec 256)) (A : Option Addr) (c1 : Nat) (w : World) (hd : Deb w) (h1 : LRow w A l) (hA : l.length ≤ 9223372036854775807) :
    Calls Tryd.prog 3 #[.slice A l.length c1] w (Ans w (.bool true)) := by
  have HD := Lib.hid hd
  have HR := Lib.hid h1
  clear hd h1
  go_enter Tryd.func3, Tryd.ntmps3
  by_cases h8 : 12 < l.length
  · have h8n : (l.length : Int) > 12 := by omega
    go_wp2_with fail
    refine (awake2_any _ HD.out).mono ?_; rintro e w1 ⟨rfl, hb⟩
    go_wp2_with fail
    refine (awake2_any _ (HD.out.below hb)).mono ?_; rintro e w2 ⟨rfl, hb2⟩
    have HF := Lib.hid (hb.trans (hb2.mono hb.size))
    clear hb hb2
    go_wp2
    go_ret
    exact ⟨rfl, HF.out⟩
  · have h8n : ¬ (l.length : Int) > 12 := by omega
    have hll : l.length < 1073741824 := by omega
    have HLL := Lib.hid hll
    have hl12 : l.length ≤ 12 := by omega
    clear h8 hA
    go_wp2_with fail
    refine (awake2_any _ HD.out).mono ?_; rintro e w1 ⟨rfl, hb⟩
    have HB1 := Lib.hid hb
    clear hb
    go_wp2_with fail
    refine (parts_any l A c1 _ (HR.out.later HB1.out) (HD.out.below HB1.out) hll).mono ?_
    rintro e w2 ⟨v, rfl, ⟨P1, cp, rfl, hrp⟩, hb2⟩
    have HB2 := Lib.hid hb2
    have HRP := Lib.hid hrp
    clear hb2 hrp
    go_wp2_with fail
    refine (heads_any l A c1 _ ((HR.out.later HB1.out).later HB2.out) ((HD.out.below HB1.out).below HB2.out) hll).mono ?_
    rintro e w3 ⟨v, rfl, ⟨P2, ch, rfl, hrh⟩, hb3⟩
    rw [parts_length]
    obtain ⟨N, hN⟩ : ∃ N, (headsL l).length = N := ⟨_, rfl⟩
    have hNle := heads_le l
    have hNpos : 0 < (headsL l).length := by
      have h0 : lstB (cellB l 0) ∈ headsL l := by unfold headsL; rw [List.mem_filter, List.mem_range]; exact ⟨(head_lst (l := l) (by omega)).2.2, (head_lst (l := l) (by omega)).1⟩
      exact List.length_pos_iff.2 (List.ne_nil_of_mem h0)
    have HNP : Hid ((partsL l).length = N) := by unfold Hid; rw [parts_length]; exact hN
    have HNH : Hid ((headsL l).length = N) := hN
    rw [hN]
    rw [hN] at hNle hNpos
    have hnz : ((N : Int) == 0) = false := by rw [beq_eq_false_iff_ne]; omega
    obtain ⟨b1, o1, rfl, q1, -⟩ := HRP.out 0 (by rw [HNP.out]; exact hNpos)
    obtain ⟨b2, o2, rfl, q2, -⟩ := hrh.2.2 0 (by rw [hN]; exact hNpos)
    have hba := (Below.refl w3.heap.size w3).alloc (Nat.le_refl _) (.cells (cells4 0#256) 29)
    have HR3 := Lib.hid (((HR.out.later HB1.out).later HB2.out).later hb3)
    have HN : Hid (FinN w A b1 b2 l w3.heap.size) := ⟨by have := HB1.out.size; have := HB2.out.size; have := hb3.size; omega, fun b o e hne => by
      obtain ⟨b', o', e', hlt, _⟩ := HR3.out 0 (List.length_pos_iff.2 hne)
      rw [e] at e'; cases e'; exact hlt, Nat.lt_of_lt_of_le q1 hb3.size, q2⟩
    have HS : Hid (FinS w A b1 o1 b2 o2 l w3.heap.size (joinTo l 0) (w3.alloc (.cells (cells4 0#256) 29))) := by
      unfold Hid; rw [join_zero]
      have q0 : Below w.heap.size w w3 := (HB1.out.trans (HB2.out.mono HB1.out.size)).trans (hb3.mono (Nat.le_trans HB1.out.size HB2.out.size))
      exact ⟨q0.trans (hba.mono q0.size), HR3.out.later hba, (HRP.out.later hb3).later hba, hrh.later hba, Blk.new _ _ _⟩
    have HZ4 : Hid (cells4 0#256 = #[.int .u64 0, .int .u64 0, .int .u64 0, .int .u64 0]) := z4_fin
    clear hba hrh hb3 q1 q2 hN HRP HB1 HB2 HR3 HD HR
    rw [HZ4.out] at HS
    have hneq := neq_cls
    have hgn := eqGuard_neq
    have heq := eql_cls
    have hge := eqGuard_eql
    go_upto_region 8 with (fail)
    generalize w3.alloc (.cells #[.int .u64 0, .int .u64 0, .int .u64 0, .int .u64 0] 29) = w4 at *
    generalize w3.heap.size = ba at *
    go_wp2
    go_loopw [6] (FinL w A b1 o1 b2 o2 l ba N) (fun i _ => N - (intOf i).toNat)
    case atStart => exact ⟨0, Nat.zero_le _, rfl, HS.out⟩
    case round =>
      obtain ⟨k, hk, rfl, hS⟩ := hrel
      clear HS
      have HS := Lib.hid hS
      clear hS
      by_cases hlt : k < N
      · have hltz : (k : Int) < (N : Int) := by omega
        have hkp : k < (partsL l).length := by rw [HNP.out]; exact hlt
        have hkh : k < (headsL l).length := by rw [HNH.out]; exact hlt
        have HJP := Lib.hid (join_part hkh)
        have HJS := Lib.hid (join_succ hkh)
        have HLST := Lib.hid (part_least hkh)
        have HWH : Hid (∀ a ∈ l, (partsL l).getD k 0 &&& a = (partsL l).getD k 0 ∨ (partsL l).getD k 0 &&& a = 0#256) := fun a ha => part_whole hkh ha
        have hH := (headsL_get hkh).1
        have F1 : Hid (∀ w, LRow w (some ⟨b1, o1, none⟩) (partsL l) → At w b1 (o1 + k * 4) ((partsL l).getD k 0)) := fun w h => h.at k _ hkp rfl
        have F2 : Hid (∀ w, Row8 w (some ⟨b2, o2, none⟩) (headsL l) → w.cell? ⟨b2, o2 + k, none⟩ = some (.int .u8 (((headsL l).getD k 0 : Nat) : Int))) := fun w h => h.at1 hkh rfl
        have HAP : Hid (∀ j, j < k → likeB l ((headsL l).getD k 0) ((headsL l).getD j 0) = false) := fun j hj => by
          cases hx : likeB l ((headsL l).getD k 0) ((headsL l).getD j 0) with
          | false => rfl
          | true => have := heads_apart hj hkh; rw [like_symm hx] at this; cases this
        have HRI : Hid (∀ j, j < k → (headsL l).getD j 0 < (headsL l).getD k 0) := fun j hj => heads_rise hj hkh
        generalize (partsL l).getD k 0 = P at *
        generalize (headsL l).getD k 0 = H at *
        obtain ⟨S1, hS1⟩ : ∃ S1, joinTo l (k + 1) = S1 := ⟨_, rfl⟩
        have HS1 := Lib.hid hS1
        rw [hS1] at HJS
        clear hS1
        generalize joinTo l k = S at *
        have FB : Hid (∀ w', Calls Tryd.prog 12 #[cls S, cls P] w' (Ans w' (cls 0#256))) := fun w' => by have := refboth_any S P w'; rwa [HJP.out] at this
        have FJ : Hid (∀ w', Calls Tryd.prog 13 #[cls S, cls P] w' (Ans w' (cls S1))) := fun w' => by have := refjoin_any S P w'; rwa [← HJS.out] at this
        go_upto_region 11 with (fail)
        refine wp_region_stable (S := (FinS w A b1 o1 b2 o2 l ba S)) (hSt := fun _ _ h hb => h.later hb) (plan := [[(5, none)], [(3, none)], [(6, none)], [(43, some 1), (44, some 2)], [(45, some 3)], [(42, some 0), (46, some 4)], [], [(47, some 5), (48, some 6)]]) (by kernel_rfl) (by kernel_rfl) (by kernel_rfl) ?hS ?_
        rotate_left
        iterate 8 first
          | (refine chain_skip (by rfl) (by rfl) ?_)
          | (apply chain_want (by rfl)
             · intro act wx hS hr
               simp at hr
               have g1 := F1.out _ hS.prow
               unfold At at g1
               have h2 := hS.box.cells
               go_simp
               (try go_ints)
               first
                 | exact Done.same (v := cls _)
                 | ((with_reducible refine (FB.out _).mono ?_); rintro e w' ⟨rfl, hb⟩; exact Done.mk (v := cls 0#256) hb)
                 | (rw [lit0]; exact Done.same)
                 | exact Done.same
            )
        show ∀ w', _ → _
        intro wz hz
        simp [Act.put]
        case hS => exact HS.out
        have HY := Lib.hid hz
        clear hz
        go_upto_region 13 with (fail)
        refine wp_region_stable_last (S := (FinS w A b1 o1 b2 o2 l ba S)) (hSt := fun _ _ h hb => h.later hb) (plan := [[(5, none)], [(3, none)], [(6, none)], [(51, some 1), (52, some 2)], [(53, some 3)], [(50, some 0), (54, some 4)]]) rfl (by kernel_rfl) (by kernel_rfl) (by kernel_rfl) (by kernel_rfl) ?hS ?_
        rotate_left
        simp only [List.dropLast]
        iterate 6 first
          | (refine chain_skip (by rfl) (by rfl) ?_)
          | (apply chain_want (by rfl)
             · intro act wx hS hr
               simp at hr
               have g1 := F1.out _ hS.prow
               unfold At at g1
               have h2 := hS.box.cells
               go_simp
               (try go_ints)
               first
                 | exact Done.same (v := cls _)
                 | ((with_reducible refine (FJ.out _).mono ?_); rintro e w' ⟨rfl, hb⟩; exact Done.mk (v := cls S1) hb)
                 | exact Done.same
            )
        show ∀ w', _ → _
        intro wz hz
        simp [Act.put]
        case hS => exact HY.out
        have h2 := hz.box.cells
        have h3 := hz.box.frozen
        have hset := hz.set HN.out S1
        have HX := Lib.hid hset
        clear hset hz HY
        simp only [cls]
        go_upto_region 14 with (fail)
        generalize ((((wz.setCell ⟨ba, 0, none⟩ (.int .u64 (wd S1 0))).setCell ⟨ba, 1, none⟩ (.int .u64 (wd S1 1))).setCell ⟨ba, 2, none⟩ (.int .u64 (wd S1 2))).setCell ⟨ba, 3, none⟩ (.int .u64 (wd S1 3))) = w5 at *
        clear h2 h3 HS
        have g1 := F1.out _ HX.out.prow
        unfold At at g1
        go_wp2_with fail
        refine (refleast_any P H true (.inl ⟨rfl, HLST.out⟩) _).mono ?_; rintro e w6 ⟨rfl, hb6⟩
        have HS6 := Lib.hid (HX.out.later hb6)
        clear hb6 g1 HX
        go_upto_region 15 with (fail)
        have hHH : ((H : Int) == (H : Int)) = true := beq_self_eq_true _
        rcases Nat.eq_zero_or_pos k with hk0 | hk0
        · have hk0n : ¬ ((k : Int) > 0) := by omega
          have hk0m : ¬ (0 < k) := by omega
          have hk0d : decide (0 < k) = false := decide_eq_false hk0m
          clear hk0
          refine wp_region_stable (S := (FinS w A b1 o1 b2 o2 l ba S1)) (hSt := fun _ _ h hb => h.later hb) (plan := [[(8, none)], [(64, some 0)], [(65, some 1)], [(7, none)], [(4, none)], [(6, none)], [(68, some 4), (69, some 5)], [(70, some 6)], [(67, some 3), (71, some 7)], [(66, some 2), (72, some 8)], [(73, some 9)], [(6, none)], [(75, some 11)], [(76, some 12)], [(4, none)], [(6, none)], [(79, some 15)], [(78, some 14), (80, some 16)], [(81, some 17)], [(4, none)], [(6, none)], [(83, some 19), (84, some 20)], [(85, some 21)], [(82, some 18), (86, some 22)], [(77, some 13), (87, some 23)], [(74, some 10), (88, some 24)]]) (by kernel_rfl) (by kernel_rfl) (by kernel_rfl) ?hS ?_
          rotate_left
          iterate 26 first
            | (refine chain_skip (by rfl) (by rfl) ?_)
            | (apply chain_want (by rfl)
               · intro act wx hS hr
                 simp at hr
                 have g2 := F2.out _ hS.hrow
                 go_simp
                 (try go_ints)
                 first
                   | (rw [hk0d]; exact Done.same)
                   | exact Done.same
              )
          show ∀ w', _ → _
          intro wz hz
          simp [Act.put]
          case hS => exact HS6.out
          have HS7 := Lib.hid hz
          clear hz HS6
          go_wp2
          go_loopw [9] (FinA w A b1 o1 b2 o2 l ba l.length S1) (fun i _ => l.length - (intOf i).toNat)
          case atStart => exact ⟨0, Nat.zero_le _, rfl, HS7.out⟩
          case round =>
            obtain ⟨j, hj, rfl, hS⟩ := hrel
            have HJ := Lib.hid hS
            clear hS HS7
            by_cases hjl : j < l.length
            · have hjlz : (j : Int) < (l.length : Int) := by omega
              obtain ⟨bA, oA, hA1, -⟩ := HJ.out.row.cells j hjl
              subst hA1
              have F4 : Hid (∀ w, LRow w (some ⟨bA, oA, none⟩) l → At w bA (oA + j * 4) (l.getD j 0)) := fun w h => h.at j _ hjl rfl
              have hmem : l.getD j 0 ∈ l := by simp [hjl]
              have hw := HWH.out _ hmem
              clear hmem
              generalize l.getD j 0 = a at *
              have FB2 : Hid (∀ w', Calls Tryd.prog 12 #[cls P, cls a] w' (Ans w' (cls (P &&& a)))) := fun w' => refboth_any P a w'
              obtain ⟨X, hX⟩ : ∃ X, P &&& a = X := ⟨_, rfl⟩
              rw [hX] at FB2 hw
              clear hX
              have hbl : ba + 1 ≤ wr.heap.size := HJ.out.box.lt
              have HFB : Hid (FinB wr.heap.size w (some ⟨bA, oA, none⟩) b1 o1 b2 o2 l ba S1 wr) := ⟨HJ.out, Nat.le_refl _⟩
              generalize wr.heap.size = B0 at *
              go_upto_region 20 with (fail)
              refine wp_region_stable_last (S := (FinB B0 w (some ⟨bA, oA, none⟩) b1 o1 b2 o2 l ba S1)) (hSt := fun _ _ h hb => h.later hb) (plan := [[(3, none)], [(6, none)], [(96, some 0), (97, some 1)], [(98, some 2)], [(0, none)], [(9, none)], [(100, some 4), (101, some 5)], [(102, some 6)], [(99, some 3), (103, some 7)], []]) rfl (by kernel_rfl) (by kernel_rfl) (by kernel_rfl) (by kernel_rfl) ?hS ?_
              rotate_left
              simp only [List.dropLast]
              iterate 9 first
                | (refine chain_skip (by rfl) (by rfl) ?_)
                | (apply chain_want (by rfl)
                   · intro act wx hS hr
                     simp at hr
                     have g1 := F1.out _ hS.s.prow
                     unfold At at g1
                     have g4 := F4.out _ hS.s.row
                     unfold At at g4
                     go_simp
                     (try go_ints)
                     first
                       | exact Done.same (v := cls _)
                       | ((with_reducible refine (FB2.out _).mono ?_); rintro e w' ⟨rfl, hb⟩; exact Done.mk (v := cls X) hb)
                       | exact Done.same
                  )
              (refine chain_rel (NewBx B0) (NewBx.later B0) (by rfl) ?_ ?_
               · intro act wx hS hr
                 simp at hr
                 have g1 := F1.out _ hS.s.prow
                 unfold At at g1
                 have g4 := F4.out _ hS.s.row
                 unfold At at g4
                 all_goals go_simp
                 exact Done.rel ((Below.refl _ _).alloc (Nat.le_refl _) _) ⟨_, rfl, by rw [HZ4.out]; exact Blk.new _ _ _, hS.le⟩
              )
              show ∀ w', _ → _
              intro wy hy
              simp [Act.put]
              case hS => exact HFB.out
              intro v9 hv9
              obtain ⟨bX, rfl, hbX, hle⟩ := hv9
              have h2 := hbX.cells
              have h3 := hbX.frozen
              have hb4 := below4 (B := B0) (w := wy) hle (.int .u64 (wd X 0)) (.int .u64 (wd X 1)) (.int .u64 (wd X 2)) (.int .u64 (wd X 3))
              have HX : Hid (FinX w (some ⟨bA, oA, none⟩) b1 o1 b2 o2 l ba S1 bX X ((((wy.setCell ⟨bX, 0, none⟩ (.int .u64 (wd X 0))).setCell ⟨bX, 1, none⟩ (.int .u64 (wd X 1))).setCell ⟨bX, 2, none⟩ (.int .u64 (wd X 2))).setCell ⟨bX, 3, none⟩ (.int .u64 (wd X 3)))) := ⟨hy.s.beyond HN.out (hb4.mono hbl), hbX.set4 X⟩
              clear hb4 hbX hy HFB HJ hle hbl
              simp only [cls]
              go_upto_region 21 with (fail)
              generalize ((((wy.setCell ⟨bX, 0, none⟩ (.int .u64 (wd X 0))).setCell ⟨bX, 1, none⟩ (.int .u64 (wd X 1))).setCell ⟨bX, 2, none⟩ (.int .u64 (wd X 2))).setCell ⟨bX, 3, none⟩ (.int .u64 (wd X 3))) = w21 at *
              clear h2 h3
              by_cases hXP : X = P
              · subst hXP
                have hPP : (X == X) = true := beq_self_eq_true _
                clear hw
                refine wp_region_stable (S := (FinX w (some ⟨bA, oA, none⟩) b1 o1 b2 o2 l ba S1 bX X)) (hSt := fun _ _ h hb => h.later hb) (plan := [[(10, none)], [(3, none)], [(6, none)], [(106, some 1), (107, some 2)], [(108, some 3)], [(105, some 0), (109, some 4)], [(110, some 5)], [(10, none)], [], [(112, some 7), (113, some 8)], [(111, some 6), (114, some 9)]]) (by kernel_rfl) (by kernel_rfl) (by kernel_rfl) ?hS ?_
                rotate_left
                iterate 11 first
                  | (refine chain_skip (by rfl) (by rfl) ?_)
                  | (apply chain_want (by rfl)
                     · intro act wx hS hr
                       simp at hr
                       have g1 := F1.out _ hS.s.prow
                       unfold At at g1
                       have h2 := hS.x.cells
                       go_simp
                       (try go_ints)
                       first
                         | exact Done.same (v := cls _)
                         | (rw [lit0]; exact Done.same)
                         | exact Done.same
                    )
                show ∀ w', _ → _
                intro wv hv
                simp [Act.put]
                case hS => exact HX.out
                have HV := Lib.hid hv.s
                clear hv HX
                go_wp2
                go_roundw
                case rel => exact ⟨j + 1, by omega, by go_num, HV.out⟩
                case measure => simp [intOf]; omega
              · have hX0 : X = 0#256 := by rcases hw with h | h; exact absurd h hXP; exact h
                have hPP : (X == P) = false := by rw [beq_eq_false_iff_ne]; exact hXP
                subst hX0
                clear hw hXP
                refine wp_region_stable (S := (FinX w (some ⟨bA, oA, none⟩) b1 o1 b2 o2 l ba S1 bX (0#256))) (hSt := fun _ _ h hb => h.later hb) (plan := [[(10, none)], [(3, none)], [(6, none)], [(106, some 1), (107, some 2)], [(108, some 3)], [(105, some 0), (109, some 4)], [(110, some 5)], [(10, none)], [], [(112, some 7), (113, some 8)], [(111, some 6), (114, some 9)]]) (by kernel_rfl) (by kernel_rfl) (by kernel_rfl) ?hS ?_
                rotate_left
                iterate 11 first
                  | (refine chain_skip (by rfl) (by rfl) ?_)
                  | (apply chain_want (by rfl)
                     · intro act wx hS hr
                       simp at hr
                       have g1 := F1.out _ hS.s.prow
                       unfold At at g1
                       have h2 := hS.x.cells
                       go_simp
                       (try go_ints)
                       first
                         | exact Done.same (v := cls _)
                         | (rw [lit0]; exact Done.same)
                         | exact Done.same
                    )
                show ∀ w', _ → _
                intro wv hv
                simp [Act.put]
                case hS => exact HX.out
                have HV := Lib.hid hv.s
                clear hv HX
                go_wp2
                go_roundw
                case rel => exact ⟨j + 1, by omega, by go_num, HV.out⟩
                case measure => simp [intOf]; omega
            · obtain rfl : j = l.length := by omega
              clear hjl hj
              go_wp2
              generalize wr = wB at *
              go_loopw [11] (FinA w A b1 o1 b2 o2 l ba (k) S1) (fun i _ => (k) - (intOf i).toNat)
              case atStart => exact ⟨0, Nat.zero_le _, rfl, HJ.out⟩
              case round =>
                obtain ⟨j, hj, rfl, hS⟩ := hrel
                have HQ := Lib.hid hS
                clear hS HJ
                by_cases hjl : j < k
                · have hjlz : (j : Int) < ((k : Nat) : Int) := by omega
                  have hjN : j < N := by omega
                  have hjNz : (j : Int) < (N : Int) := by omega
                  have F5 : Hid (∀ w, Row8 w (some ⟨b2, o2, none⟩) (headsL l) → w.cell? ⟨b2, o2 + j, none⟩ = some (.int .u8 (((headsL l).getD j 0 : Nat) : Int))) := fun w h => h.at1 (by rw [HNH.out]; exact hjN) rfl
                  have HAA := Lib.hid (HAP.out j hjl)
                  have hH2 := HRI.out j hjl
                  generalize (headsL l).getD j 0 = H2 at *
                  have hH2' : H2 < 256 := by omega
                  go_wp2
                  generalize wr = wC at *
                  go_loopw [12, 13] (FinC w A b1 o1 b2 o2 l ba S1 H H2) (fun _ i _ => l.length - (intOf i).toNat)
                  case atStart => exact ⟨0, Nat.zero_le _, by unfold apartB; simp, rfl, HQ.out⟩
                  case round =>
                    obtain ⟨m, hm, rfl, rfl, hS⟩ := hrel
                    have HM := Lib.hid hS
                    clear hS HQ
                    by_cases hml : m < l.length
                    · have hmlz : (m : Int) < (l.length : Int) := by omega
                      obtain ⟨bA, oA, hA1, -⟩ := HM.out.row.cells m hml
                      subst hA1
                      have F4 : Hid (∀ w, LRow w (some ⟨bA, oA, none⟩) l → At w bA (oA + m * 4) (l.getD m 0)) := fun w h => h.at m _ hml rfl
                      have HAS := Lib.hid (apart_succ (c := H) (d := H2) hml)
                      generalize l.getD m 0 = a at *
                      have FH1 : Hid (∀ w', Calls Tryd.prog 15 #[cls a, .int .u8 (H : Int)] w' (Ans w' (.bool (a.getLsbD H)))) := fun w' => refhas_any a H hH w'
                      have FH2 : Hid (∀ w', Calls Tryd.prog 15 #[cls a, .int .u8 (H2 : Int)] w' (Ans w' (.bool (a.getLsbD H2)))) := fun w' => refhas_any a H2 hH2' w'
                      generalize a.getLsbD H = x at *
                      generalize a.getLsbD H2 = y at *
                      generalize apartB l H H2 m = ap at *
                      cases ap with
                      | true =>
                        go_upto_region 30 with (fail)
                        refine wp_region_stable (S := (FinS w (some ⟨bA, oA, none⟩) b1 o1 b2 o2 l ba S1)) (hSt := fun _ _ h hb => h.later hb) (plan := [[(12, none)], [(127, some 0)], [(0, none)], [(13, none)], [(129, some 2), (130, some 3)], [(131, some 4)], [(4, none)], [(6, none)], [(133, some 6), (134, some 7)], [(135, some 8)], [(132, some 5), (136, some 9)], [(0, none)], [(13, none)], [(138, some 11), (139, some 12)], [(140, some 13)], [(4, none)], [(11, none)], [(142, some 15), (143, some 16)], [(144, some 17)], [(141, some 14), (145, some 18)], [(137, some 10), (146, some 19)], [(128, some 1), (147, some 20)], [(148, some 21)]]) (by kernel_rfl) (by kernel_rfl) (by kernel_rfl) ?hS ?_
                        rotate_left
                        iterate 23 first
                          | (refine chain_skip (by rfl) (by rfl) ?_)
                          | (apply chain_want (by rfl)
                             · intro act wx hS hr
                               simp at hr
                               have g4 := F4.out _ hS.row
                               unfold At at g4
                               have g2 := F2.out _ hS.hrow
                               have g5 := F5.out _ hS.hrow
                               go_simp
                               (try go_ints)
                               first
                                 | exact Done.same (v := cls _)
                                 | ((with_reducible refine (FH1.out _).mono ?_); rintro e w' ⟨rfl, hb⟩; exact Done.mk hb)
                                 | ((with_reducible refine (FH2.out _).mono ?_); rintro e w' ⟨rfl, hb⟩; exact Done.mk hb)
                                 | exact Done.same
                            )
                        show ∀ w', _ → _
                        intro wv hv
                        simp [Act.put]
                        case hS => exact HM.out
                        have HV := Lib.hid hv
                        clear hv HM
                        go_wp2
                        go_roundw
                        case rel => exact ⟨m + 1, by omega, by rw [HAS.out] <;> rfl, by go_num, HV.out⟩
                        case measure => simp [intOf]; omega
                      | false =>
                        go_upto_region 30 with (fail)
                        cases x with
                        | true =>
                          cases y with
                          | true =>
                            refine wp_region_stable (S := (FinS w (some ⟨bA, oA, none⟩) b1 o1 b2 o2 l ba S1)) (hSt := fun _ _ h hb => h.later hb) (plan := [[(12, none)], [(127, some 0)], [(0, none)], [(13, none)], [(129, some 2), (130, some 3)], [(131, some 4)], [(4, none)], [(6, none)], [(133, some 6), (134, some 7)], [(135, some 8)], [(132, some 5), (136, some 9)], [(0, none)], [(13, none)], [(138, some 11), (139, some 12)], [(140, some 13)], [(4, none)], [(11, none)], [(142, some 15), (143, some 16)], [(144, some 17)], [(141, some 14), (145, some 18)], [(137, some 10), (146, some 19)], [(128, some 1), (147, some 20)], [(148, some 21)]]) (by kernel_rfl) (by kernel_rfl) (by kernel_rfl) ?hS ?_
                            rotate_left
                            iterate 23 first
                              | (refine chain_skip (by rfl) (by rfl) ?_)
                              | (apply chain_want (by rfl)
                                 · intro act wx hS hr
                                   simp at hr
                                   have g4 := F4.out _ hS.row
                                   unfold At at g4
                                   have g2 := F2.out _ hS.hrow
                                   have g5 := F5.out _ hS.hrow
                                   go_simp
                                   (try go_ints)
                                   first
                                     | exact Done.same (v := cls _)
                                     | ((with_reducible refine (FH1.out _).mono ?_); rintro e w' ⟨rfl, hb⟩; exact Done.mk hb)
                                     | ((with_reducible refine (FH2.out _).mono ?_); rintro e w' ⟨rfl, hb⟩; exact Done.mk hb)
                                     | exact Done.same
                                )
                            show ∀ w', _ → _
                            intro wv hv
                            simp [Act.put]
                            case hS => exact HM.out
                            have HV := Lib.hid hv
                            clear hv HM
                            go_wp2
                            go_roundw
                            case rel => exact ⟨m + 1, by omega, by rw [HAS.out] <;> rfl, by go_num, HV.out⟩
                            case measure => simp [intOf]; omega
                          | false =>
                            refine wp_region_stable (S := (FinS w (some ⟨bA, oA, none⟩) b1 o1 b2 o2 l ba S1)) (hSt := fun _ _ h hb => h.later hb) (plan := [[(12, none)], [(127, some 0)], [(0, none)], [(13, none)], [(129, some 2), (130, some 3)], [(131, some 4)], [(4, none)], [(6, none)], [(133, some 6), (134, some 7)], [(135, some 8)], [(132, some 5), (136, some 9)], [(0, none)], [(13, none)], [(138, some 11), (139, some 12)], [(140, some 13)], [(4, none)], [(11, none)], [(142, some 15), (143, some 16)], [(144, some 17)], [(141, some 14), (145, some 18)], [(137, some 10), (146, some 19)], [(128, some 1), (147, some 20)], [(148, some 21)]]) (by kernel_rfl) (by kernel_rfl) (by kernel_rfl) ?hS ?_
                            rotate_left
                            iterate 23 first
                              | (refine chain_skip (by rfl) (by rfl) ?_)
                              | (apply chain_want (by rfl)
                                 · intro act wx hS hr
                                   simp at hr
                                   have g4 := F4.out _ hS.row
                                   unfold At at g4
                                   have g2 := F2.out _ hS.hrow
                                   have g5 := F5.out _ hS.hrow
                                   go_simp
                                   (try go_ints)
                                   first
                                     | exact Done.same (v := cls _)
                                     | ((with_reducible refine (FH1.out _).mono ?_); rintro e w' ⟨rfl, hb⟩; exact Done.mk hb)
                                     | ((with_reducible refine (FH2.out _).mono ?_); rintro e w' ⟨rfl, hb⟩; exact Done.mk hb)
                                     | exact Done.same
                                )
                            show ∀ w', _ → _
                            intro wv hv
                            simp [Act.put]
                            case hS => exact HM.out
                            have HV := Lib.hid hv
                            clear hv HM
                            go_wp2
                            go_roundw
                            case rel => exact ⟨m + 1, by omega, by rw [HAS.out] <;> rfl, by go_num, HV.out⟩
                            case measure => simp [intOf]; omega
                        | false =>
                          cases y with
                          | true =>
                            refine wp_region_stable (S := (FinS w (some ⟨bA, oA, none⟩) b1 o1 b2 o2 l ba S1)) (hSt := fun _ _ h hb => h.later hb) (plan := [[(12, none)], [(127, some 0)], [(0, none)], [(13, none)], [(129, some 2), (130, some 3)], [(131, some 4)], [(4, none)], [(6, none)], [(133, some 6), (134, some 7)], [(135, some 8)], [(132, some 5), (136, some 9)], [(0, none)], [(13, none)], [(138, some 11), (139, some 12)], [(140, some 13)], [(4, none)], [(11, none)], [(142, some 15), (143, some 16)], [(144, some 17)], [(141, some 14), (145, some 18)], [(137, some 10), (146, some 19)], [(128, some 1), (147, some 20)], [(148, some 21)]]) (by kernel_rfl) (by kernel_rfl) (by kernel_rfl) ?hS ?_
                            rotate_left
                            iterate 23 first
                              | (refine chain_skip (by rfl) (by rfl) ?_)
                              | (apply chain_want (by rfl)
                                 · intro act wx hS hr
                                   simp at hr
                                   have g4 := F4.out _ hS.row
                                   unfold At at g4
                                   have g2 := F2.out _ hS.hrow
                                   have g5 := F5.out _ hS.hrow
                                   go_simp
                                   (try go_ints)
                                   first
                                     | exact Done.same (v := cls _)
                                     | ((with_reducible refine (FH1.out _).mono ?_); rintro e w' ⟨rfl, hb⟩; exact Done.mk hb)
                                     | ((with_reducible refine (FH2.out _).mono ?_); rintro e w' ⟨rfl, hb⟩; exact Done.mk hb)
                                     | exact Done.same
                                )
                            show ∀ w', _ → _
                            intro wv hv
                            simp [Act.put]
                            case hS => exact HM.out
                            have HV := Lib.hid hv
                            clear hv HM
                            go_wp2
                            go_roundw
                            case rel => exact ⟨m + 1, by omega, by rw [HAS.out] <;> rfl, by go_num, HV.out⟩
                            case measure => simp [intOf]; omega
                          | false =>
                            refine wp_region_stable (S := (FinS w (some ⟨bA, oA, none⟩) b1 o1 b2 o2 l ba S1)) (hSt := fun _ _ h hb => h.later hb) (plan := [[(12, none)], [(127, some 0)], [(0, none)], [(13, none)], [(129, some 2), (130, some 3)], [(131, some 4)], [(4, none)], [(6, none)], [(133, some 6), (134, some 7)], [(135, some 8)], [(132, some 5), (136, some 9)], [(0, none)], [(13, none)], [(138, some 11), (139, some 12)], [(140, some 13)], [(4, none)], [(11, none)], [(142, some 15), (143, some 16)], [(144, some 17)], [(141, some 14), (145, some 18)], [(137, some 10), (146, some 19)], [(128, some 1), (147, some 20)], [(148, some 21)]]) (by kernel_rfl) (by kernel_rfl) (by kernel_rfl) ?hS ?_
                            rotate_left
                            iterate 23 first
                              | (refine chain_skip (by rfl) (by rfl) ?_)
                              | (apply chain_want (by rfl)
                                 · intro act wx hS hr
                                   simp at hr
                                   have g4 := F4.out _ hS.row
                                   unfold At at g4
                                   have g2 := F2.out _ hS.hrow
                                   have g5 := F5.out _ hS.hrow
                                   go_simp
                                   (try go_ints)
                                   first
                                     | exact Done.same (v := cls _)
                                     | ((with_reducible refine (FH1.out _).mono ?_); rintro e w' ⟨rfl, hb⟩; exact Done.mk hb)
                                     | ((with_reducible refine (FH2.out _).mono ?_); rintro e w' ⟨rfl, hb⟩; exact Done.mk hb)
                                     | exact Done.same
                                )
                            show ∀ w', _ → _
                            intro wv hv
                            simp [Act.put]
                            case hS => exact HM.out
                            have HV := Lib.hid hv
                            clear hv HM
                            go_wp2
                            go_roundw
                            case rel => exact ⟨m + 1, by omega, by rw [HAS.out] <;> rfl, by go_num, HV.out⟩
                            case measure => simp [intOf]; omega
                    · obtain rfl : m = l.length := by omega
                      have hap := apart_all HAA.out
                      rw [hap]
                      clear hap
                      go_wp2
                      go_roundw
                      case rel => exact ⟨j + 1, by omega, by go_num, HM.out⟩
                      case measure => simp [intOf]; omega
                · obtain hjk : j = k := by omega
                  have hjz : ¬ (j : Int) < ((k : Nat) : Int) := by omega
                  clear hjk
                  go_wp2
                  go_roundw
                  case rel => exact ⟨k + 1, by omega, by go_num, by rw [HS1.out]; exact HQ.out⟩
                  case measure => simp [intOf]; omega
        · obtain ⟨k1, rfl⟩ : ∃ k1, k = k1 + 1 := ⟨k - 1, by omega⟩
          have hsub : IntKind.i64.wrap ((k1 : Int) + 1 - 1) = (k1 : Int) := by rw [Int.add_sub_cancel]; exact IntWalk.i64_in _ (by omega)
          have hk1z : (k1 : Int) < (N : Int) := by omega
          have hk1y : (k1 : Int) + 1 < (N : Int) := by omega
          have F3 : Hid (∀ w, Row8 w (some ⟨b2, o2, none⟩) (headsL l) → w.cell? ⟨b2, o2 + k1, none⟩ = some (.int .u8 (((headsL l).getD k1 0 : Nat) : Int))) := fun w h => h.at1 (by omega) rfl
          have hge1 := HRI.out k1 (by omega)
          generalize (headsL l).getD k1 0 = H1 at *
          have hge2 : ¬ ((H1 : Int) ≥ (H : Int)) := by omega
          clear hk0 hge1
          refine wp_region_stable (S := (FinS w A b1 o1 b2 o2 l ba S1)) (hSt := fun _ _ h hb => h.later hb) (plan := [[(8, none)], [(64, some 0)], [(65, some 1)], [(7, none)], [(4, none)], [(6, none)], [(68, some 4), (69, some 5)], [(70, some 6)], [(67, some 3), (71, some 7)], [(66, some 2), (72, some 8)], [(73, some 9)], [(6, none)], [(75, some 11)], [(76, some 12)], [(4, none)], [(6, none)], [(79, some 15)], [(78, some 14), (80, some 16)], [(81, some 17)], [(4, none)], [(6, none)], [(83, some 19), (84, some 20)], [(85, some 21)], [(82, some 18), (86, some 22)], [(77, some 13), (87, some 23)], [(74, some 10), (88, some 24)]]) (by kernel_rfl) (by kernel_rfl) (by kernel_rfl) ?hS ?_
          rotate_left
          iterate 26 first
            | (refine chain_skip (by rfl) (by rfl) ?_)
            | (apply chain_want (by rfl)
               · intro act wx hS hr
                 simp at hr
                 have g2 := F2.out _ hS.hrow
                 have g3 := F3.out _ hS.hrow
                 go_simp
                 (try go_ints)
                 first
                   | (rw [hk0d]; exact Done.same)
                   | exact Done.same
              )
          show ∀ w', _ → _
          intro wz hz
          simp [Act.put]
          case hS => exact HS6.out
          have HS7 := Lib.hid hz
          clear hz HS6
          go_wp2
          go_loopw [9] (FinA w A b1 o1 b2 o2 l ba l.length S1) (fun i _ => l.length - (intOf i).toNat)
          case atStart => exact ⟨0, Nat.zero_le _, rfl, HS7.out⟩
          case round =>
            obtain ⟨j, hj, rfl, hS⟩ := hrel
            have HJ := Lib.hid hS
            clear hS HS7
            by_cases hjl : j < l.length
            · have hjlz : (j : Int) < (l.length : Int) := by omega
              obtain ⟨bA, oA, hA1, -⟩ := HJ.out.row.cells j hjl
              subst hA1
              have F4 : Hid (∀ w, LRow w (some ⟨bA, oA, none⟩) l → At w bA (oA + j * 4) (l.getD j 0)) := fun w h => h.at j _ hjl rfl
              have hmem : l.getD j 0 ∈ l := by simp [hjl]
              have hw := HWH.out _ hmem
              clear hmem
              generalize l.getD j 0 = a at *
              have FB2 : Hid (∀ w', Calls Tryd.prog 12 #[cls P, cls a] w' (Ans w' (cls (P &&& a)))) := fun w' => refboth_any P a w'
              obtain ⟨X, hX⟩ : ∃ X, P &&& a = X := ⟨_, rfl⟩
              rw [hX] at FB2 hw
              clear hX
              have hbl : ba + 1 ≤ wr.heap.size := HJ.out.box.lt
              have HFB : Hid (FinB wr.heap.size w (some ⟨bA, oA, none⟩) b1 o1 b2 o2 l ba S1 wr) := ⟨HJ.out, Nat.le_refl _⟩
              generalize wr.heap.size = B0 at *
              go_upto_region 20 with (fail)
              refine wp_region_stable_last (S := (FinB B0 w (some ⟨bA, oA, none⟩) b1 o1 b2 o2 l ba S1)) (hSt := fun _ _ h hb => h.later hb) (plan := [[(3, none)], [(6, none)], [(96, some 0), (97, some 1)], [(98, some 2)], [(0, none)], [(9, none)], [(100, some 4), (101, some 5)], [(102, some 6)], [(99, some 3), (103, some 7)], []]) rfl (by kernel_rfl) (by kernel_rfl) (by kernel_rfl) (by kernel_rfl) ?hS ?_
              rotate_left
              simp only [List.dropLast]
              iterate 9 first
                | (refine chain_skip (by rfl) (by rfl) ?_)
                | (apply chain_want (by rfl)
                   · intro act wx hS hr
                     simp at hr
                     have g1 := F1.out _ hS.s.prow
                     unfold At at g1
                     have g4 := F4.out _ hS.s.row
                     unfold At at g4
                     go_simp
                     (try go_ints)
                     first
                       | exact Done.same (v := cls _)
                       | ((with_reducible refine (FB2.out _).mono ?_); rintro e w' ⟨rfl, hb⟩; exact Done.mk (v := cls X) hb)
                       | exact Done.same
                  )
              (refine chain_rel (NewBx B0) (NewBx.later B0) (by rfl) ?_ ?_
               · intro act wx hS hr
                 simp at hr
                 have g1 := F1.out _ hS.s.prow
                 unfold At at g1
                 have g4 := F4.out _ hS.s.row
                 unfold At at g4
                 all_goals go_simp
                 exact Done.rel ((Below.refl _ _).alloc (Nat.le_refl _) _) ⟨_, rfl, by rw [HZ4.out]; exact Blk.new _ _ _, hS.le⟩
              )
              show ∀ w', _ → _
              intro wy hy
              simp [Act.put]
              case hS => exact HFB.out
              intro v9 hv9
              obtain ⟨bX, rfl, hbX, hle⟩ := hv9
              have h2 := hbX.cells
              have h3 := hbX.frozen
              have hb4 := below4 (B := B0) (w := wy) hle (.int .u64 (wd X 0)) (.int .u64 (wd X 1)) (.int .u64 (wd X 2)) (.int .u64 (wd X 3))
              have HX : Hid (FinX w (some ⟨bA, oA, none⟩) b1 o1 b2 o2 l ba S1 bX X ((((wy.setCell ⟨bX, 0, none⟩ (.int .u64 (wd X 0))).setCell ⟨bX, 1, none⟩ (.int .u64 (wd X 1))).setCell ⟨bX, 2, none⟩ (.int .u64 (wd X 2))).setCell ⟨bX, 3, none⟩ (.int .u64 (wd X 3)))) := ⟨hy.s.beyond HN.out (hb4.mono hbl), hbX.set4 X⟩
              clear hb4 hbX hy HFB HJ hle hbl
              simp only [cls]
              go_upto_region 21 with (fail)
              generalize ((((wy.setCell ⟨bX, 0, none⟩ (.int .u64 (wd X 0))).setCell ⟨bX, 1, none⟩ (.int .u64 (wd X 1))).setCell ⟨bX, 2, none⟩ (.int .u64 (wd X 2))).setCell ⟨bX, 3, none⟩ (.int .u64 (wd X 3))) = w21 at *
              clear h2 h3
              by_cases hXP : X = P
              · subst hXP
                have hPP : (X == X) = true := beq_self_eq_true _
                clear hw
                refine wp_region_stable (S := (FinX w (some ⟨bA, oA, none⟩) b1 o1 b2 o2 l ba S1 bX X)) (hSt := fun _ _ h hb => h.later hb) (plan := [[(10, none)], [(3, none)], [(6, none)], [(106, some 1), (107, some 2)], [(108, some 3)], [(105, some 0), (109, some 4)], [(110, some 5)], [(10, none)], [], [(112, some 7), (113, some 8)], [(111, some 6), (114, some 9)]]) (by kernel_rfl) (by kernel_rfl) (by kernel_rfl) ?hS ?_
                rotate_left
                iterate 11 first
                  | (refine chain_skip (by rfl) (by rfl) ?_)
                  | (apply chain_want (by rfl)
                     · intro act wx hS hr
                       simp at hr
                       have g1 := F1.out _ hS.s.prow
                       unfold At at g1
                       have h2 := hS.x.cells
                       go_simp
                       (try go_ints)
                       first
                         | exact Done.same (v := cls _)
                         | (rw [lit0]; exact Done.same)
                         | exact Done.same
                    )
                show ∀ w', _ → _
                intro wv hv
                simp [Act.put]
                case hS => exact HX.out
                have HV := Lib.hid hv.s
                clear hv HX
                go_wp2
                go_roundw
                case rel => exact ⟨j + 1, by omega, by go_num, HV.out⟩
                case measure => simp [intOf]; omega
              · have hX0 : X = 0#256 := by rcases hw with h | h; exact absurd h hXP; exact h
                have hPP : (X == P) = false := by rw [beq_eq_false_iff_ne]; exact hXP
                subst hX0
                clear hw hXP
                refine wp_region_stable (S := (FinX w (some ⟨bA, oA, none⟩) b1 o1 b2 o2 l ba S1 bX (0#256))) (hSt := fun _ _ h hb => h.later hb) (plan := [[(10, none)], [(3, none)], [(6, none)], [(106, some 1), (107, some 2)], [(108, some 3)], [(105, some 0), (109, some 4)], [(110, some 5)], [(10, none)], [], [(112, some 7), (113, some 8)], [(111, some 6), (114, some 9)]]) (by kernel_rfl) (by kernel_rfl) (by kernel_rfl) ?hS ?_
                rotate_left
                iterate 11 first
                  | (refine chain_skip (by rfl) (by rfl) ?_)
                  | (apply chain_want (by rfl)
                     · intro act wx hS hr
                       simp at hr
                       have g1 := F1.out _ hS.s.prow
                       unfold At at g1
                       have h2 := hS.x.cells
                       go_simp
                       (try go_ints)
                       first
                         | exact Done.same (v := cls _)
                         | (rw [lit0]; exact Done.same)
                         | exact Done.same
                    )
                show ∀ w', _ → _
                intro wv hv
                simp [Act.put]
                case hS => exact HX.out
                have HV := Lib.hid hv.s
                clear hv HX
                go_wp2
                go_roundw
                case rel => exact ⟨j + 1, by omega, by go_num, HV.out⟩
                case measure => simp [intOf]; omega
            · obtain rfl : j = l.length := by omega
              clear hjl hj
              go_wp2
              generalize wr = wB at *
              go_loopw [11] (FinA w A b1 o1 b2 o2 l ba ((k1 + 1)) S1) (fun i _ => ((k1 + 1)) - (intOf i).toNat)
              case atStart => exact ⟨0, Nat.zero_le _, rfl, HJ.out⟩
              case round =>
                obtain ⟨j, hj, rfl, hS⟩ := hrel
                have HQ := Lib.hid hS
                clear hS HJ
                by_cases hjl : j < (k1 + 1)
                · have hjlz : (j : Int) < (((k1 + 1) : Nat) : Int) := by omega
                  have hjN : j < N := by omega
                  have hjNz : (j : Int) < (N : Int) := by omega
                  have F5 : Hid (∀ w, Row8 w (some ⟨b2, o2, none⟩) (headsL l) → w.cell? ⟨b2, o2 + j, none⟩ = some (.int .u8 (((headsL l).getD j 0 : Nat) : Int))) := fun w h => h.at1 (by rw [HNH.out]; exact hjN) rfl
                  have HAA := Lib.hid (HAP.out j hjl)
                  have hH2 := HRI.out j hjl
                  generalize (headsL l).getD j 0 = H2 at *
                  have hH2' : H2 < 256 := by omega
                  go_wp2
                  generalize wr = wC at *
                  go_loopw [12, 13] (FinC w A b1 o1 b2 o2 l ba S1 H H2) (fun _ i _ => l.length - (intOf i).toNat)
                  case atStart => exact ⟨0, Nat.zero_le _, by unfold apartB; simp, rfl, HQ.out⟩
                  case round =>
                    obtain ⟨m, hm, rfl, rfl, hS⟩ := hrel
                    have HM := Lib.hid hS
                    clear hS HQ
                    by_cases hml : m < l.length
                    · have hmlz : (m : Int) < (l.length : Int) := by omega
                      obtain ⟨bA, oA, hA1, -⟩ := HM.out.row.cells m hml
                      subst hA1
                      have F4 : Hid (∀ w, LRow w (some ⟨bA, oA, none⟩) l → At w bA (oA + m * 4) (l.getD m 0)) := fun w h => h.at m _ hml rfl
                      have HAS := Lib.hid (apart_succ (c := H) (d := H2) hml)
                      generalize l.getD m 0 = a at *
                      have FH1 : Hid (∀ w', Calls Tryd.prog 15 #[cls a, .int .u8 (H : Int)] w' (Ans w' (.bool (a.getLsbD H)))) := fun w' => refhas_any a H hH w'
                      have FH2 : Hid (∀ w', Calls Tryd.prog 15 #[cls a, .int .u8 (H2 : Int)] w' (Ans w' (.bool (a.getLsbD H2)))) := fun w' => refhas_any a H2 hH2' w'
                      generalize a.getLsbD H = x at *
                      generalize a.getLsbD H2 = y at *
                      generalize apartB l H H2 m = ap at *
                      cases ap with
                      | true =>
                        go_upto_region 30 with (fail)
                        refine wp_region_stable (S := (FinS w (some ⟨bA, oA, none⟩) b1 o1 b2 o2 l ba S1)) (hSt := fun _ _ h hb => h.later hb) (plan := [[(12, none)], [(127, some 0)], [(0, none)], [(13, none)], [(129, some 2), (130, some 3)], [(131, some 4)], [(4, none)], [(6, none)], [(133, some 6), (134, some 7)], [(135, some 8)], [(132, some 5), (136, some 9)], [(0, none)], [(13, none)], [(138, some 11), (139, some 12)], [(140, some 13)], [(4, none)], [(11, none)], [(142, some 15), (143, some 16)], [(144, some 17)], [(141, some 14), (145, some 18)], [(137, some 10), (146, some 19)], [(128, some 1), (147, some 20)], [(148, some 21)]]) (by kernel_rfl) (by kernel_rfl) (by kernel_rfl) ?hS ?_
                        rotate_left
                        iterate 23 first
                          | (refine chain_skip (by rfl) (by rfl) ?_)
                          | (apply chain_want (by rfl)
                             · intro act wx hS hr
                               simp at hr
                               have g4 := F4.out _ hS.row
                               unfold At at g4
                               have g2 := F2.out _ hS.hrow
                               have g5 := F5.out _ hS.hrow
                               go_simp
                               (try go_ints)
                               first
                                 | exact Done.same (v := cls _)
                                 | ((with_reducible refine (FH1.out _).mono ?_); rintro e w' ⟨rfl, hb⟩; exact Done.mk hb)
                                 | ((with_reducible refine (FH2.out _).mono ?_); rintro e w' ⟨rfl, hb⟩; exact Done.mk hb)
                                 | exact Done.same
                            )
                        show ∀ w', _ → _
                        intro wv hv
                        simp [Act.put]
                        case hS => exact HM.out
                        have HV := Lib.hid hv
                        clear hv HM
                        go_wp2
                        go_roundw
                        case rel => exact ⟨m + 1, by omega, by rw [HAS.out] <;> rfl, by go_num, HV.out⟩
                        case measure => simp [intOf]; omega
                      | false =>
                        go_upto_region 30 with (fail)
                        cases x with
                        | true =>
                          cases y with
                          | true =>
                            refine wp_region_stable (S := (FinS w (some ⟨bA, oA, none⟩) b1 o1 b2 o2 l ba S1)) (hSt := fun _ _ h hb => h.later hb) (plan := [[(12, none)], [(127, some 0)], [(0, none)], [(13, none)], [(129, some 2), (130, some 3)], [(131, some 4)], [(4, none)], [(6, none)], [(133, some 6), (134, some 7)], [(135, some 8)], [(132, some 5), (136, some 9)], [(0, none)], [(13, none)], [(138, some 11), (139, some 12)], [(140, some 13)], [(4, none)], [(11, none)], [(142, some 15), (143, some 16)], [(144, some 17)], [(141, some 14), (145, some 18)], [(137, some 10), (146, some 19)], [(128, some 1), (147, some 20)], [(148, some 21)]]) (by kernel_rfl) (by kernel_rfl) (by kernel_rfl) ?hS ?_
                            rotate_left
                            iterate 23 first
                              | (refine chain_skip (by rfl) (by rfl) ?_)
                              | (apply chain_want (by rfl)
                                 · intro act wx hS hr
                                   simp at hr
                                   have g4 := F4.out _ hS.row
                                   unfold At at g4
                                   have g2 := F2.out _ hS.hrow
                                   have g5 := F5.out _ hS.hrow
                                   go_simp
                                   (try go_ints)
                                   first
                                     | exact Done.same (v := cls _)
                                     | ((with_reducible refine (FH1.out _).mono ?_); rintro e w' ⟨rfl, hb⟩; exact Done.mk hb)
                                     | ((with_reducible refine (FH2.out _).mono ?_); rintro e w' ⟨rfl, hb⟩; exact Done.mk hb)
                                     | exact Done.same
                                )
                            show ∀ w', _ → _
                            intro wv hv
                            simp [Act.put]
                            case hS => exact HM.out
                            have HV := Lib.hid hv
                            clear hv HM
                            go_wp2
                            go_roundw
                            case rel => exact ⟨m + 1, by omega, by rw [HAS.out] <;> rfl, by go_num, HV.out⟩
                            case measure => simp [intOf]; omega
                          | false =>
                            refine wp_region_stable (S := (FinS w (some ⟨bA, oA, none⟩) b1 o1 b2 o2 l ba S1)) (hSt := fun _ _ h hb => h.later hb) (plan := [[(12, none)], [(127, some 0)], [(0, none)], [(13, none)], [(129, some 2), (130, some 3)], [(131, some 4)], [(4, none)], [(6, none)], [(133, some 6), (134, some 7)], [(135, some 8)], [(132, some 5), (136, some 9)], [(0, none)], [(13, none)], [(138, some 11), (139, some 12)], [(140, some 13)], [(4, none)], [(11, none)], [(142, some 15), (143, some 16)], [(144, some 17)], [(141, some 14), (145, some 18)], [(137, some 10), (146, some 19)], [(128, some 1), (147, some 20)], [(148, some 21)]]) (by kernel_rfl) (by kernel_rfl) (by kernel_rfl) ?hS ?_
                            rotate_left
                            iterate 23 first
                              | (refine chain_skip (by rfl) (by rfl) ?_)
                              | (apply chain_want (by rfl)
                                 · intro act wx hS hr
                                   simp at hr
                                   have g4 := F4.out _ hS.row
                                   unfold At at g4
                                   have g2 := F2.out _ hS.hrow
                                   have g5 := F5.out _ hS.hrow
                                   go_simp
                                   (try go_ints)
                                   first
                                     | exact Done.same (v := cls _)
                                     | ((with_reducible refine (FH1.out _).mono ?_); rintro e w' ⟨rfl, hb⟩; exact Done.mk hb)
                                     | ((with_reducible refine (FH2.out _).mono ?_); rintro e w' ⟨rfl, hb⟩; exact Done.mk hb)
                                     | exact Done.same
                                )
                            show ∀ w', _ → _
                            intro wv hv
                            simp [Act.put]
                            case hS => exact HM.out
                            have HV := Lib.hid hv
                            clear hv HM
                            go_wp2
                            go_roundw
                            case rel => exact ⟨m + 1, by omega, by rw [HAS.out] <;> rfl, by go_num, HV.out⟩
                            case measure => simp [intOf]; omega
                        | false =>
                          cases y with
                          | true =>
                            refine wp_region_stable (S := (FinS w (some ⟨bA, oA, none⟩) b1 o1 b2 o2 l ba S1)) (hSt := fun _ _ h hb => h.later hb) (plan := [[(12, none)], [(127, some 0)], [(0, none)], [(13, none)], [(129, some 2), (130, some 3)], [(131, some 4)], [(4, none)], [(6, none)], [(133, some 6), (134, some 7)], [(135, some 8)], [(132, some 5), (136, some 9)], [(0, none)], [(13, none)], [(138, some 11), (139, some 12)], [(140, some 13)], [(4, none)], [(11, none)], [(142, some 15), (143, some 16)], [(144, some 17)], [(141, some 14), (145, some 18)], [(137, some 10), (146, some 19)], [(128, some 1), (147, some 20)], [(148, some 21)]]) (by kernel_rfl) (by kernel_rfl) (by kernel_rfl) ?hS ?_
                            rotate_left
                            iterate 23 first
                              | (refine chain_skip (by rfl) (by rfl) ?_)
                              | (apply chain_want (by rfl)
                                 · intro act wx hS hr
                                   simp at hr
                                   have g4 := F4.out _ hS.row
                                   unfold At at g4
                                   have g2 := F2.out _ hS.hrow
                                   have g5 := F5.out _ hS.hrow
                                   go_simp
                                   (try go_ints)
                                   first
                                     | exact Done.same (v := cls _)
                                     | ((with_reducible refine (FH1.out _).mono ?_); rintro e w' ⟨rfl, hb⟩; exact Done.mk hb)
                                     | ((with_reducible refine (FH2.out _).mono ?_); rintro e w' ⟨rfl, hb⟩; exact Done.mk hb)
                                     | exact Done.same
                                )
                            show ∀ w', _ → _
                            intro wv hv
                            simp [Act.put]
                            case hS => exact HM.out
                            have HV := Lib.hid hv
                            clear hv HM
                            go_wp2
                            go_roundw
                            case rel => exact ⟨m + 1, by omega, by rw [HAS.out] <;> rfl, by go_num, HV.out⟩
                            case measure => simp [intOf]; omega
                          | false =>
                            refine wp_region_stable (S := (FinS w (some ⟨bA, oA, none⟩) b1 o1 b2 o2 l ba S1)) (hSt := fun _ _ h hb => h.later hb) (plan := [[(12, none)], [(127, some 0)], [(0, none)], [(13, none)], [(129, some 2), (130, some 3)], [(131, some 4)], [(4, none)], [(6, none)], [(133, some 6), (134, some 7)], [(135, some 8)], [(132, some 5), (136, some 9)], [(0, none)], [(13, none)], [(138, some 11), (139, some 12)], [(140, some 13)], [(4, none)], [(11, none)], [(142, some 15), (143, some 16)], [(144, some 17)], [(141, some 14), (145, some 18)], [(137, some 10), (146, some 19)], [(128, some 1), (147, some 20)], [(148, some 21)]]) (by kernel_rfl) (by kernel_rfl) (by kernel_rfl) ?hS ?_
                            rotate_left
                            iterate 23 first
                              | (refine chain_skip (by rfl) (by rfl) ?_)
                              | (apply chain_want (by rfl)
                                 · intro act wx hS hr
                                   simp at hr
                                   have g4 := F4.out _ hS.row
                                   unfold At at g4
                                   have g2 := F2.out _ hS.hrow
                                   have g5 := F5.out _ hS.hrow
                                   go_simp
                                   (try go_ints)
                                   first
                                     | exact Done.same (v := cls _)
                                     | ((with_reducible refine (FH1.out _).mono ?_); rintro e w' ⟨rfl, hb⟩; exact Done.mk hb)
                                     | ((with_reducible refine (FH2.out _).mono ?_); rintro e w' ⟨rfl, hb⟩; exact Done.mk hb)
                                     | exact Done.same
                                )
                            show ∀ w', _ → _
                            intro wv hv
                            simp [Act.put]
                            case hS => exact HM.out
                            have HV := Lib.hid hv
                            clear hv HM
                            go_wp2
                            go_roundw
                            case rel => exact ⟨m + 1, by omega, by rw [HAS.out] <;> rfl, by go_num, HV.out⟩
                            case measure => simp [intOf]; omega
                    · obtain rfl : m = l.length := by omega
                      have hap := apart_all HAA.out
                      rw [hap]
                      clear hap
                      go_wp2
                      go_roundw
                      case rel => exact ⟨j + 1, by omega, by go_num, HM.out⟩
                      case measure => simp [intOf]; omega
                · obtain hjk : j = (k1 + 1) := by omega
                  have hjz : ¬ (j : Int) < (((k1 + 1) : Nat) : Int) := by omega
                  clear hjk
                  go_wp2
                  go_roundw
                  case rel => exact ⟨(k1 + 1) + 1, by omega, by go_num, by rw [HS1.out]; exact HQ.out⟩
                  case measure => simp [intOf]; omega
      · have hS := HS.out
        obtain rfl : k = N := by omega
        have HJA : Hid (joinTo l k = rowB 0 255) := by unfold Hid; rw [← HNH.out]; exact join_all l
        clear hS
        generalize joinTo l k = S at *
        go_upto_region 33 with (fail)
        have FR : Hid (∀ w', Calls Tryd.prog 16 #[.int .u8 0, .int .u8 255] w' (Ans w' (cls S))) := fun w' => by have := refrow_any 0 255 (by omega) (by omega) w'; rwa [← HJA.out] at this
        refine wp_region_stable (S := (FinS w A b1 o1 b2 o2 l ba S)) (hSt := fun _ _ h hb => h.later hb) (plan := [[(5, none)], [], [(151, some 0), (152, some 1)], [(153, some 2)]]) (by kernel_rfl) (by kernel_rfl) (by kernel_rfl) ?hS ?_
        rotate_left
        iterate 4 first
          | (refine chain_skip (by rfl) (by rfl) ?_)
          | (apply chain_want (by rfl)
             · intro act wx hS hr
               simp at hr
               have h2 := hS.box.cells
               go_simp
               (try go_ints)
               first
                 | exact Done.same (v := cls _)
                 | ((with_reducible refine (FR.out _).mono ?_); rintro e w' ⟨rfl, hb⟩; exact Done.mk (v := cls S) hb)
                 | exact Done.same
            )
        show ∀ w', _ → _
        intro wz hz
        simp [Act.put]
        case hS => exact HS.out
        have HF := Lib.hid hz.below
        clear hz HS
        go_wp2
        go_ret
        exact ⟨by first | rfl | simp, HF.out⟩
end Go.Proofs.YtgehepiphdphjaaDoor
