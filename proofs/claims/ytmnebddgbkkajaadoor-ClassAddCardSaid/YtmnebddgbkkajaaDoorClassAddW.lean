/- The statement ClassAdd of layer 1, walked: bytes added in whatever order, one by one or all at once. -/
import Derived.Test.YtmnebddgbkkajaaDoorClassRowsW
namespace Go.Proofs.YtmnebddgbkkajaaDoor
open Go Go.RowKit
set_option linter.unusedVariables false

theorem row_self (c : Nat) (hc : c < 256) : rowB c c = one c := by
  refine BitVec.eq_of_getLsbD_eq fun n hn => ?_
  rw [one_bit _ _ hn, rowB_bit _ _ _ hn]
  congr 1; rw [eq_iff_iff]; omega
theorem addL_reverse (a : BitVec 256) (l : List Nat) : addL a l.reverse = addL a l := by
  refine BitVec.eq_of_getLsbD_eq fun n hn => ?_
  rw [addL_bit _ _ _ hn, addL_bit _ _ _ hn]; simp
def inB (a : BitVec 256) (l : List Nat) (c : Nat) : Bool := a.getLsbD c || decide (c ∈ l)
theorem cntS_addL (a : BitVec 256) (l : List Nat) : cntS (addL a l) = cnt (inB a l) 256 := by
  unfold cntS
  exact cnt_congr fun i hi => addL_bit _ _ _ hi
theorem inB_succ (a : BitVec 256) (l : List Nat) (c j : Nat) (h : j < l.length) : inB a (l.take (j + 1)) c = (inB a (l.take j) c || decide (l.getD j 0 = c)) := by
  have hg : l.getD j 0 = l[j] := by simp [h]
  unfold inB
  rw [List.take_succ_eq_append_getElem h, hg, Bool.or_assoc]
  congr 1
  rw [← Bool.decide_or]
  congr 1; rw [eq_iff_iff]
  simp only [List.mem_append, List.mem_singleton]
  exact ⟨fun h => h.imp id Eq.symm, fun h => h.imp id Eq.symm⟩
theorem drop_rev (a : BitVec 256) (l : List Nat) (j : Nat) (h : j < l.length) : addL a (l.drop j).reverse = addL a (l.drop (j + 1)).reverse ||| one (l.getD j 0) := by
  have hg : l.getD j 0 = l[j] := by simp [h]
  rw [List.drop_eq_getElem_cons h, List.reverse_cons, addL_append, hg]; rfl

structure AddS (w0 : World) (A : Option Addr) (l : List Nat) (a : BitVec 256) (b5 b6 b7 : Nat) (x y z : BitVec 256) (w : World) : Prop where
  below : Below w0.heap.size w0 w
  deb : Deb w
  row : Row8 w A l
  blk : Blk w w0.heap.size (cells4 a) 24
  blk5 : Blk w b5 (cells4 x) 24
  blk6 : Blk w b6 (cells4 y) 24
  blk7 : Blk w b7 (cells4 z) 24
theorem AddS.later {w0 w w' : World} {A : Option Addr} {l : List Nat} {a x y z : BitVec 256} {b5 b6 b7 : Nat} (h : AddS w0 A l a b5 b6 b7 x y z w) (hb : Below w.heap.size w w') : AddS w0 A l a b5 b6 b7 x y z w' :=
  ⟨h.below.trans (hb.mono h.below.size), h.deb.below hb, h.row.later hb, h.blk.later hb, h.blk5.later hb, h.blk6.later hb, h.blk7.later hb⟩

def set4w (w : World) (b : Nat) (t : BitVec 256) : World :=
  (((w.setCell ⟨b, 0, none⟩ (.int .u64 (wd t 0))).setCell ⟨b, 1, none⟩ (.int .u64 (wd t 1))).setCell ⟨b, 2, none⟩ (.int .u64 (wd t 2))).setCell ⟨b, 3, none⟩ (.int .u64 (wd t 3))
theorem below_set4 (w : World) (b B : Nat) (t : BitVec 256) (hB : B ≤ b) : Below B w (set4w w b t) :=
  ((((Below.refl B w).setCell (p := ⟨b, 0, none⟩) hB _).setCell (p := ⟨b, 1, none⟩) hB _).setCell (p := ⟨b, 2, none⟩) hB _).setCell (p := ⟨b, 3, none⟩) hB _
theorem Blk.set4_ne {w : World} {b c : Nat} {vs : Array Value} {ty : TypeId} (h : Blk w c vs ty) (hne : b ≠ c) (t : BitVec 256) : Blk (set4w w b t) c vs ty :=
  (((h.setCell_ne (a := ⟨b, 0, none⟩) hne _).setCell_ne (a := ⟨b, 1, none⟩) hne _).setCell_ne (a := ⟨b, 2, none⟩) hne _).setCell_ne (a := ⟨b, 3, none⟩) hne _
theorem Row8.below {w w' : World} {A : Option Addr} {l : List Nat} {B : Nat} (h0 : Row8 w A l) (hb : Below B w w') (hlt : ∀ b off, A = some ⟨b, off, none⟩ → l ≠ [] → b < B) : Row8 w' A l :=
  ⟨h0.1, h0.2.1, fun i hi => by
    obtain ⟨b, off, ha, h1, hc⟩ := h0.2.2 i hi
    have := hlt b off ha (by rintro rfl; simp at hi)
    exact ⟨b, off, ha, Nat.lt_of_lt_of_le h1 hb.size, (hb.cell (p := ⟨b, off + i, none⟩) this).trans hc⟩⟩
theorem Deb.below' {w w' : World} {B : Nat} (h : Deb w) (hb : Below B w w') (hg : 0 < B) : Deb w' :=
  ⟨Nat.lt_of_lt_of_le h.1 hb.size, fun i hi => (hb.cell (p := ⟨_, i, none⟩) hg).trans (h.2 i hi)⟩
section
variable {w0 w : World} {A : Option Addr} {l : List Nat} {a x y z : BitVec 256} {b5 b6 b7 : Nat}
theorem AddS.set6 (h : AddS w0 A l a b5 b6 b7 x y z w) (n5 : b6 ≠ b5) (n7 : b6 ≠ b7) (hw : w0.heap.size < b6) (hA : ∀ b off, A = some ⟨b, off, none⟩ → l ≠ [] → b < w0.heap.size) (hg : 0 < w0.heap.size) (y' : BitVec 256) :
    AddS w0 A l a b5 b6 b7 x y' z (set4w w b6 y') := by
  have hb : ∀ B, B ≤ b6 → Below B w (set4w w b6 y') := fun B hB => below_set4 w b6 B y' hB
  exact ⟨h.below.trans (hb _ (by omega)), h.deb.below' (hb _ (Nat.le_refl _)) (by omega), h.row.below (hb b6 (Nat.le_refl _)) (fun b off e hl => by have := hA b off e hl; omega), h.blk.below (hb _ (Nat.le_refl _)) hw, h.blk5.set4_ne n5 _, h.blk6.set4 y', h.blk7.set4_ne n7 _⟩
theorem AddS.set7 (h : AddS w0 A l a b5 b6 b7 x y z w) (n5 : b7 ≠ b5) (n6 : b7 ≠ b6) (hw : w0.heap.size < b7) (hA : ∀ b off, A = some ⟨b, off, none⟩ → l ≠ [] → b < w0.heap.size) (hg : 0 < w0.heap.size) (z' : BitVec 256) :
    AddS w0 A l a b5 b6 b7 x y z' (set4w w b7 z') := by
  have hb : ∀ B, B ≤ b7 → Below B w (set4w w b7 z') := fun B hB => below_set4 w b7 B z' hB
  exact ⟨h.below.trans (hb _ (by omega)), h.deb.below' (hb _ (Nat.le_refl _)) (by omega), h.row.below (hb b7 (Nat.le_refl _)) (fun b off e hl => by have := hA b off e hl; omega), h.blk.below (hb _ (Nat.le_refl _)) hw, h.blk5.set4_ne n5 _, h.blk6.set4_ne n6 _, h.blk7.set4 z'⟩
end

set_option maxRecDepth 100000 in
set_option maxHeartbeats 8000000 in
theorem addw_walk (a : BitVec 256) (l : List Nat) (A : Option Addr) (C : Nat) (w : World) (hd : Deb w) (hr : Row8 w A l) (hsm : l.length ≤ 9223372036854775807) :
    Calls Tryd.prog 7 #[cls a, .slice A l.length C] w (Ans w (.bool true)) := by
  have HD := Lib.hid hd
  have HR := Lib.hid hr
  have HG := Lib.hid hd.1
  clear hd hr
  unfold cls
  go_enter Tryd.func7, Tryd.ntmps7
  go_wp2_with fail
  refine (awake_any _ (HD.out.alloc _)).mono ?_; rintro e w1 ⟨rfl, hb⟩
  have q1 : Below w.heap.size w w1 := ((Below.refl _ _).alloc (Nat.le_refl _) _).trans (hb.mono (by simp))
  have d1 : Deb w1 := (HD.out.alloc _).below hb
  have c1 := (Blk.new w (cells4 a) 24).later hb
  by_cases h300 : (300 : Int) < l.length
  · go_wp2_with fail
    refine (awake_any _ d1).mono ?_; rintro e w2 ⟨rfl, hb2⟩
    go_wp2
    go_ret
    exact ⟨rfl, q1.trans (hb2.mono q1.size)⟩
  · have g1 := c1.cells
    have n1 := c1.lt
    go_wp2_with fail
    refine (add_any a l A C _ (HR.out.later q1)).mono ?_; rintro e w2 ⟨rfl, hb2⟩
    have q2 : Below w.heap.size w w2 := q1.trans (hb2.mono q1.size)
    have c2 := c1.later hb2
    have g2 := c2.cells
    have n2 := c2.lt
    have r2 : Row8 w2 A l := HR.out.later q2
    have hrlt : ∀ b off, A = some ⟨b, off, none⟩ → l ≠ [] → b < w.heap.size := fun b off ha hl => by
      obtain ⟨b', off', ha', h1, _⟩ := HR.out.2.2 0 (by cases l; exact absurd rfl hl; simp)
      rw [ha] at ha'; cases ha'; exact h1
    have HRL := Lib.hid hrlt
    have hS : AddS w A l a w2.heap.size (w2.heap.size + 1) (w2.heap.size + 1 + 1) (addL a l) a a (((w2.alloc (.cells (cells4 (addL a l)) 24)).alloc (.cells (cells4 a) 24)).alloc (.cells (cells4 a) 24)) := by
      refine ⟨((q2.alloc q2.size _).alloc (by have := q2.size; simp; omega) _).alloc (by have := q2.size; simp; omega) _, (((d1.below hb2).alloc _).alloc _).alloc _, ?_, ((c2.alloc _).alloc _).alloc _, ((Blk.new _ _ _).alloc _).alloc _, (Blk.new' (by simp) _ _).alloc _, Blk.new' (by simp) _ _⟩
      exact r2.later ((((Below.refl _ _).alloc (Nat.le_refl _) _).alloc (by simp) _).alloc (by simp; omega) _)
    have HS := Lib.hid hS
    clear hS g1 n1 q1 d1 c1 c2 hb hb2 hrlt
    unfold cls
    go_wp2_with fail
    have hle : (l.length : Int) ≤ 300 := by omega
    have HN2 := Lib.hid n2
    clear n2 g2 q2 r2
    generalize w2.heap.size = B5 at *
    go_loopw [8] (fun i wr => ∃ r : Nat, r ≤ l.length ∧ i = .int .i64 ((r : Int) - 1) ∧ AddS w A l a B5 (B5 + 1) (B5 + 1 + 1) (addL a l) (addL a (l.drop r).reverse) (addL a (l.drop r).reverse) wr) (fun i _ => (intOf i + 1).toNat)
    case atStart =>
      refine ⟨l.length, Nat.le_refl _, rfl, ?_⟩
      rw [List.drop_length]; exact HS.out
    case round =>
      obtain ⟨r, hr, rfl, hSr⟩ := hrel
      have HSr := Lib.hid hSr
      clear hSr HS
      rcases r with _ | j
      · have ht : ((0 : Int) ≤ ((0 : Nat) : Int) - 1) = False := by simp
        have HSz : Hid (AddS w A l a B5 (B5 + 1) (B5 + 1 + 1) (addL a l) (addL a l) (addL a l) wr) := by
          have := HSr.out
          rw [List.drop_zero, addL_reverse] at this; exact this
        clear HSr ht
        go_wp2_with fail
        have hc256 : ∀ i, i < l.length → l.getD i 0 < 256 := fun i hi => by
          have hg : l.getD i 0 = l[i] := by simp [hi]
          rw [hg]; exact HSz.out.row.1 _ (List.getElem_mem hi)
        have HC256 := Lib.hid hc256
        clear hc256
        go_loopw [9, 10] (fun n c wr2 => ∃ k : Nat, k ≤ 256 ∧ c = .int .i64 k ∧ n = .int .i64 (cnt (inB a l) k) ∧ AddS w A l a B5 (B5 + 1) (B5 + 1 + 1) (addL a l) (addL a l) (addL a l) wr2) (fun _ c _ => 256 - (intOf c).toNat)
        case atStart => exact ⟨0, by omega, rfl, rfl, HSz.out⟩
        case round =>
          rename_i wr2
          obtain ⟨k, hk, rfl, rfl, hS2⟩ := hrel
          have HS2 := Lib.hid hS2
          clear hS2 HSz
          have hcn : cnt (inB a l) k ≤ 256 := Nat.le_trans (cnt_le _ _) hk
          by_cases hk2 : k < 256
          · have HCN : Hid (cnt (inB a l) (k + 1) = cnt (inB a l) k + if inB a l k then 1 else 0) := rfl
            generalize cnt (inB a l) k = n0 at *
            have k0 : (0 : Int) ≤ (k : Int) := by omega
            have k1 : (k : Int) ≤ 255 := by omega
            have g1 := HS2.out.blk.cells
            go_wp2_with fail
            refine (has_any a k hk2 _).mono ?_; rintro e w3 ⟨rfl, hb3⟩
            have hS3 := HS2.out.later hb3
            have HS3 := Lib.hid hS3
            clear g1 hS3 hb3
            go_wp2_with fail
            go_loop [11, 12] (fun x i => ∃ j : Nat, j ≤ l.length ∧ i = .int .i64 j ∧ x = .bool (inB a (l.take j) k)) (fun _ i => l.length - (intOf i).toNat)
            case atStart => exact ⟨0, Nat.zero_le _, rfl, by unfold inB; simp only [List.take_zero, List.not_mem_nil, decide_false, Bool.or_false]; rw [BitVec.getLsbD_eq_getElem hk2]⟩
            case round =>
              obtain ⟨j, hj, rfl, rfl⟩ := hrel
              by_cases hjl : j < l.length
              · have HIB := Lib.hid (inB_succ a l k j hjl)
                obtain ⟨b, off, hA, hb, hc⟩ := HS3.out.row.2.2 j hjl
                have hc256 := HC256.out j hjl
                generalize inB a (l.take j) k = x at *
                generalize l.getD j 0 = c at *
                have c0 : (0 : Int) ≤ (c : Int) := by omega
                have c1 : (c : Int) ≤ 255 := by omega
                have hj0 : (0 : Int) ≤ (j : Int) := by omega
                have hj1 : (j : Int) < (l.length : Int) := by omega
                subst hA
                rcases x with _ | _
                · by_cases hck : c = k
                  · subst hck
                    go_wp2
                    go_round
                    case rel => exact ⟨j + 1, by omega, by go_num, by rw [HIB.out]; simp⟩
                    case measure => simp [intOf]; omega
                  · have hck2 : ((c : Int) == (k : Int)) = false := by rw [beq_eq_false_iff_ne]; omega
                    go_wp2
                    go_round
                    case rel => exact ⟨j + 1, by omega, by go_num, by rw [HIB.out]; simp [hck]⟩
                    case measure => simp [intOf]; omega
                · go_wp2
                  go_round
                  case rel => exact ⟨j + 1, by omega, by go_num, by rw [HIB.out]; simp⟩
                  case measure => simp [intOf]; omega
              · have hje : j = l.length := by omega
                have HIX : Hid (inB a (l.take j) k = inB a l k) := by unfold Hid; rw [hje, List.take_length]
                rw [HIX.out]
                have hall : (addL a l).getLsbD k = inB a l k := addL_bit _ _ _ hk2
                have hasA : ∀ w, Calls Tryd.prog 14 #[cls (addL a l), .int .u8 (k : Int)] w (Ans w (.bool (inB a l k))) := fun w => by have := has_any (addL a l) k hk2 w; rw [hall] at this; exact this
                have HAA := Lib.hid hasA
                clear hasA hall HIX
                generalize inB a l k = x at *
                have hjn : ¬ (j : Int) < (l.length : Int) := by omega
                clear hje
                have g1 := HS3.out.blk5.cells
                go_wp2_with fail
                rw [show Value.agg #[.int .u64 (wd (addL a l) 0), .int .u64 (wd (addL a l) 1), .int .u64 (wd (addL a l) 2), .int .u64 (wd (addL a l) 3)] = cls (addL a l) from rfl]
                refine (HAA.out _).mono ?_; rintro e w4 ⟨rfl, hb4⟩
                have hS4 := HS3.out.later hb4
                have HS4 := Lib.hid hS4
                clear g1 hS4 hb4
                rcases x with _ | _
                · go_wp2
                  go_roundw
                  case rel => (repeat apply Exists.intro); exact ⟨⟨k + 1, by omega, rfl, by rw [HCN.out]; rfl, HS4.out⟩, rfl⟩
                  case measure => simp [intOf]; omega
                · go_wp2
                  go_roundw
                  case rel => (repeat apply Exists.intro); exact ⟨⟨k + 1, by omega, rfl, by rw [HCN.out]; rfl, HS4.out⟩, rfl⟩
                  case measure => simp [intOf]; omega
          · have hke : k = 256 := by omega
            have HKE : Hid (cntS (addL a l) = cnt (inB a l) k) := by unfold Hid; rw [hke]; exact cntS_addL a l
            generalize cnt (inB a l) k = n0 at *
            have cntA : ∀ w, Calls Tryd.prog 23 #[cls (addL a l)] w (Ans w (.int .i64 (n0 : Int))) := fun w => by have := count_any (addL a l) w; rw [HKE.out] at this; exact this
            have hkn : ¬ (k : Int) < 256 := by omega
            clear hke
            have heq := eql_cls
            have hg1 := eqGuard_eql
            go_upto_region 24 with (fail)
            refine wp_region_stable (S := (AddS w A l a B5 (B5 + 1) (B5 + 1 + 1) (addL a l) (addL a l) (addL a l))) (hSt := fun _ _ h hb => h.later hb) (plan := [[(6, none)], [(5, none)], [(84, some 0), (85, some 1)], [(86, some 2)], [(7, none)], [(5, none)], [(88, some 4), (89, some 5)], [(87, some 3), (90, some 6)], [(91, some 7)], [(5, none)], [(93, some 9)], [(9, none)], [(94, some 10), (95, some 11)], [(92, some 8), (96, some 12)], [(97, some 13)]]) (by kernel_rfl) (by kernel_rfl) (by kernel_rfl) ?hS ?_
            rotate_left
            iterate 15 first
              | (refine chain_skip (by rfl) (by rfl) ?_)
              | (apply chain_want (by rfl)
                 · intro act wx hS hr
                   simp at hr
                   have h1 := hS.blk5.cells
                   have h2 := hS.blk6.cells
                   have h3 := hS.blk7.cells
                   go_simp
                   (try go_ints)
                   first
                     | exact Done.same (v := cls _)
                     | ((with_reducible refine (cntA _).mono ?_); rintro e w' ⟨rfl, hb⟩; exact Done.mk hb)
                     | exact Done.same
                )
            show ∀ w', _ → _
            intro wz hz
            simp [Act.put]
            case hS => exact HS2.out
            go_wp2
            go_ret
            exact ⟨rfl, hz.below⟩
      · have hj : j < l.length := by omega
        have ej : ((j + 1 : Nat) : Int) - 1 = (j : Int) := by omega
        rw [ej]
        clear ej
        obtain ⟨b, off, hA, hb, hc⟩ := HSr.out.row.2.2 j hj
        have hc256 : l.getD j 0 < 256 := by
          have hg : l.getD j 0 = l[j] := by simp [hj]
          rw [hg]; exact HSr.out.row.1 _ (List.getElem_mem hj)
        have HD1 : Hid (addL a (l.drop j).reverse = addL a (l.drop (j + 1)).reverse ||| one (l.getD j 0)) := drop_rev a l j hj
        have HA := Lib.hid hA
        have hj0 : (0 : Int) ≤ (j : Int) := by omega
        have hj1 : (j : Int) < (l.length : Int) := by omega
        have hrow : ∀ wx, AddS w A l a B5 (B5 + 1) (B5 + 1 + 1) (addL a l) (addL a (l.drop (j + 1)).reverse) (addL a (l.drop (j + 1)).reverse) wx → wx.cell? ⟨b, off + j, none⟩ = some (.int .u8 ((l.getD j 0 : Nat) : Int)) := by
          intro wx h
          obtain ⟨b', off', hA', _, hc'⟩ := h.row.2.2 j hj
          rw [hA] at hA'; cases hA'; exact hc'
        generalize addL a (l.drop (j + 1)).reverse = M at *
        generalize l.getD j 0 = c at *
        subst hA
        clear hb hc
        have hcc0 : (0 : Int) ≤ (c : Int) := by omega
        have hcc1 : (c : Int) ≤ 255 := by omega
        have ofc : ∀ w, Calls Tryd.prog 12 #[.int .u8 (c : Int), .int .u8 (c : Int)] w (Ans w (cls (one c))) := fun w => by have := of_any c c hc256 hc256 w; rw [row_self c hc256] at this; exact this
        have HNR : ∀ w : World, NewRow [c] (.slice (some ⟨w.heap.size, 0, none⟩) 1 1) (w.alloc (.cells #[.int .u8 (c : Int)] 5)) := fun w => NewRow.new w [c] (by simp [hc256]) (by simp)
        go_upto_region 9 with (fail)
        refine wp_region_stable_last (S := (AddS w (some ⟨b, off, none⟩) l a B5 (B5 + 1) (B5 + 1 + 1) (addL a l) M M)) (hSt := fun _ _ h hb => h.later hb) (plan := [[(6, none)], [(1, none)], [(8, none)], [(34, some 1), (35, some 2)], [(36, some 3)], [(37, some 4)], [(33, some 0), (38, some 5)]]) rfl (by kernel_rfl) (by kernel_rfl) (by kernel_rfl) (by kernel_rfl) ?hS ?_
        rotate_left
        simp only [List.dropLast]
        iterate 5 first
          | (refine chain_skip (by rfl) (by rfl) ?_)
          | (apply chain_want (by rfl)
             · intro act wx hS hr
               simp at hr
               have h1 := hS.blk6.cells
               have h2 := hrow _ hS
               go_simp
               (try go_ints)
               first
                 | exact Done.same (v := cls _)
                 | (obtain ⟨hr1, v, hr2, b, rfl, hrow⟩ := hr; simp only [hr2]; refine (add_any M [c] _ _ _ hrow).mono ?_; rintro e w' ⟨rfl, hb⟩; exact Done.mk (v := cls (M ||| one c)) hb)
                 | exact Done.same
            )
        (refine chain_rel (NewRow [c]) (NewRow.later [c]) (by rfl) ?_ ?_
         · intro act wx hS hr
           simp at hr
           have h1 := hS.blk6.cells
           have h2 := hrow _ hS
           go_simp
           exact Done.rel ((Below.refl _ _).alloc (Nat.le_refl _) _) (HNR _)
        )
        iterate 1 first
          | (refine chain_skip (by rfl) (by rfl) ?_)
          | (apply chain_want (by rfl)
             · intro act wx hS hr
               simp at hr
               have h1 := hS.blk6.cells
               have h2 := hrow _ hS
               go_simp
               (try go_ints)
               first
                 | exact Done.same (v := cls _)
                 | (obtain ⟨hr1, v, hr2, b, rfl, hrow⟩ := hr; simp only [hr2]; refine (add_any M [c] _ _ _ hrow).mono ?_; rintro e w' ⟨rfl, hb⟩; exact Done.mk (v := cls (M ||| one c)) hb)
                 | exact Done.same
            )
        show ∀ w', _ → _
        intro wz hz
        simp [Act.put]
        case hS => exact HSr.out
        intro v hv
        have h1 := hz.blk6.cells
        have h2 := hz.blk6.frozen
        have hset := hz.set6 (by omega) (by omega) (by have := HN2.out; omega) HRL.out HG.out (M ||| one c)
        have HSET := Lib.hid hset
        clear hset hz hv
        simp only [cls]
        go_upto_region 10 with (fail)
        clear h1 h2
        have hrow2 : ∀ wx, AddS w (some ⟨b, off, none⟩) l a B5 (B5 + 1) (B5 + 1 + 1) (addL a l) (M ||| one c) M wx → wx.cell? ⟨b, off + j, none⟩ = some (.int .u8 (c : Int)) := by
          intro wx h
          obtain ⟨b', off', hA', h1, hc'⟩ := h.row.2.2 j hj
          cases hA'
          obtain ⟨b2, off2, hA2, h12, hc2⟩ := HSr.out.row.2.2 j hj
          cases hA2
          have := hrow _ HSr.out
          rw [this] at hc2
          rw [hc']; exact hc2.symm
        refine wp_region_stable_last (S := (AddS w (some ⟨b, off, none⟩) l a B5 (B5 + 1) (B5 + 1 + 1) (addL a l) (M ||| one c) M)) (hSt := fun _ _ h hb => h.later hb) (plan := [[(7, none)], [(1, none)], [(8, none)], [(41, some 1), (42, some 2)], [(43, some 3)], [(1, none)], [(8, none)], [(45, some 5), (46, some 6)], [(47, some 7)], [(44, some 4), (48, some 8)], [(40, some 0), (49, some 9)]]) rfl (by kernel_rfl) (by kernel_rfl) (by kernel_rfl) (by kernel_rfl) ?hS ?_
        rotate_left
        simp only [List.dropLast]
        iterate 11 first
          | (refine chain_skip (by rfl) (by rfl) ?_)
          | (apply chain_want (by rfl)
             · intro act wx hS hr
               simp at hr
               have h1 := hS.blk7.cells
               have h2 := hrow2 _ hS
               go_simp
               (try go_ints)
               first
                 | exact Done.same (v := cls _)
                 | ((with_reducible refine (ofc _).mono ?_); rintro e w' ⟨rfl, hb⟩; exact Done.mk hb)
                 | ((with_reducible refine (join_any _ _ _).mono ?_); rintro e w' ⟨rfl, hb⟩; exact Done.mk hb)
                 | exact Done.same
            )
        show ∀ w', _ → _
        intro wz hz
        simp [Act.put]
        case hS => exact HSET.out
        have h1 := hz.blk7.cells
        have h2 := hz.blk7.frozen
        have hset := hz.set7 (by omega) (by omega) (by have := HN2.out; omega) HRL.out HG.out (M ||| one c)
        have HSET2 := Lib.hid hset
        clear hset hz HSET
        simp only [cls]
        go_wp2
        go_roundw
        case rel => exact ⟨j, by omega, by go_num, by rw [HD1.out]; exact HSET2.out⟩
        case measure => simp [intOf]
end Go.Proofs.YtmnebddgbkkajaaDoor
