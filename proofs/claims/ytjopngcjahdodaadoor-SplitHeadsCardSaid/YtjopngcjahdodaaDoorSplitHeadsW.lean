/- The statement SplitHeads of layer 2, walked. -/
import Derived.Test.YtjopngcjahdodaaDoorSplitAwake
import Derived.Test.YtjopngcjahdodaaDoorSplitHeadsM
namespace Go.Proofs.YtjopngcjahdodaaDoor
open Go Go.RowKit
set_option linter.unusedVariables false

/-- Block g holds these 257 bools. -/
def CutW (w : World) (g : Nat) (f : Nat → Bool) : Prop := ∃ cur : Array Value, w.heap[g]? = some (.cells cur 4) ∧ cur.size = 257 ∧ ∀ i, i < 257 → cur[i]? = some (.bool (f i))
section
variable {w w' : World} {g : Nat} {f : Nat → Bool}
theorem CutW.lt (h : CutW w g f) : g < w.heap.size := by
  obtain ⟨cur, h1, _⟩ := h
  exact Blk.lt (w := w) (b := g) (vs := cur) (t := 4) h1
theorem CutW.cell (h : CutW w g f) (i : Nat) (hi : i < 257) : w.cell? ⟨g, i, none⟩ = some (.bool (f i)) := by
  obtain ⟨cur, h1, _, h2⟩ := h
  rw [Blk.cell (w := w) (b := g) (vs := cur) (t := 4) h1]; exact h2 i hi
theorem CutW.fro (h : CutW w g f) (i : Nat) : w.frozen? ⟨g, i, none⟩ = false := by
  obtain ⟨cur, h1, _⟩ := h
  exact Blk.frozen (w := w) (b := g) (vs := cur) (t := 4) h1 i
theorem CutW.below (h : CutW w g f) {B : Nat} (hb : Below B w w') (hl : g < B) : CutW w' g f := by
  obtain ⟨cur, h1, h2⟩ := h
  exact ⟨cur, (hb.block g hl).trans h1, h2⟩
theorem CutW.later (h : CutW w g f) (hb : Below w.heap.size w w') : CutW w' g f := h.below hb h.lt
theorem CutW.set (h : CutW w g f) (i : Nat) (hi : i < 257) : CutW (w.setCell ⟨g, i, none⟩ (.bool true)) g (fun x => if x = i then true else f x) := by
  obtain ⟨cur, h1, h2, h3⟩ := h
  refine ⟨cur.setIfInBounds i (.bool true), Blk.setCell (w := w) (b := g) (vs := cur) (t := 4) h1 i _, by simpa using h2, fun x hx => ?_⟩
  by_cases e : x = i
  · subst e; simp [h2, hx]
  · rw [Array.getElem?_setIfInBounds_ne (Ne.symm e)]
    show cur[x]? = some (Value.bool (if x = i then true else f x))
    rw [if_neg e]; exact h3 x hx
theorem CutW.congr (h : CutW w g f) {f' : Nat → Bool} (he : ∀ i, f i = f' i) : CutW w g f' := by
  obtain ⟨cur, h1, h2, h3⟩ := h
  exact ⟨cur, h1, h2, fun i hi => by rw [← he i]; exact h3 i hi⟩
end

/-- What stands through the first loop: g is the block of cuts; all else that the call owns is of block g + 1 on. -/
structure HdS (w0 : World) (fr lg : List Nat) (g : Nat) (f : Nat → Bool) (l : List (BitVec 256)) (v : Value) (w : World) : Prop where
  below : Below w0.heap.size w0 w
  cut : CutW w g f
  own : OwnC w (g + 1) v l
  hg : w0.heap.size ≤ g
section
variable {w0 w w' : World} {fr lg : List Nat} {g : Nat} {f : Nat → Bool} {l : List (BitVec 256)} {v : Value}
theorem HdS.later (h : HdS w0 fr lg g f l v w) (hb : Below w.heap.size w w') : HdS w0 fr lg g f l v w' :=
  ⟨h.below.trans (hb.mono h.below.size), h.cut.later hb, h.own.later hb, h.hg⟩
theorem HdS.app {v' : Value} {l' : List (BitVec 256)} (h : HdS w0 fr lg g f l v w) (ho : OwnC w' (g + 1) v' l') (hb : Below (g + 1) w w') : HdS w0 fr lg g f l' v' w' :=
  ⟨h.below.trans (hb.mono (by have := h.hg; omega)), h.cut.below hb (by omega), ho, h.hg⟩
theorem HdS.set (h : HdS w0 fr lg g f l v w) (i : Nat) (hi : i < 257) : HdS w0 fr lg g (fun x => if x = i then true else f x) l v (w.setCell ⟨g, i, none⟩ (.bool true)) :=
  ⟨h.below.setCell (p := ⟨g, i, none⟩) h.hg _, h.cut.set i hi, ownsRow_setCell_below h.own (a := ⟨g, i, none⟩) (by show g < g + 1; omega) _, h.hg⟩
theorem HdS.congr {f' : Nat → Bool} (h : HdS w0 fr lg g f l v w) (he : ∀ i, f i = f' i) : HdS w0 fr lg g f' l v w := ⟨h.below, h.cut.congr he, h.own, h.hg⟩
end
def HdL (w0 : World) (fr lg : List Nat) (g : Nat) (v i : Value) (w : World) : Prop := ∃ k, k ≤ fr.length ∧ i = .int .i64 k ∧ HdS w0 fr lg g (cutB fr lg k) (rowsOf fr lg k) v w
def HcL (l : List (BitVec 256)) (a c : Value) : Prop := ∃ k, k ≤ 256 ∧ a = .int .i64 ((headsTo l k).length : Nat) ∧ c = .int .i64 k
theorem make257 (w : World) : (Instr.makeSlice 43 (.int .i64 257) (.int .i64 257)).run Tryd.prog w = .ok (.slice (some ⟨w.heap.size, 0, none⟩) 257 257) (w.alloc (.cells (Array.replicate 257 (.bool false)) 4)) := by kernel_rfl

set_option maxRecDepth 1000000 in
set_option maxHeartbeats 32000000 in
theorem splitheads_walk (fr lg : List Nat) (A B : Option Addr) (c1 c2 : Nat) (w : World) (hd : Deb w) (h1 : Row8 w A fr) (h2 : Row8 w B lg) (hA : fr.length ≤ 9223372036854775807) (hB : lg.length ≤ 9223372036854775807) :
    Calls Tryd.prog 7 #[.slice A fr.length c1, .slice B lg.length c2] w (Ans w (.bool true)) := by
  have HD := Lib.hid hd
  have HR := Lib.hid (And.intro h1 h2)
  have hmk := make257
  clear hd h1 h2
  go_enter Tryd.func7, Tryd.ntmps7
  by_cases h8 : 8 < fr.length
  · have h8b : decide ((8 : Int) < (fr.length : Int)) = true := by simp; omega
    have h8z : (8 : Int) < (fr.length : Int) := by omega
    have h8n : (fr.length : Int) > 8 := by omega
    go_wp2_with fail
    refine (awake2_any _ HD.out).mono ?_; rintro e w1 ⟨rfl, hb⟩
    go_wp2_with fail
    refine (awake2_any _ (HD.out.below hb)).mono ?_; rintro e w2 ⟨rfl, hb2⟩
    go_wp2
    go_ret
    exact ⟨rfl, hb.trans (hb2.mono hb.size)⟩
  · have h8b : decide ((8 : Int) < (fr.length : Int)) = false := by simp; omega
    have h8n : ¬ (fr.length : Int) > 8 := by omega
    by_cases hlf : lg.length < fr.length
    · have hlz : (lg.length : Int) < (fr.length : Int) := by omega
      go_wp2_with fail
      refine (awake2_any _ HD.out).mono ?_; rintro e w1 ⟨rfl, hb⟩
      go_wp2_with fail
      refine (awake2_any _ (HD.out.below hb)).mono ?_; rintro e w2 ⟨rfl, hb2⟩
      go_wp2
      go_ret
      exact ⟨rfl, hb.trans (hb2.mono hb.size)⟩
    · have hlz : ¬ (lg.length : Int) < (fr.length : Int) := by omega
      go_wp2_with fail
      refine (awake2_any _ HD.out).mono ?_; rintro e w1 ⟨rfl, hb⟩
      have HB1 := Lib.hid hb
      clear hb
      go_upto_region 6 with (fail)
      have HS : Hid (HdS w fr lg w1.heap.size (cutB fr lg 0) (rowsOf fr lg 0) (.slice none 0 0) (w1.alloc (.cells ((Array.replicate 257 (Value.bool false)).setIfInBounds 0 (.bool true)) 4))) := by
        refine ⟨HB1.out.alloc HB1.out.size _, ?_, OwnC.nil _ _, HB1.out.size⟩
        refine ⟨_, Blk.new w1 ((Array.replicate 257 (Value.bool false)).setIfInBounds 0 (.bool true)) 4, by simp, fun i hi => ?_⟩
        rw [cut_zero]
        by_cases e : i = 0
        · subst e; simp
        · rw [Array.getElem?_setIfInBounds_ne (Ne.symm e)]; simp [e, hi]
      clear hmk
      generalize w1.heap.size = g at *
      go_wp2
      go_loopw [5, 7] (HdL w fr lg g) (fun _ i _ => fr.length - (intOf i).toNat)
      case atStart => exact ⟨0, Nat.zero_le _, rfl, HS.out⟩
      case round =>
        obtain ⟨k, hk, rfl, hS⟩ := hrel
        clear HS
        have HS := Lib.hid hS
        by_cases hlt : k < fr.length
        · have hltz : (k : Int) < (fr.length : Int) := by omega
          have hkl : k < lg.length := by omega
          have hklz : (k : Int) < (lg.length : Int) := by omega
          obtain ⟨b1, o1, hA1, hb1, hcA⟩ := HR.out.1.2.2 k hlt
          obtain ⟨b2, o2, hA2, hb2, hcB⟩ := HR.out.2.2.2 k hkl
          subst hA1 hA2
          have hF : fr.getD k 0 < 256 := by have : fr.getD k 0 = fr[k] := by simp [hlt]
                                            rw [this]; exact HR.out.1.1 _ (List.getElem_mem hlt)
          have hG : lg.getD k 0 < 256 := by have : lg.getD k 0 = lg[k] := by simp [hkl]
                                            rw [this]; exact HR.out.2.1 _ (List.getElem_mem hkl)
          have f1 : ∀ w', Below w.heap.size w w' → w'.cell? ⟨b1, o1 + k, none⟩ = some (.int .u8 ((fr.getD k 0 : Nat) : Int)) := fun w' h => (h.cell (p := ⟨b1, o1 + k, none⟩) hb1).trans hcA
          have f2 : ∀ w', Below w.heap.size w w' → w'.cell? ⟨b2, o2 + k, none⟩ = some (.int .u8 ((lg.getD k 0 : Nat) : Int)) := fun w' h => (h.cell (p := ⟨b2, o2 + k, none⟩) hb2).trans hcB
          have HRS := Lib.hid (rowsOf_succ fr lg k)
          have HCS := Lib.hid (cut_succ fr lg k)
          have HRT : Hid (rowTo fr lg k = min 255 (fr.getD k 0 + lg.getD k 0)) := rfl
          have HRL := Lib.hid (rowsOf_length fr lg k)
          have F1 := Lib.hid f1
          have F2 := Lib.hid f2
          clear f1 f2 hcA hcB hS
          generalize rowTo fr lg k = T at *
          generalize fr.getD k 0 = F at *
          generalize lg.getD k 0 = G at *
          have hT : T ≤ 255 := by rw [HRT.out]; omega
          have hF0 : (0 : Int) ≤ (F : Int) := by omega
          have hG0 : (0 : Int) ≤ (G : Int) := by omega
          have hF1 : (F : Int) ≤ 255 := by omega
          have hG1 : (G : Int) ≤ 255 := by omega
          have hT0 : (0 : Int) ≤ (T : Int) := by omega
          have hT1 : (T : Int) ≤ 255 := by omega
          go_upto_region 9 with (fail)
          refine wp_region_stable (S := (HdS w fr lg g (cutB fr lg k) (rowsOf fr lg k) u5)) (hSt := fun _ _ h hb => h.later hb) (plan := [[(0, none)], [(7, none)], [(37, some 0), (38, some 1)], [(39, some 2)], [(40, some 3)], [(1, none)], [(7, none)], [(42, some 5), (43, some 6)], [(44, some 7)], [(45, some 8)], [(41, some 4), (46, some 9)], [(47, some 10)], [(48, some 11)]]) (by kernel_rfl) (by kernel_rfl) (by kernel_rfl) ?hS ?_
          rotate_left
          iterate 13 first
            | (refine chain_skip (by rfl) (by rfl) ?_)
            | (apply chain_want (by rfl)
               · intro act wx hS hr
                 simp at hr
                 have h1 := F1.out _ hS.below
                 have h2 := F2.out _ hS.below
                 go_simp
                 (try go_ints)
                 first
                   | exact Done.same
              )
          show ∀ w', _ → _
          intro wz hz
          simp [Act.put]
          case hS => exact HS.out
          have hif : (if (F : Int) + (G : Int) < 255 then (F : Int) + (G : Int) else 255) = (T : Int) := by
            have := HRT.out
            by_cases e : (F : Int) + (G : Int) < 255
            · rw [if_pos e]; omega
            · rw [if_neg e]; omega
          rw [hif]
          have hFT : F ≤ T := by have := HRT.out; omega
          clear hif
          have HZ := Lib.hid hz
          have h1 := F1.out _ hz.below
          clear hz
          go_wp2_with fail
          refine (refrow_any F T hF (by omega) _).mono ?_; rintro e w2 ⟨rfl, hb2'⟩
          have HS2 := Lib.hid ((HZ.out.later hb2').later ((Below.refl _ _).alloc (Nat.le_refl _) (.cells (cells4 (rowB F T)) 25)))
          have HBK := Lib.hid (Blk.new w2 (cells4 (rowB F T)) 25)
          have hgs : g + 1 ≤ (w2.alloc (.cells (cells4 (rowB F T)) 25)).heap.size := HS2.out.cut.lt
          have hlen2 : (rowsOf fr lg k).length < 1073741824 := by rw [HRL.out]; omega
          clear hb2' h1
          generalize rowB F T = rk at *
          unfold cells4 at HS2 HBK hgs
          unfold cls
          have hFn : (F : Int).toNat = F := by omega
          have hTn : ((T : Int) + 1).toNat = T + 1 := by omega
          have hne : ¬ (T + 1 = F) := by omega
          have hne2 : ¬ (F = T + 1) := by omega
          go_wp2_with (at_builtin; refine wpList_append_cls rfl _ _ rfl (g + 1) _ (rowsOf fr lg k) rfl HS2.out.own w2.heap.size rk rfl HBK.out hlen2 hgs ?_; intro v' w3 ho3 hb3; have hS3 : Hid (HdS w fr lg g (cutB fr lg k) (rowsOf fr lg (k + 1)) v' w3) := (by rw [HRS.out]; exact HS2.out.app ho3 (hb3 _ (Nat.le_refl _))); clear ho3 hb3; have hl3 := F1.out _ hS3.out.below; have hc3 := hS3.out.cut.cell F (by omega); have hf3 := hS3.out.cut.fro F; have hc4 := hS3.out.cut.cell (T + 1) (by omega); have hf4 := hS3.out.cut.fro (T + 1))
          have HS5 : Hid (HdS w fr lg g (cutB fr lg (k + 1)) (rowsOf fr lg (k + 1)) v' ((w3.setCell ⟨g, F, none⟩ (.bool true)).setCell ⟨g, T + 1, none⟩ (.bool true))) :=
            ((hS3.out.set F (by omega)).set (T + 1) (by omega)).congr fun i => (HCS.out i).symm
          go_wp2
          go_roundw
          case rel => first | exact ⟨k + 1, by omega, by go_num, HS5.out⟩ | ((repeat apply Exists.intro); exact ⟨⟨k + 1, by omega, by go_num, HS5.out⟩, rfl⟩)
          case measure => simp [intOf]; omega
        · obtain rfl : k = fr.length := by omega
          have HRL := Lib.hid (rowsOf_length fr lg fr.length)
          have HHC := Lib.hid (fun c (hc : c < 256) (h : headB (rowsOf fr lg fr.length) c = true) => head_cut hc h)
          generalize hll : rowsOf fr lg fr.length = l at *
          generalize hff : cutB fr lg fr.length = f at *
          clear hll hff hS
          have hll2 : l.length < 1073741824 := by rw [HRL.out]; omega
          have hdw := HD.out.below HS.out.below
          go_wp2_with fail
          refine (heads_row l _ _ HS.out.own.isRow hdw hll2).mono ?_
          rintro e w2 ⟨v, rfl, ⟨A3, cap3, rfl, hr3⟩, hb3⟩
          have HS2 := Lib.hid (HS.out.later hb3)
          have HR3 := Lib.hid hr3
          have hle := heads_le l
          clear hb3 hr3 HS hdw
          have HPL := Lib.hid (parts_length l)
          go_wp2
          go_loop [10, 11] (HcL l) (fun _ c => 256 - (intOf c).toNat)
          case atStart => exact ⟨0, by omega, rfl, rfl⟩
          case round =>
            obtain ⟨k, hk, rfl, rfl⟩ := hrel
            by_cases hk2 : k < 256
            · have hk2z : (k : Int) < 256 := by omega
              have hk0 : (0 : Int) ≤ (k : Int) := by omega
              have HHS := Lib.hid (headsTo_succ l k)
              have HHA := Lib.hid (fun h => heads_at (l := l) hk2 h)
              have HHN := Lib.hid (fun h hl => heads_not (l := l) hk2 h hl)
              have hnl : (headsTo l k).length ≤ k := by unfold headsTo; exact Nat.le_trans (List.length_filter_le _ _) (by simp)
              have hcut := HS2.out.cut.cell k (by omega)
              cases hb : headB l k with
              | true =>
                obtain ⟨hN, hx⟩ := HHA.out hb
                have HE : Hid ((headsTo l (k + 1)).length = (headsTo l k).length + 1) := by unfold Hid; rw [HHS.out, if_pos hb]; simp
                rw [HHC.out k hk2 hb] at hcut
                obtain ⟨b3, o3, hA3, _, hc3⟩ := HR3.out.2.2 _ hN
                rw [hx] at hc3
                clear HHS HHA HHN hb hx
                generalize (headsTo l k).length = N at *
                subst hA3
                have hNz : (N : Int) < ((headsL l).length : Int) := by omega
                go_wp2
                go_round
                case rel => first | exact ⟨k + 1, by omega, by rw [HE.out]; go_num, by go_num⟩ | ((repeat apply Exists.intro); exact ⟨⟨k + 1, by omega, by rw [HE.out]; go_num, by go_num⟩, rfl⟩)
                case measure => simp [intOf]; omega
              | false =>
                have HE : Hid ((headsTo l (k + 1)).length = (headsTo l k).length) := by unfold Hid; rw [HHS.out, hb]; simp
                by_cases hN : (headsTo l k).length < (headsL l).length
                · have q1 := HHN.out hb hN
                  have q2 : (headsL l).getD (headsTo l k).length 0 < 256 := heads_lt l _ (by simp [hN])
                  obtain ⟨b3, o3, hA3, _, hc3⟩ := HR3.out.2.2 _ hN
                  obtain ⟨x, hxe⟩ : ∃ x, x = (headsL l).getD (headsTo l k).length 0 := ⟨_, rfl⟩
                  rw [← hxe] at hc3 q1 q2
                  clear HHS HHA HHN hb hcut hxe
                  generalize (headsTo l k).length = N at *
                  subst hA3
                  have hNz : (N : Int) < ((headsL l).length : Int) := by omega
                  have hxz : ((x : Int) == (k : Int)) = false := by rw [beq_eq_false_iff_ne]; omega
                  have hx0 : (0 : Int) ≤ (x : Int) := by omega
                  have hx1 : (x : Int) ≤ 255 := by omega
                  clear q1 q2
                  go_wp2
                  go_round
                  case rel => first | exact ⟨k + 1, by omega, by rw [HE.out], by go_num⟩ | ((repeat apply Exists.intro); exact ⟨⟨k + 1, by omega, by rw [HE.out], by go_num⟩, rfl⟩)
                  case measure => simp [intOf]; omega
                · clear HHS HHA HHN hb hcut
                  generalize (headsTo l k).length = N at *
                  have hNz : ¬ (N : Int) < ((headsL l).length : Int) := by omega
                  have hNn : ¬ N < (headsL l).length := by omega
                  go_wp2
                  go_round
                  case rel => first | exact ⟨k + 1, by omega, by rw [HE.out], by go_num⟩ | ((repeat apply Exists.intro); exact ⟨⟨k + 1, by omega, by rw [HE.out], by go_num⟩, rfl⟩)
                  case measure => simp [intOf]; omega
            · obtain rfl : k = 256 := by omega
              rw [headsTo_all]
              have hdw := HD.out.below HS2.out.below
              go_wp2_with fail
              refine (parts_row l _ _ HS2.out.own.isRow hdw hll2).mono ?_
              rintro e w4 ⟨v4, rfl, ⟨a4, cc4, rfl, hr4⟩, hb4⟩
              rw [HPL.out]
              have HF := Lib.hid (HS2.out.below.trans (hb4.mono HS2.out.below.size))
              clear hb4 hr4 hdw
              go_wp2
              go_ret
              exact ⟨rfl, HF.out⟩
end Go.Proofs.YtjopngcjahdodaaDoor
