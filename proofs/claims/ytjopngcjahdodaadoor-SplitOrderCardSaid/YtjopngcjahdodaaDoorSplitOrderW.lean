/- The statement SplitOrder of layer 2, walked. -/
import Derived.Test.YtjopngcjahdodaaDoorSplitAwake
import Derived.Test.YtjopngcjahdodaaDoorSplitMoreM
import Derived.Test.YtjopngcjahdodaaDoorSplitFresh
import Derived.Test.YtjopngcjahdodaaDoorSplitRParts
namespace Go.Proofs.YtjopngcjahdodaaDoor
open Go Go.RowKit
set_option linter.unusedVariables false

def turnA (l : List (BitVec 256)) (t i : Nat) : BitVec 256 := if i % 2 = 1 then ~~~(l.getD ((i + t) % l.length) 0) else l.getD ((i + t) % l.length) 0
def turnL (l : List (BitVec 256)) (t k : Nat) : List (BitVec 256) := (List.range k).map (turnA l t)
theorem turn_succ (l : List (BitVec 256)) (t k : Nat) : turnL l t (k + 1) = turnL l t k ++ [turnA l t k] := by unfold turnL; rw [List.range_succ, List.map_append]; rfl
theorem turn_len (l : List (BitVec 256)) (t k : Nat) : (turnL l t k).length = k := by unfold turnL; simp
theorem mem_getD {l : List (BitVec 256)} {i : Nat} (h : i < l.length) : l.getD i 0 ∈ l := by simp [h]
theorem turn_parts {l : List (BitVec 256)} (t : Nat) (hn : 0 < l.length) : partsL (turnL l t l.length) = partsL l := by
  refine partsL_congr fun c d hc hd => like_mem (fun x hx => ?_) (fun b hb => ?_) c d hc hd
  · unfold turnL at hx; rw [List.mem_map] at hx
    obtain ⟨i, _, rfl⟩ := hx
    have hm := mem_getD (l := l) (Nat.mod_lt (i + t) hn)
    unfold turnA
    by_cases h : i % 2 = 1
    · rw [if_pos h]; exact .inr ⟨_, hm, rfl⟩
    · rw [if_neg h]; exact .inl hm
  · obtain ⟨j, hj, rfl⟩ := List.getElem_of_mem hb
    have hi : (j + (l.length - t % l.length)) % l.length < l.length := Nat.mod_lt _ hn
    have he : ((j + (l.length - t % l.length)) % l.length + t) % l.length = j := by
      have ht := Nat.mod_lt t hn
      rw [Nat.mod_add_mod]
      have h1 : j + (l.length - t % l.length) + t = j + l.length + l.length * (t / l.length) := by
        have := Nat.mod_add_div t l.length
        omega
      rw [h1, Nat.add_mul_mod_self_left, Nat.add_mod_right, Nat.mod_eq_of_lt hj]
    have hm : turnA l t ((j + (l.length - t % l.length)) % l.length) ∈ turnL l t l.length := by
      unfold turnL; rw [List.mem_map]; exact ⟨_, List.mem_range.2 hi, rfl⟩
    have hg : l.getD j 0 = l[j] := by simp [hj]
    unfold turnA at hm
    rw [he, hg] at hm
    by_cases h : (j + (l.length - t % l.length)) % l.length % 2 = 1
    · rw [if_pos h] at hm; exact .inr hm
    · rw [if_neg h] at hm; exact .inl hm
theorem twice_parts {l : List (BitVec 256)} {a : BitVec 256} (ha : a ∈ l) : partsL (l ++ [a]) = partsL l := by rw [← refine_parts, refine_same ha]

/-- A new row without a class. -/
def NewE (v : Value) (w : World) : Prop := ∃ b, v = .slice (some ⟨b, 0, none⟩) 0 0 ∧ Blk w b #[] 25
theorem NewE.later (v : Value) (w w' : World) (h : NewE v w) (hb : Below w.heap.size w w') : NewE v w' := by
  obtain ⟨b, hv, hk⟩ := h
  exact ⟨b, hv, hk.later hb⟩
def OwnV (B : Nat) (l : List (BitVec 256)) (v : Value) (w : World) : Prop := OwnC w B v l ∧ B ≤ w.heap.size
theorem OwnV.later (B : Nat) (l : List (BitVec 256)) (v : Value) (w w' : World) (h : OwnV B l v w) (hb : Below w.heap.size w w') : OwnV B l v w' := ⟨h.1.later hb, Nat.le_trans h.2 hb.size⟩
theorem OwnC.base {w : World} {B B' : Nat} {v : Value} {l : List (BitVec 256)} (h : OwnC w B v l) (hB : B' ≤ B) : OwnC w B' v l := by
  obtain ⟨h1, h2 | ⟨g, cap, cur, q1, q2, q3⟩⟩ := h
  · exact ⟨h1, .inl h2⟩
  · exact ⟨h1, .inr ⟨g, cap, cur, q1, Nat.le_trans hB q2, q3⟩⟩
structure OrdS (w0 : World) (A C : Option Addr) (l : List (BitVec 256)) (w : World) : Prop where
  below : Below w0.heap.size w0 w
  deb : Deb w
  row : LRow w A l
  prow : LRow w C (partsL l)
theorem OrdS.later {w0 w w' : World} {A C : Option Addr} {l : List (BitVec 256)} (h : OrdS w0 A C l w) (hb : Below w.heap.size w w') : OrdS w0 A C l w' :=
  ⟨h.below.trans (hb.mono h.below.size), h.deb.below hb, h.row.later hb, h.prow.later hb⟩
structure OrdE (w0 : World) (A C : Option Addr) (l T : List (BitVec 256)) (v : Value) (wE : World) (w : World) : Prop where
  s : OrdS w0 A C l w
  r : IsRow T v w
  bel : Below wE.heap.size wE w
theorem OrdE.later {w0 w w' wE : World} {A C : Option Addr} {l T : List (BitVec 256)} {v : Value} (h : OrdE w0 A C l T v wE w) (hb : Below w.heap.size w w') : OrdE w0 A C l T v wE w' := ⟨h.s.later hb, IsRow.later _ _ _ _ h.r hb, h.bel.trans (hb.mono h.bel.size)⟩
def OrdL (l : List (BitVec 256)) (t : Nat) (wB : World) (v i : Value) (w : World) : Prop := ∃ k : Nat, k ≤ l.length ∧ i = .int .i64 k ∧ OwnC w wB.heap.size v (turnL l t k) ∧ Below wB.heap.size wB w

set_option maxRecDepth 1000000 in
set_option maxHeartbeats 32000000 in
theorem splitorder_walk (l : List (BitVec 256)) (t q : Nat) (A : Option Addr) (c1 : Nat) (w : World) (hd : Deb w) (h1 : LRow w A l) (ht : t < 256) (hq : q < 256) (hA : l.length ≤ 9223372036854775807) :
    Calls Tryd.prog 5 #[.slice A l.length c1, .int .u8 (t : Int), .int .u8 (q : Int)] w (Ans w (.bool true)) := by
  have HD := Lib.hid hd
  have HR := Lib.hid h1
  clear hd h1
  go_enter Tryd.func5, Tryd.ntmps5
  by_cases h8 : 10 < l.length
  · have h8b : decide ((10 : Int) < (l.length : Int)) = true := by simp; omega
    have h8n : (l.length : Int) > 10 := by omega
    go_wp2_with fail
    refine (awake2_any _ HD.out).mono ?_; rintro e w1 ⟨rfl, hb⟩
    go_wp2_with fail
    refine (awake2_any _ (HD.out.below hb)).mono ?_; rintro e w2 ⟨rfl, hb2⟩
    have HF := Lib.hid (hb.trans (hb2.mono hb.size))
    clear hb hb2
    go_wp2
    go_ret
    exact ⟨rfl, HF.out⟩
  · have h8b : decide ((10 : Int) < (l.length : Int)) = false := by simp; omega
    have h8n : ¬ (l.length : Int) > 10 := by omega
    by_cases h0 : l.length = 0
    · have h0b : ((l.length : Int) == 0) = true := by rw [beq_iff_eq]; omega
      have h0n : l = [] := List.length_eq_zero_iff.1 h0
      subst h0n
      clear h0 h8
      go_wp2_with fail
      refine (awake2_any _ HD.out).mono ?_; rintro e w1 ⟨rfl, hb⟩
      go_wp2_with fail
      refine (awake2_any _ (HD.out.below hb)).mono ?_; rintro e w2 ⟨rfl, hb2⟩
      have HF := Lib.hid (hb.trans (hb2.mono hb.size))
      clear hb hb2
      go_wp2
      go_ret
      exact ⟨rfl, HF.out⟩
    · have hn : 0 < l.length := by omega
      have hnz : (0 : Int) < (l.length : Int) := by omega
      have h0b : ((l.length : Int) == 0) = false := by rw [beq_eq_false_iff_ne]; omega
      have h0n : ¬ l = [] := fun e => h0 (by rw [e]; rfl)
      clear h0
      have ht0 : (0 : Int) ≤ (t : Int) := by omega
      have ht1 : (t : Int) ≤ 255 := by omega
      have hq0 : (0 : Int) ≤ (q : Int) := by omega
      have hq1 : (q : Int) ≤ 255 := by omega
      have hll : l.length < 1073741824 := by omega
      obtain ⟨k2, hk2, hk2n⟩ : ∃ k2 : Nat, (q : Int) % (l.length : Int) = (k2 : Int) ∧ k2 < l.length := ⟨q % l.length, by omega, Nat.mod_lt _ hn⟩
      have HK2 := Lib.hid hk2
      go_wp2_with fail
      refine (awake2_any _ HD.out).mono ?_; rintro e w1 ⟨rfl, hb⟩
      have HB1 := Lib.hid hb
      clear hb hk2
      go_wp2_with fail
      refine (parts_any l A c1 _ (HR.out.later HB1.out) (HD.out.below HB1.out) hll).mono ?_
      rintro e wB ⟨v, rfl, ⟨C, cC, rfl, hrC⟩, hb2⟩
      have HS : Hid (OrdS w A C l wB) := ⟨HB1.out.trans (hb2.mono HB1.out.size), (HD.out.below HB1.out).below hb2, (HR.out.later HB1.out).later hb2, hrC⟩
      clear hb2 hrC
      go_wp2
      go_loopw [8, 9] (OrdL l t wB) (fun _ i _ => l.length - (intOf i).toNat)
      case atStart => exact ⟨0, Nat.zero_le _, rfl, OwnC.nil _ _, Below.refl _ _⟩
      case round =>
        obtain ⟨k, hk, rfl, ho, hb⟩ := hrel
        have HO := Lib.hid ho
        have HB := Lib.hid hb
        by_cases hlt : k < l.length
        · have hltz : (k : Int) < (l.length : Int) := by omega
          obtain ⟨R, hR, hRn, hRe⟩ : ∃ R : Nat, ((k : Int) + (t : Int)) % (l.length : Int) = (R : Int) ∧ R < l.length ∧ (k + t) % l.length = R := ⟨(k + t) % l.length, by simp, Nat.mod_lt _ hn, rfl⟩
          have hR0 : (0 : Int) ≤ (R : Int) := by omega
          have hRz : (R : Int) < (l.length : Int) := by omega
          have HT := Lib.hid (turn_succ l t k)
          have HTA : Hid (turnA l t k = if k % 2 = 1 then ~~~(l.getD R 0) else l.getD R 0) := by unfold Hid turnA; rw [hRe]
          clear hRe
          obtain ⟨b1, o1, hA1, -⟩ := HR.out.cells R hRn
          subst hA1
          have g1 := (HS.out.row.later hb).at R _ hRn rfl
          unfold At at g1
          clear ho hb
          generalize l.getD R 0 = x at *
          have hsB := HB.out.size
          have hgl : ∀ g, u8.ownBlock = some g → g < wr.heap.size := fun g h => (World.ownsRow.lt HO.out g h).2
          have HGL := Lib.hid hgl
          clear hgl
          have HBX := Lib.hid (Blk.new wr (cells4 x) 25)
          have HO1 := Lib.hid (HO.out.later ((Below.refl _ _).alloc (Nat.le_refl _) (.cells (cells4 x) 25)))
          have HB1' := Lib.hid (HB.out.alloc hsB (.cells (cells4 x) 25))
          by_cases hp : k % 2 = 1
          · have hpb : ((k : Int) % 2 == 1) = true := by rw [beq_iff_eq]; omega
            have HTE : Hid (turnL l t (k + 1) = turnL l t k ++ [~~~x]) := by unfold Hid; rw [HT.out, HTA.out, if_pos hp]
            go_wp2_with fail
            refine (refnot_any x _).mono ?_; rintro e w2 ⟨rfl, hb2⟩
            have hbx2 := HBX.out.later hb2
            have e1 := hbx2.cells
            have e2 := hbx2.frozen
            generalize wr.heap.size = bx at *
            have hne : u8.ownBlock ≠ some bx := fun h => by have := HGL.out bx h; omega
            have hO3 : OwnC ((((w2.setCell ⟨bx, 0, none⟩ (.int .u64 (wd (~~~x) 0))).setCell ⟨bx, 1, none⟩ (.int .u64 (wd (~~~x) 1))).setCell ⟨bx, 2, none⟩ (.int .u64 (wd (~~~x) 2))).setCell ⟨bx, 3, none⟩ (.int .u64 (wd (~~~x) 3))) wB.heap.size u8 (turnL l t k) :=
              ((((HO1.out.later hb2).set_ne hne).set_ne hne).set_ne hne).set_ne hne
            have hs1 := HB1'.out.size
            have hB3 : Below wB.heap.size wB ((((w2.setCell ⟨bx, 0, none⟩ (.int .u64 (wd (~~~x) 0))).setCell ⟨bx, 1, none⟩ (.int .u64 (wd (~~~x) 1))).setCell ⟨bx, 2, none⟩ (.int .u64 (wd (~~~x) 2))).setCell ⟨bx, 3, none⟩ (.int .u64 (wd (~~~x) 3))) :=
              ((((HB1'.out.trans (hb2.mono hs1)).setCell (p := ⟨bx, 0, none⟩) hsB _).setCell (p := ⟨bx, 1, none⟩) hsB _).setCell (p := ⟨bx, 2, none⟩) hsB _).setCell (p := ⟨bx, 3, none⟩) hsB _
            have hX3 := hbx2.set4 (~~~x)
            clear hb2
            unfold cls
            go_upto_region 11 with (fail)
            generalize ((((w2.setCell ⟨bx, 0, none⟩ (.int .u64 (wd (~~~x) 0))).setCell ⟨bx, 1, none⟩ (.int .u64 (wd (~~~x) 1))).setCell ⟨bx, 2, none⟩ (.int .u64 (wd (~~~x) 2))).setCell ⟨bx, 3, none⟩ (.int .u64 (wd (~~~x) 3))) = w3 at *
            clear e1 e2 g1
            generalize ~~~x = y at *
            have f1 := hX3.cells
            have HO4 := Lib.hid (hO3.later ((Below.refl _ _).alloc (Nat.le_refl _) (.cells (cells4 y) 25)))
            have hs3 := hB3.size
            have HB4 := Lib.hid (hB3.alloc hs3 (.cells (cells4 y) 25))
            have HBK := Lib.hid (Blk.new w3 (cells4 y) 25)
            have hBs : wB.heap.size ≤ (w3.alloc (.cells (cells4 y) 25)).heap.size := by simp; omega
            have hlen2 : (turnL l t k).length < 1073741824 := by rw [turn_len]; omega
            clear hX3 hO3 hB3
            unfold cells4 at HO4 HB4 HBK hBs
            go_wp2_with (at_builtin; refine wpList_append_cls rfl _ _ rfl wB.heap.size u8 (turnL l t k) rfl HO4.out w3.heap.size y rfl HBK.out hlen2 hBs ?_; intro v' w7 ho7 hb7)
            have HQ : Hid (OrdL l t wB v' (.int .i64 ((k + 1 : Nat) : Int)) w7) := ⟨k + 1, by omega, rfl, by rw [HTE.out]; exact ho7, HB4.out.trans (hb7 _ (Nat.le_refl _))⟩
            clear ho7 hb7
            go_wp2
            go_roundw
            case rel => first | exact HQ.out | ((repeat apply Exists.intro); exact ⟨HQ.out, rfl⟩)
            case measure => simp [intOf]; omega
          · have hpb : ((k : Int) % 2 == 1) = false := by rw [beq_eq_false_iff_ne]; omega
            have HTE : Hid (turnL l t (k + 1) = turnL l t k ++ [x]) := by unfold Hid; rw [HT.out, HTA.out, if_neg hp]
            go_upto_region 11 with (fail)
            have hX0 := HBX.out
            have hO3 := HO1.out
            have hB3 := HB1'.out
            unfold cells4 at hX0 hO3 hB3
            generalize wr.heap.size = bx at *
            generalize wr.alloc (.cells #[.int .u64 (wd x 0), .int .u64 (wd x 1), .int .u64 (wd x 2), .int .u64 (wd x 3)] 25) = w3 at *
            clear g1
            have hX3 : Blk w3 bx (cells4 x) 25 := hX0
            clear hX0
            generalize x = y at *
            have f1 := hX3.cells
            have HO4 := Lib.hid (hO3.later ((Below.refl _ _).alloc (Nat.le_refl _) (.cells (cells4 y) 25)))
            have hs3 := hB3.size
            have HB4 := Lib.hid (hB3.alloc hs3 (.cells (cells4 y) 25))
            have HBK := Lib.hid (Blk.new w3 (cells4 y) 25)
            have hBs : wB.heap.size ≤ (w3.alloc (.cells (cells4 y) 25)).heap.size := by simp; omega
            have hlen2 : (turnL l t k).length < 1073741824 := by rw [turn_len]; omega
            clear hX3 hO3 hB3
            unfold cells4 at HO4 HB4 HBK hBs
            go_wp2_with (at_builtin; refine wpList_append_cls rfl _ _ rfl wB.heap.size u8 (turnL l t k) rfl HO4.out w3.heap.size y rfl HBK.out hlen2 hBs ?_; intro v' w7 ho7 hb7)
            have HQ : Hid (OrdL l t wB v' (.int .i64 ((k + 1 : Nat) : Int)) w7) := ⟨k + 1, by omega, rfl, by rw [HTE.out]; exact ho7, HB4.out.trans (hb7 _ (Nat.le_refl _))⟩
            clear ho7 hb7
            go_wp2
            go_roundw
            case rel => first | exact HQ.out | ((repeat apply Exists.intro); exact ⟨HQ.out, rfl⟩)
            case measure => simp [intOf]; omega
        · obtain rfl : k = l.length := by omega
          have hTl := turn_len l t l.length
          have hTP := turn_parts (l := l) t hn
          have HE : Hid (OrdE w A C l (turnL l t l.length) u8 wr wr) := ⟨HS.out.later hb, ho.isRow, Below.refl _ _⟩
          clear ho hb HO HB
          generalize turnL l t l.length = T at *
          have HTP := Lib.hid hTP
          have HTL := Lib.hid hTl
          clear hTP hTl
          have hmem : l.getD k2 0 ∈ l := mem_getD hk2n
          have HTW := Lib.hid (twice_parts hmem)
          have HRS := Lib.hid (refine_same hmem)
          obtain ⟨b1, o1, hA1, -⟩ := HR.out.cells k2 hk2n
          subst hA1
          have f1 : ∀ w, LRow w (some ⟨b1, o1, none⟩) l → At w b1 (o1 + k2 * 4) (l.getD k2 0) := fun w h => h.at k2 _ hk2n rfl
          have F1 := Lib.hid f1
          have hk2 := HK2.out
          have hk20 : (0 : Int) ≤ (k2 : Int) := by omega
          have hk2z : (k2 : Int) < (l.length : Int) := by omega
          have hcl : l.length < 1073741824 := hll
          clear f1 hmem
          generalize l.getD k2 0 = x at *
          go_upto_region 13 with (fail)
          refine wp_region_stable_two (S := (OrdE w (some ⟨b1, o1, none⟩) C l T u8 wr)) (hSt := fun _ _ h hb => h.later hb) (plan := [[], [(0, none)], [(58, some 0), (59, some 1)], [(0, none)], [(11, none)], [(61, some 3), (62, some 4)], [(63, some 5)], [(64, some 6)]]) rfl rfl (by kernel_rfl) (by kernel_rfl) (by kernel_rfl) (by kernel_rfl) ?hS ?_
          rotate_left
          simp only [List.dropLast]
          (refine chain_rel (NewE) (NewE.later) (by rfl) ?_ ?_
           · intro act wx hS hr
             simp at hr
             have g1 := F1.out _ hS.s.row
             unfold At at g1
             all_goals go_simp
             exact Done.rel ((Below.refl _ _).alloc (Nat.le_refl _) _) ⟨_, rfl, Blk.new _ _ _⟩
          )
          iterate 1 first
            | (refine chain_skip (by rfl) (by rfl) ?_)
            | (apply chain_want (by rfl)
               · intro act wx hS hr
                 simp at hr
                 have g1 := F1.out _ hS.s.row
                 unfold At at g1
                 go_simp
                 (try go_ints)
                 first
                   | exact Done.same (v := cls _)
                   | exact Done.same
              )
          (refine chain_rel (OwnV wr.heap.size l) (OwnV.later wr.heap.size l) (by rfl) ?_ ?_
           · intro act wx hS hr
             simp at hr
             have g1 := F1.out _ hS.s.row
             unfold At at g1
             obtain ⟨⟨v, hr2, b, rfl, hk⟩, hr3⟩ := hr
             refine wp_append_fresh (.tmp 58) (.tmp 59) rfl b (by simp [Act.eval, hr2]) hk l (some ⟨b1, o1, none⟩) c1 (by simp [Act.eval, hr3]) hS.s.row hn hcl ?_
             intro v' w' q1 q2
             exact Done.rel q2 ⟨q1.base hS.bel.size, Nat.le_trans hS.bel.size q2.size⟩
             all_goals go_simp
          )
          iterate 4 first
            | (refine chain_skip (by rfl) (by rfl) ?_)
            | (apply chain_want (by rfl)
               · intro act wx hS hr
                 simp at hr
                 have g1 := F1.out _ hS.s.row
                 unfold At at g1
                 go_simp
                 (try go_ints)
                 first
                   | exact Done.same (v := cls _)
                   | exact Done.same
              )
          (refine chain_rel (NewC x) (NewC.later _) (by rfl) ?_ ?_
           · intro act wx hS hr
             simp at hr
             have g1 := F1.out _ hS.s.row
             unfold At at g1
             all_goals go_simp
             exact Done.rel ((Below.refl _ _).alloc (Nat.le_refl _) _) (NewC.new _ _)
          )
          show ∀ w', _ → _
          intro wz hz
          simp [Act.put]
          case hS => exact HE.out
          intro v0 _ v2 hv2 v7 hv7
          obtain ⟨bn, rfl, hbk⟩ := hv7
          refine wp_append_cls _ _ rfl wr.heap.size v2 l rfl hv2.1 bn x rfl hbk hcl hv2.2 ?_
          intro v' w' q1 q2 _ _
          have hbz : Below wr.heap.size wr w' := hz.bel.trans ((Below.refl wr.heap.size wz).grown q2 hv2.2 fun k hk => (World.ownsRow.lt hv2.1 k hk).1)
          have HTWR := Lib.hid q1.isRow
          have HE2 := Lib.hid (HE.out.later hbz)
          have hTlen : T.length < 1073741824 := by rw [HTL.out]; exact hcl
          have hTlen2 : (l ++ [x]).length < 1073741824 := by rw [List.length_append]; simp; omega
          have hpl : (partsL l).length < 268435456 := by rw [parts_length]; have := heads_le l; omega
          have hpl2 : (partsL l).length < 1073741824 := by omega
          clear q1 q2 hbz hz hv2 hbk
          go_simp
          go_wp2_with fail
          refine (parts_row T _ _ HE2.out.r HE2.out.s.deb hTlen).mono ?_
          rintro e w5 ⟨v5, rfl, hv5, hb5⟩
          rw [HTP.out] at hv5
          have HE3 := Lib.hid (HE2.out.later hb5)
          have HT3 := Lib.hid (IsRow.later _ _ _ _ HTWR.out hb5)
          clear hb5
          go_wp2_with fail
          refine (same_row (partsL l) (partsL l) _ _ _ hv5 ⟨C, cC, rfl, HE3.out.s.prow⟩ hpl2 hpl2).mono ?_
          rintro e w6 ⟨rfl, hb6⟩
          rw [beq_self_eq_true]
          have HE4 := Lib.hid (HE3.out.later hb6)
          have HT4 := Lib.hid (IsRow.later _ _ _ _ HT3.out hb6)
          clear hb6 hv5
          go_wp2_with fail
          refine (parts_row (l ++ [x]) _ _ HT4.out HE4.out.s.deb hTlen2).mono ?_
          rintro e w7 ⟨v7, rfl, hv7, hb7⟩
          rw [HTW.out] at hv7
          have HE5 := Lib.hid (HE4.out.later hb7)
          clear hb7
          go_wp2_with fail
          refine (same_row (partsL l) (partsL l) _ _ _ hv7 ⟨C, cC, rfl, HE5.out.s.prow⟩ hpl2 hpl2).mono ?_
          rintro e w8 ⟨rfl, hb8⟩
          rw [beq_self_eq_true]
          have HE6 := Lib.hid (HE5.out.later hb8)
          have g1 := F1.out _ HE6.out.s.row
          unfold At at g1
          clear hb8 hv7
          go_wp2_with fail
          refine (refine_any (partsL l) C cC x _ HE6.out.s.prow HE6.out.s.deb hpl).mono ?_
          rintro e w9 ⟨v9, rfl, hv9, hb9⟩
          rw [HRS.out] at hv9
          have HE7 := Lib.hid (HE6.out.later hb9)
          clear hb9 g1
          go_wp2_with fail
          refine (same_row (partsL l) (partsL l) _ _ _ hv9 ⟨C, cC, rfl, HE7.out.s.prow⟩ hpl2 hpl2).mono ?_
          rintro e w10 ⟨rfl, hb10⟩
          rw [beq_self_eq_true]
          have HF := Lib.hid ((HE7.out.later hb10).s.below)
          clear hb10 hv9
          go_wp2
          go_ret
          exact ⟨rfl, HF.out⟩
end Go.Proofs.YtjopngcjahdodaaDoor
