/- The document's refined parts of layer 2: what each class is cut into, least byte by least byte. -/
import Derived.Test.YtjopngcjahdodaaDoorSplitAwake
namespace Go.Proofs.YtjopngcjahdodaaDoor
open Go Go.RowKit
set_option linter.unusedVariables false

def pairsL (P : List (BitVec 256)) (a : BitVec 256) : List (BitVec 256) := P.flatMap fun p => [p &&& a, p &&& ~~~a]
theorem pairs_snoc (P : List (BitVec 256)) (p a : BitVec 256) : pairsL (P ++ [p]) a = pairsL P a ++ [p &&& a] ++ [p &&& ~~~a] := by unfold pairsL; rw [List.flatMap_append]; simp
theorem pairs_len (a : BitVec 256) : ∀ P, (pairsL P a).length = 2 * P.length
  | [] => rfl
  | p :: P => by
    have := pairs_len a P
    unfold pairsL at this ⊢
    rw [List.flatMap_cons, List.length_append, this]; simp; omega
theorem pairs_pieces (P : List (BitVec 256)) (a : BitVec 256) : piecesL P a = (pairsL P a).filter fun x => !(x == 0#256) := by
  unfold piecesL pairsL; rw [List.filter_flatMap]
def hitB (c : Nat) (s : BitVec 256) : Bool := !(s == 0#256) && lstB s == c
def outTo (L : List (BitVec 256)) (c : Nat) : List (BitVec 256) := (List.range c).flatMap fun c => L.filter (hitB c)
def outIn (L : List (BitVec 256)) (c i : Nat) : List (BitVec 256) := outTo L c ++ (L.take i).filter (hitB c)
theorem out_all (P : List (BitVec 256)) (a : BitVec 256) : outTo (pairsL P a) 256 = refineL P a := by
  unfold outTo refineL bucket
  refine flatMap_same _ fun c _ => ?_
  rw [pairs_pieces, List.filter_filter]
  congr 1; funext s; unfold hitB; rw [Bool.and_comm]
theorem out_zero (L : List (BitVec 256)) (c : Nat) : outIn L c 0 = outTo L c := by unfold outIn; simp
theorem out_row (L : List (BitVec 256)) (c : Nat) : outIn L c L.length = outTo L (c + 1) := by
  unfold outIn outTo; rw [List.take_length, List.range_succ, List.flatMap_append]; simp
theorem out_yes {L : List (BitVec 256)} {c i : Nat} (hi : i < L.length) (h : hitB c (L.getD i 0) = true) : outIn L c (i + 1) = outIn L c i ++ [L.getD i 0] := by
  have hg : L.getD i 0 = L[i] := by simp [hi]
  unfold outIn
  rw [List.take_succ_eq_append_getElem hi, List.filter_append, ← hg]
  generalize L.getD i 0 = s at *
  simp [h]
theorem out_no {L : List (BitVec 256)} {c i : Nat} (hi : i < L.length) (h : hitB c (L.getD i 0) = false) : outIn L c (i + 1) = outIn L c i := by
  have hg : L.getD i 0 = L[i] := by simp [hi]
  unfold outIn
  rw [List.take_succ_eq_append_getElem hi, List.filter_append, ← hg]
  generalize L.getD i 0 = s at *
  simp [h]
theorem outTo_len (L : List (BitVec 256)) : ∀ c, (outTo L c).length ≤ c * L.length
  | 0 => by unfold outTo; simp
  | c + 1 => by
    have ih := outTo_len L c
    unfold outTo at ih ⊢
    rw [List.range_succ, List.flatMap_append, List.length_append]
    have := List.length_filter_le (hitB c) L
    simp only [List.flatMap_cons, List.flatMap_nil, List.append_nil]
    rw [Nat.add_mul, Nat.one_mul]; omega
theorem outIn_len (L : List (BitVec 256)) (c i : Nat) (hc : c ≤ 256) : (outIn L c i).length ≤ 257 * L.length := by
  unfold outIn
  rw [List.length_append]
  have h1 := outTo_len L c
  have h2 := List.length_filter_le (hitB c) (L.take i)
  have h3 := List.length_take_le i L
  have h4 : (L.take i).length ≤ L.length := by rw [List.length_take]; omega
  have h5 := Nat.mul_le_mul_right L.length hc
  omega

structure RR (A : Option Addr) (P : List (BitVec 256)) (a : BitVec 256) (ba : Nat) (wB : World) (cur : List (BitVec 256)) (v : Value) (w : World) : Prop where
  own : OwnC w wB.heap.size v cur
  below : Below wB.heap.size wB w
  row : LRow w A P
  box : Blk w ba (cells4 a) 25
theorem RR.later {A : Option Addr} {P cur : List (BitVec 256)} {a : BitVec 256} {ba : Nat} {wB w w' : World} {v : Value} (h : RR A P a ba wB cur v w) (hb : Below w.heap.size w w') : RR A P a ba wB cur v w' :=
  ⟨h.own.later hb, h.below.trans (hb.mono h.below.size), h.row.later hb, h.box.later hb⟩
def RRL (A : Option Addr) (P : List (BitVec 256)) (a : BitVec 256) (ba : Nat) (wB : World) (v i : Value) (w : World) : Prop := ∃ k : Nat, k ≤ P.length ∧ i = .int .i64 k ∧ OwnC w wB.heap.size v (pairsL (P.take k) a) ∧ Below wB.heap.size wB w
def RRO (L : List (BitVec 256)) (wL : World) (v c : Value) (w : World) : Prop := ∃ k : Nat, k ≤ 256 ∧ c = .int .i64 k ∧ OwnC w wL.heap.size v (outTo L k) ∧ Below wL.heap.size wL w
def RRI (L : List (BitVec 256)) (wL : World) (c : Nat) (v i : Value) (w : World) : Prop := ∃ j : Nat, j ≤ L.length ∧ i = .int .i64 j ∧ OwnC w wL.heap.size v (outIn L c j) ∧ Below wL.heap.size wL w
/-- Behind an append to the row. -/
theorem RR.app {A : Option Addr} {P cur : List (BitVec 256)} {a : BitVec 256} {ba : Nat} {wB w w' : World} {v v' : Value} {t : BitVec 256} (HW : LRow wB A P) (HBx : Blk wB ba (cells4 a) 25) (h : RR A P a ba wB cur v w) (ho : OwnC w' wB.heap.size v' (cur ++ [t])) (hg : w.grownBy w' v.ownBlock) : RR A P a ba wB (cur ++ [t]) v' w' :=
  have hb : Below wB.heap.size wB w' := h.below.grown hg h.below.size fun k hk => (World.ownsRow.lt h.own k hk).1
  ⟨ho, hb, HW.later hb, HBx.later hb⟩

set_option maxRecDepth 1000000 in
set_option maxHeartbeats 16000000 in
theorem refrefine_any (P : List (BitVec 256)) (A : Option Addr) (cap : Nat) (a : BitVec 256) (w : World) (hr : LRow w A P) (hl : P.length < 1048576) :
    Calls Tryd.prog 17 #[.slice A P.length cap, cls a] w (AnsRow w (refineL P a)) := by
  have hlz : (P.length : Int) < 1048576 := by omega
  have HW : Hid (LRow (w.alloc (.cells (cells4 a) 25)) A P) := hr.later ((Below.refl _ _).alloc (Nat.le_refl _) _)
  have HBx : Hid (Blk (w.alloc (.cells (cells4 a) 25)) w.heap.size (cells4 a) 25) := Blk.new _ _ _
  have HBw : Hid (Below w.heap.size w (w.alloc (.cells (cells4 a) 25))) := (Below.refl _ _).alloc (Nat.le_refl _) _
  clear hr
  unfold cls
  go_enter Tryd.func17, Tryd.ntmps17
  go_wp2
  obtain ⟨ba, hba⟩ : ∃ ba, w.heap.size = ba := ⟨_, rfl⟩
  rw [hba] at HBx
  simp only [hba]
  have HBA := Lib.hid hba
  clear hba
  go_loopw [5, 6] (RRL A P a ba (w.alloc (.cells (cells4 a) 25))) (fun _ i _ => P.length - (intOf i).toNat)
  case atStart => exact ⟨0, Nat.zero_le _, rfl, OwnC.nil _ _, Below.refl _ _⟩
  case round =>
    obtain ⟨k, hk, rfl, ho, hb⟩ := hrel
    generalize w.alloc (.cells (cells4 a) 25) = wB at *
    have HR : Hid (RR A P a ba wB (pairsL (P.take k) a) u5 wr) := ⟨ho, hb, HW.out.later hb, HBx.out.later hb⟩
    have hpl := pairs_len a (P.take k)
    rw [List.length_take] at hpl
    by_cases hlt : k < P.length
    · have hltz : (k : Int) < (P.length : Int) := by omega
      obtain ⟨b1, o1, hA, -⟩ := HR.out.row.cells k hlt
      subst hA
      have f1 : ∀ w, LRow w (some ⟨b1, o1, none⟩) P → At w b1 (o1 + k * 4) (P.getD k 0) := fun w h => h.at k _ hlt rfl
      have F1 := Lib.hid f1
      have HT : Hid (pairsL (P.take (k + 1)) a = pairsL (P.take k) a ++ [P.getD k 0 &&& a] ++ [P.getD k 0 &&& ~~~a]) := by
        have hg : P.getD k 0 = P[k] := by simp [hlt]
        unfold Hid; rw [List.take_succ_eq_append_getElem hlt, pairs_snoc, ← hg]
      clear f1 ho hb
      generalize P.getD k 0 = p at *
      generalize pairsL (P.take k) a = cur at *
      have hcl : cur.length < 1073741824 := by omega
      have hcl2 : (cur ++ [p &&& a]).length < 1073741824 := by rw [List.length_append]; simp; omega
      go_upto_region 5 with (fail)
      refine wp_region_stable_two (S := (RR (some ⟨b1, o1, none⟩) P a ba wB cur u5)) (hSt := fun _ _ h hb => h.later hb) (plan := [[(5, none)], [(0, none)], [(6, none)], [(19, some 1), (20, some 2)], [(21, some 3)], [(3, none)], [(22, some 4), (23, some 5)], [(24, some 6)]]) rfl rfl (by kernel_rfl) (by kernel_rfl) (by kernel_rfl) (by kernel_rfl) ?hS ?_
      rotate_left
      simp only [List.dropLast]
      iterate 7 first
        | (refine chain_skip (by rfl) (by rfl) ?_)
        | (apply chain_want (by rfl)
           · intro act wx hS hr
             simp at hr
             have h1 := F1.out _ hS.row
             unfold At at h1
             have h2 := hS.box.cells
             go_simp
             (try go_ints)
             first
               | exact Done.same (v := cls _)
               | ((with_reducible refine (refboth_any _ _ _).mono ?_); rintro e w' ⟨rfl, hb⟩; exact Done.mk hb)
               | exact Done.same
          )
      (refine chain_rel (NewC (p &&& a)) (NewC.later _) (by rfl) ?_ ?_
       · intro act wx hS hr
         simp at hr
         have h1 := F1.out _ hS.row
         unfold At at h1
         have h2 := hS.box.cells
         go_simp
         exact Done.rel ((Below.refl _ _).alloc (Nat.le_refl _) _) (NewC.new _ _)
      )
      show ∀ w', _ → _
      intro wz hz
      simp [Act.put]
      case hS => exact HR.out
      intro v hv
      obtain ⟨bn, rfl, hbk⟩ := hv
      refine wp_append_cls _ _ rfl wB.heap.size u5 cur rfl hz.own bn (p &&& a) rfl hbk hcl hz.below.size ?_
      intro v1 w1 q1 q2 _ _
      have HR1 := Lib.hid (RR.app HW.out HBx.out hz q1 q2)
      clear q1 q2 hz hbk HR
      go_simp
      go_upto_region 6 with (fail)
      refine wp_region_stable_two (S := (RR (some ⟨b1, o1, none⟩) P a ba wB (cur ++ [p &&& a]) v1)) (hSt := fun _ _ h hb => h.later hb) (plan := [[(5, none)], [(0, none)], [(6, none)], [(28, some 1), (29, some 2)], [(30, some 3)], [(3, none)], [(32, some 5)], [(31, some 4), (33, some 6)], [(34, some 7)]]) rfl rfl (by kernel_rfl) (by kernel_rfl) (by kernel_rfl) (by kernel_rfl) ?hS ?_
      rotate_left
      simp only [List.dropLast]
      iterate 8 first
        | (refine chain_skip (by rfl) (by rfl) ?_)
        | (apply chain_want (by rfl)
           · intro act wx hS hr
             simp at hr
             have h1 := F1.out _ hS.row
             unfold At at h1
             have h2 := hS.box.cells
             go_simp
             (try go_ints)
             first
               | exact Done.same (v := cls _)
               | ((with_reducible refine (refnot_any _ _).mono ?_); rintro e w' ⟨rfl, hb⟩; exact Done.mk hb)
               | ((with_reducible refine (refboth_any _ _ _).mono ?_); rintro e w' ⟨rfl, hb⟩; exact Done.mk hb)
               | exact Done.same
          )
      (refine chain_rel (NewC (p &&& ~~~a)) (NewC.later _) (by rfl) ?_ ?_
       · intro act wx hS hr
         simp at hr
         have h1 := F1.out _ hS.row
         unfold At at h1
         have h2 := hS.box.cells
         go_simp
         exact Done.rel ((Below.refl _ _).alloc (Nat.le_refl _) _) (NewC.new _ _)
      )
      show ∀ w', _ → _
      intro wz hz
      simp [Act.put]
      case hS => exact HR1.out
      intro v hv
      obtain ⟨bn, rfl, hbk⟩ := hv
      refine wp_append_cls _ _ rfl wB.heap.size v1 (cur ++ [p &&& a]) rfl hz.own bn (p &&& ~~~a) rfl hbk hcl2 hz.below.size ?_
      intro v2 w2 q1 q2 _ _
      have HR2 := Lib.hid (RR.app HW.out HBx.out hz q1 q2)
      have HQ : Hid (RRL (some ⟨b1, o1, none⟩) P a ba wB v2 (.int .i64 ((k + 1 : Nat) : Int)) w2) := ⟨k + 1, by omega, rfl, by rw [HT.out]; exact HR2.out.own, HR2.out.below⟩
      clear q1 q2 hz hbk HR1
      go_simp
      go_wp2
      go_roundw
      case rel => first | exact HQ.out | ((repeat apply Exists.intro); exact ⟨HQ.out, rfl⟩)
      case measure => simp [intOf]; omega
    · obtain rfl : k = P.length := by omega
      rw [List.take_length] at ho hpl
      have HOA := Lib.hid (out_all P a)
      obtain ⟨aL, cL, hvL, hrL⟩ := ho.isRow
      have HBL : Hid (Below w.heap.size w wr) := HBw.out.trans (hb.mono HBw.out.size)
      have hLl : (pairsL P a).length < 2097152 := by omega
      have HRL := Lib.hid hrL
      subst hvL
      clear ho hb hrL HR hpl
      generalize pairsL P a = L at *
      generalize hwr : wr = wL at *
      clear hwr
      go_wp2
      go_loopw [7, 8] (RRO L wL) (fun _ c _ => 256 - (intOf c).toNat)
      case atStart => exact ⟨0, by omega, rfl, OwnC.nil _ _, Below.refl _ _⟩
      case round =>
        obtain ⟨c, hc, rfl, ho, hb⟩ := hrel
        have HO := Lib.hid ho
        have HB := Lib.hid hb
        by_cases hc2 : c < 256
        · have hcz : (c : Int) < 256 := by omega
          have hc0 : (0 : Int) ≤ (c : Int) := by omega
          have hc1 : (c : Int) ≤ 255 := by omega
          clear ho hb
          go_wp2
          go_loopw [7, 9] (fun v i w2 => RRI L wL c v i w2) (fun _ i _ => L.length - (intOf i).toNat)
          case atStart => exact ⟨0, Nat.zero_le _, rfl, by rw [out_zero]; exact HO.out, HB.out⟩
          case round =>
            obtain ⟨j, hj, rfl, ho, hb⟩ := hrel
            have HO2 := Lib.hid ho
            have HB2 := Lib.hid hb
            have hsB := hb.size
            have hol := outIn_len L c j hc
            have hlen3 : (outIn L c j).length < 1073741824 := by omega
            by_cases hjl : j < L.length
            · have hjz : (j : Int) < (L.length : Int) := by omega
              have hrow := HRL.out.later hb
              obtain ⟨b1, o1, hA, -⟩ := hrow.cells j hjl
              subst hA
              have f1 : ∀ w, LRow w (some ⟨b1, o1, none⟩) L → At w b1 (o1 + j * 4) (L.getD j 0) := fun w h => h.at j _ hjl rfl
              have F1 := Lib.hid f1
              have HY := Lib.hid (out_yes (c := c) hjl)
              have HN := Lib.hid (out_no (c := c) hjl)
              have g1 := f1 _ hrow
              unfold At at g1
              have HROW := Lib.hid hrow
              clear ho hb hrow f1
              generalize L.getD j 0 = s at *
              rcases least_or s with hs0 | ⟨n, hn⟩
              · have hit : hitB c s = false := by unfold hitB; rw [hs0]; simp
                have HE := Lib.hid (HN.out hit)
                have HLS : Hid (∀ w, Calls Tryd.prog 20 #[cls s] w (Ans w (.tuple #[.int .u8 ((0 : Nat) : Int), .bool false]))) := fun w => refleast_any s 0 false (.inr ⟨rfl, rfl, hs0⟩) w
                clear hit HY HN hs0
                go_wp2_with fail
                refine (HLS.out _).mono ?_
                rintro e w3 ⟨rfl, hb3⟩
                have HQ : Hid (RRI L wL c u7 (.int .i64 ((j + 1 : Nat) : Int)) w3) := ⟨j + 1, by omega, rfl, by rw [HE.out]; exact HO2.out.later hb3, HB2.out.trans (hb3.mono hsB)⟩
                clear hb3 g1
                go_wp2
                go_roundw
                case rel => first | exact HQ.out | ((repeat apply Exists.intro); exact ⟨HQ.out, rfl⟩)
                case measure => simp [intOf]; omega
              · have hlt256 := hn.lt
                have HLS : Hid (∀ w, Calls Tryd.prog 20 #[cls s] w (Ans w (.tuple #[.int .u8 (n : Int), .bool true]))) := fun w => refleast_any s n true (.inl ⟨rfl, hn⟩) w
                have hnz : (s == 0#256) = false := by rw [beq_eq_false_iff_ne]; exact nonzero_of hn.has
                have hlb := lstB_of hn
                have hn0 : (0 : Int) ≤ (n : Int) := by omega
                have hn1 : (n : Int) ≤ 255 := by omega
                by_cases hnc : n = c
                · have hit : hitB c s = true := by unfold hitB; rw [hnz, hlb, hnc]; simp
                  have HE := Lib.hid (HY.out hit)
                  have hnb : ((n : Int) == (c : Int)) = true := by rw [beq_iff_eq]; omega
                  clear hit HY HN hnz hlb hn
                  go_wp2_with fail
                  refine (HLS.out _).mono ?_
                  rintro e w3 ⟨rfl, hb3⟩
                  have g3 := F1.out _ (HROW.out.later hb3)
                  unfold At at g3
                  have HO3 := Lib.hid ((HO2.out.later hb3).later ((Below.refl _ _).alloc (Nat.le_refl _) (.cells (cells4 s) 25)))
                  have HB3 := Lib.hid ((HB2.out.trans (hb3.mono hsB)).alloc (Nat.le_trans hsB hb3.size) (.cells (cells4 s) 25))
                  have HBK := Lib.hid (Blk.new w3 (cells4 s) 25)
                  have hBs : wL.heap.size ≤ (w3.alloc (.cells (cells4 s) 25)).heap.size := by have := hb3.size; simp; omega
                  clear hb3 g1
                  unfold cells4 at HO3 HB3 HBK hBs
                  go_wp2_with (at_builtin; refine wpList_append_cls rfl _ _ rfl wL.heap.size u7 (outIn L c j) rfl HO3.out w3.heap.size s rfl HBK.out hlen3 hBs ?_; intro v' w7 ho7 hb7)
                  have HQ : Hid (RRI L wL c v' (.int .i64 ((j + 1 : Nat) : Int)) w7) := ⟨j + 1, by omega, rfl, by rw [HE.out]; exact ho7, HB3.out.trans (hb7 _ (Nat.le_refl _))⟩
                  clear ho7 hb7
                  go_wp2
                  go_roundw
                  case rel => first | exact HQ.out | ((repeat apply Exists.intro); exact ⟨HQ.out, rfl⟩)
                  case measure => simp [intOf]; omega
                · have hit : hitB c s = false := by unfold hitB; rw [hnz, hlb, beq_eq_false_iff_ne.2 hnc]; simp
                  have HE := Lib.hid (HN.out hit)
                  have hnb : ((n : Int) == (c : Int)) = false := by rw [beq_eq_false_iff_ne]; omega
                  clear hit HY HN hnz hlb hn
                  go_wp2_with fail
                  refine (HLS.out _).mono ?_
                  rintro e w3 ⟨rfl, hb3⟩
                  have HQ : Hid (RRI L wL c u7 (.int .i64 ((j + 1 : Nat) : Int)) w3) := ⟨j + 1, by omega, rfl, by rw [HE.out]; exact HO2.out.later hb3, HB2.out.trans (hb3.mono hsB)⟩
                  clear hb3 g1
                  go_wp2
                  go_roundw
                  case rel => first | exact HQ.out | ((repeat apply Exists.intro); exact ⟨HQ.out, rfl⟩)
                  case measure => simp [intOf]; omega
            · obtain rfl : j = L.length := by omega
              have HQ : Hid (RRO L wL u7 (.int .i64 ((c + 1 : Nat) : Int)) wr) := ⟨c + 1, by omega, rfl, by rw [← out_row]; exact ho, hb⟩
              clear ho hb
              go_wp2
              go_roundw
              case rel => first | exact HQ.out | ((repeat apply Exists.intro); exact ⟨HQ.out, rfl⟩)
              case measure => simp [intOf]; omega
        · obtain rfl : c = 256 := by omega
          rw [HOA.out] at ho
          have HQ : Hid (IsRow (refineL P a) u7 wr ∧ Below w.heap.size w wr) := ⟨ho.isRow, HBL.out.trans (hb.mono HBL.out.size)⟩
          clear ho hb HO HB
          go_wp2
          go_returns
          exact ⟨_, rfl, HQ.out⟩
end Go.Proofs.YtjopngcjahdodaaDoor
