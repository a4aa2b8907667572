/- The contracts of the document's answers for layer 1 (package scantlingref01). -/
import Derived.Test.YtcgjmnhmhiddkaaGreatDoorM03
import Derived.Test.YtcgjmnhmhiddkaaGreatDoorM06
import Derived.Test.YtcgjmnhmhiddkaaGreatDoorM05
import Derived.Laws.AppendOwn
import Derived.Laws.StructEq
namespace Go.Proofs.YtcgjmnhmhiddkaaGreatDoor
open Go Go.RowKit
set_option linter.unusedVariables false
theorem half (x k : Nat) : x / 2 ^ (k + 1) = x / 2 ^ k / 2 := by rw [Nat.pow_succ, Nat.div_div_eq_div_mul]
theorem ref_bit (s : BitVec 256) (i r : Nat) (hr : r < 64) : ((wd s i / 2 ^ r % 2 : Nat) == 1) = s.getLsbD (64 * i + r) := by
  have hb := wd_bit s i r
  rw [Nat.testBit_eq_decide_div_mod_eq] at hb
  simp only [hr, decide_true, Bool.true_and] at hb
  rw [← hb]
  rcases (by omega : wd s i / 2 ^ r % 2 = 0 ∨ wd s i / 2 ^ r % 2 = 1) with h | h <;> simp [h]
set_option maxHeartbeats 2000000 in
theorem refhas_walk (a0 a1 a2 a3 c : Nat) (l0 : a0 < 18446744073709551616) (l1 : a1 < 18446744073709551616) (l2 : a2 < 18446744073709551616) (l3 : a3 < 18446744073709551616) (x : Bool) (w : World) (hc : c < 256)
    (h : ∃ y : Nat, (((c : Int) / 64 = 0 ∧ y = a0) ∨ ((c : Int) / 64 = 1 ∧ y = a1) ∨ ((c : Int) / 64 = 2 ∧ y = a2) ∨ ((c : Int) / 64 = 3 ∧ y = a3)) ∧ ((y / 2 ^ (c % 64) % 2 : Nat) == 1) = x) :
    Calls Tryz.prog 142 #[.agg #[.int .u64 a0, .int .u64 a1, .int .u64 a2, .int .u64 a3], .int .u8 (c : Int)] w (Ans w (.bool x)) := by
  have c0 : (0 : Int) ≤ (c : Int) := by omega
  have c1 : (c : Int) ≤ 255 := by omega
  obtain ⟨y, hy, hx⟩ := h
  have hyl : y < 18446744073709551616 := by omega
  have HX := Lib.hid hx
  clear hx
  have hm0 : (0 : Int) ≤ (c : Int) % 64 := by omega
  have hm1 : (c : Int) % 64 ≤ 63 := by omega
  rcases hy with ⟨hq, rfl⟩ | ⟨hq, rfl⟩ | ⟨hq, rfl⟩ | ⟨hq, rfl⟩
  all_goals
    go_enter Tryz.func142, Tryz.ntmps142
    go_wp2
    go_loop [5, 6] (fun v i => ∃ k : Nat, k ≤ c % 64 ∧ i = .int .i64 k ∧ v = .int .u64 ((y / 2 ^ k : Nat) : Int)) (fun _ i => c % 64 - (intOf i).toNat)
    case atStart => exact ⟨0, by omega, rfl, by simp⟩
    case round =>
      obtain ⟨k, hk, rfl, rfl⟩ := hrel
      have HH := Lib.hid (half y k)
      have hd : y / 2 ^ k < 18446744073709551616 := Nat.lt_of_le_of_lt (Nat.div_le_self _ _) hyl
      by_cases hlt : k < c % 64
      · have hlt2 : (k : Int) < (c : Int) % 64 := by omega
        generalize y / 2 ^ k = z at *
        go_wp2
        go_round
        case rel => exact ⟨k + 1, by omega, by go_num, by rw [HH.out]; go_num⟩
        case measure => simp [intOf]; omega
      · have hlt2 : ¬ (k : Int) < (c : Int) % 64 := by omega
        have hke : k = c % 64 := by omega
        have hz := HX.out
        rw [← hke] at hz
        generalize y / 2 ^ k = z at *
        have HZ := Lib.hid hz
        clear hz
        go_wp2
        go_ret
        refine ⟨?_, by go_grown⟩
        rw [← HZ.out]
        refine congrArg (fun b => Ending.returned (Value.bool b)) ?_
        rw [Bool.eq_iff_iff, beq_iff_eq, beq_iff_eq]; omega
theorem refhas_any (s : BitVec 256) (c : Nat) (hc : c < 256) (w : World) :
    Calls Tryz.prog 142 #[cls s, .int .u8 (c : Int)] w (Ans w (.bool (s.getLsbD c))) := by
  have key : ∀ i, c / 64 = i → ((wd s i / 2 ^ (c % 64) % 2 : Nat) == 1) = s.getLsbD c := fun i hi => by
    rw [ref_bit s i (c % 64) (by omega)]; congr 1; omega
  refine refhas_walk _ _ _ _ c (wd_lt _ _) (wd_lt _ _) (wd_lt _ _) (wd_lt _ _) _ w hc ?_
  rcases (by omega : c / 64 = 0 ∨ c / 64 = 1 ∨ c / 64 = 2 ∨ c / 64 = 3) with h | h | h | h
  · exact ⟨_, .inl ⟨by omega, rfl⟩, key 0 h⟩
  · exact ⟨_, .inr (.inl ⟨by omega, rfl⟩), key 1 h⟩
  · exact ⟨_, .inr (.inr (.inl ⟨by omega, rfl⟩)), key 2 h⟩
  · exact ⟨_, .inr (.inr (.inr ⟨by omega, rfl⟩)), key 3 h⟩
def boolsV (f : Nat → Bool) (n : Nat) : List Value := (List.range n).map fun i => Value.bool (f i)
theorem boolsV_succ (f : Nat → Bool) (n : Nat) : boolsV f (n + 1) = boolsV f n ++ [.bool (f n)] := by
  unfold boolsV; rw [List.range_succ, List.map_append]; rfl
theorem ownsRow_below {w w' : World} {base : Nat} {e : TypeId} {size : Nat} {v : Value} {n : Nat} {xs : List Value} {B : Nat} (h : w.ownsRow base e size v n xs) (hb : Below B w w') (hlt : ∀ g cap, v = .slice (some ⟨g, 0, none⟩) n cap → g < B) : w'.ownsRow base e size v n xs := by
  obtain ⟨h1, h2⟩ := h
  refine ⟨h1, ?_⟩
  rcases h2 with h2 | ⟨g, cap, cur, rfl, hg, hh, r⟩
  · exact .inl h2
  · exact .inr ⟨g, cap, cur, rfl, hg, (hb.block g (hlt g cap rfl)).trans hh, r⟩
theorem ownsRow_lt {w : World} {base : Nat} {e : TypeId} {size : Nat} {v : Value} {n : Nat} {xs : List Value} (h : w.ownsRow base e size v n xs) : ∀ g cap, v = .slice (some ⟨g, 0, none⟩) n cap → g < w.heap.size := by
  intro g cap hv
  rcases h.2 with ⟨rfl, _⟩ | ⟨g', cap', cur, rfl, _, hh, _⟩
  · cases hv
  · cases hv
    rcases Nat.lt_or_ge g w.heap.size with l | l
    · exact l
    · rw [Array.getElem?_eq_none l] at hh; cases hh
theorem ownsRow_later {w w' : World} {base : Nat} {e : TypeId} {size : Nat} {v : Value} {n : Nat} {xs : List Value} (h : w.ownsRow base e size v n xs) (hb : Below w.heap.size w w') : w'.ownsRow base e size v n xs :=
  ownsRow_below h hb (ownsRow_lt h)
theorem ownsRow_base {w : World} {base : Nat} {e : TypeId} {size : Nat} {v : Value} {n : Nat} {xs : List Value} (h : w.ownsRow base e size v n xs) : ∀ k, v.ownBlock = some k → base ≤ k := by
  intro k hk
  rcases h.2 with ⟨rfl, _⟩ | ⟨g', cap', cur, rfl, hb, _⟩
  · cases hk
  · cases hk; exact hb
theorem infoBool : (Tryz.prog.info? 4).map (fun i => (i.zero, i.size, i.bytes)) = some (some (.bool false), 1, 1) := by kernel_rfl
set_option maxRecDepth 100000 in
set_option maxHeartbeats 4000000 in
theorem reflist_any (s : BitVec 256) (w : World) :
    Calls Tryz.prog 120 #[cls s] w fun e w' => ∃ v, e = .returned v ∧ w'.ownsRow (w.heap.size + 1) 4 1 v 256 (boolsV (fun i => s.getLsbD i) 256) ∧ Below w.heap.size w w' := by
  obtain ⟨ib, hib, hz0, hz1, hz2⟩ := info_parts infoBool
  unfold cls
  go_enter Tryz.func120, Tryz.ntmps120
  go_wp2
  go_loopw [3, 4] (fun v i wr => ∃ k : Nat, k ≤ 256 ∧ i = .int .i64 k ∧ wr.ownsRow (w.heap.size + 1) 4 1 v k (boolsV (fun i => s.getLsbD i) k) ∧ Below (w.heap.size + 1) (w.alloc (.cells (cells4 s) 42)) wr) (fun _ i _ => 256 - (intOf i).toNat)
  case atStart => exact ⟨0, by omega, rfl, ⟨by simp [boolsV], .inl ⟨rfl, rfl⟩⟩, Below.refl _ _⟩
  case round =>
    obtain ⟨k, hk, rfl, hown, hbel⟩ := hrel
    have HB : Blk wr w.heap.size (cells4 s) 42 := (Blk.new w _ _).below hbel (by omega)
    have hsz : w.heap.size + 1 ≤ wr.heap.size := by have := hbel.size; simpa using this
    by_cases hlt : k < 256
    · have HBS := Lib.hid (boolsV_succ (fun i => s.getLsbD i) k)
      have k0 : (0 : Int) ≤ (k : Int) := by omega
      have k1 : (k : Int) ≤ 255 := by omega
      have g := HB.cells
      go_wp2_with fail
      refine (refhas_any s k hlt _).mono ?_; rintro e w1 ⟨rfl, hb1⟩
      have hown1 := (ownsRow_later hown hb1)
      have hown2 := ownsRow_later hown1 ((Below.refl _ w1).alloc (Nat.le_refl _) (.cells #[.bool (s.getLsbD k)] 4))
      have hs1 : w.heap.size + 1 ≤ w1.heap.size := Nat.le_trans hsz hb1.size
      have HBL : Hid (Below (w.heap.size + 1) (w.alloc (.cells (cells4 s) 42)) (w1.alloc (.cells #[.bool (s.getLsbD k)] 4))) :=
        (hbel.trans (hb1.mono hsz)).alloc hs1 _
      have HO := Lib.hid hown2
      have HBK := Blk.new w1 #[.bool (s.getLsbD k)] 4
      have HBC := HBK.cell 0
      clear g hown hown1 hown2 hbel hb1 HB HBC
      generalize s.getLsbD k = x at *
      have hnews : ∀ (j : Nat) (u : Value), [Value.bool x][j]? = some u → (w1.alloc (.cells #[.bool x] 4)).cell? ((⟨w1.heap.size, 0, none⟩ : Addr).add j) = some u := by
        intro j u hu
        cases j with
        | zero => simp at hu; subst hu; exact HBK.cell 0
        | succ j => simp at hu
      have HNW := Lib.hid hnews
      clear hnews
      go_wp2_with (at_builtin; refine wpList_append_own _ rfl _ _ 90 rfl (w.heap.size + 1) 4 ib (.bool false) 1 1 Tryz.underlying90 hib hz0 hz1 hz2 rfl (by decide) _ _ _ rfl HO.out ⟨w1.heap.size, 0, none⟩ 1 1 [.bool x] rfl rfl HNW.out (by simp [Value.oneCell']) (by unfold maxLen; omega) (by omega) (by simp; omega) ?_; intro v' w3 hown' hgrow3 hnil3)
      have hb3 := HBL.out.grown hgrow3 (by simp; omega) (fun g hg => ownsRow_base HO.out g hg)
      go_roundw
      case rel => exact ⟨k + 1, by omega, by go_num, by rw [HBS.out]; exact hown', hb3⟩
      case measure => simp [intOf]; omega
    · have hke : k = 256 := by omega
      subst hke
      have HO := Lib.hid hown
      clear hown
      go_wp2
      go_ret
      exact ⟨_, rfl, HO.out, ((Below.refl _ _).alloc (Nat.le_refl _) _).trans (hbel.mono (by omega))⟩
def BoolRow (w : World) (v : Value) (s : BitVec 256) : Prop :=
  ∃ b cap, v = .slice (some ⟨b, 0, none⟩) 256 cap ∧ b < w.heap.size ∧ ∀ i, i < 256 → w.cell? ⟨b, i, none⟩ = some (.bool (s.getLsbD i))
theorem part_succ (s : BitVec 256) (k j : Nat) (hj : j < 64) : wd s k % 2 ^ (j + 1) = if s.getLsbD (64 * k + j) then wd s k % 2 ^ j + 2 ^ j else wd s k % 2 ^ j := by
  have hb := wd_bit s k j
  simp only [hj, decide_true, Bool.true_and] at hb
  rw [Nat.mod_pow_succ, ← hb, Nat.testBit_eq_decide_div_mod_eq]
  rcases (by omega : wd s k / 2 ^ j % 2 = 0 ∨ wd s k / 2 ^ j % 2 = 1) with h | h <;> simp [h]
theorem pow_wrap (j : Nat) (hj : j < 64) : 2 ^ j % 18446744073709551616 = 2 ^ j ∧ 2 ^ (j + 1) % 18446744073709551616 = (2 ^ j * 2) % 18446744073709551616 ∧ 2 ^ j ≤ 9223372036854775808 := by
  have h1 : 2 ^ j ≤ 2 ^ 63 := Nat.pow_le_pow_right (by omega) (by omega)
  rw [show (2 : Nat) ^ 63 = 9223372036854775808 from rfl] at h1
  refine ⟨Nat.mod_eq_of_lt (by omega), by rw [Nat.pow_succ], h1⟩
theorem part_lt (s : BitVec 256) (k j : Nat) : wd s k % 2 ^ j < 2 ^ j := Nat.mod_lt _ (Nat.two_pow_pos j)
theorem part_all (s : BitVec 256) (k : Nat) : wd s k % 2 ^ 64 = wd s k := Nat.mod_eq_of_lt (wd_lt s k)
set_option maxRecDepth 100000 in
set_option maxHeartbeats 8000000 in
theorem refof_any (s : BitVec 256) (v : Value) (w : World) (h : BoolRow w v s) : Calls Tryz.prog 87 #[v] w (Ans w (cls s)) := by
  obtain ⟨b, cap, rfl, hb, hc⟩ := h
  have HC := Lib.hid hc
  clear hc
  unfold cls
  go_enter Tryz.func87, Tryz.ntmps87
  go_wp2
  refine wp_loop_rounds 5 ?_
  rw [rounds_succ]
  go_wp2
  go_loopw [5, 6] (fun bit i wr => ∃ j : Nat, j ≤ 64 ∧ i = .int .i64 j ∧ bit = .int .u64 ((2 ^ j % 18446744073709551616 : Nat) : Int) ∧ wr = (w.alloc (.cells #[.int .u64 0, .int .u64 0, .int .u64 0, .int .u64 0] 42)).alloc (.cells #[.int .u64 ((wd s 0 % 2 ^ j : Nat) : Int), .int .u64 0, .int .u64 0, .int .u64 0] 42)) (fun _ i _ => 64 - (intOf i).toNat)
  case atStart => exact ⟨0, by omega, rfl, rfl, by simp⟩
  case round =>
    obtain ⟨j, hj, rfl, rfl, rfl⟩ := hrel
    by_cases hlt : j < 64
    · have HP := Lib.hid (part_succ s 0 j hlt)
      obtain ⟨q1, q2, q3⟩ := pow_wrap j hlt
      have hpl := part_lt s 0 j
      have HQ2 := Lib.hid q2
      have hcell : w.cell? ⟨b, j, none⟩ = some (.bool (s.getLsbD (64 * 0 + j))) := by
        have := HC.out (64 * 0 + j) (by omega); first | exact this | (rw [← this]; congr 2; omega)
      rw [q1]
      clear q1 q2
      generalize wd s 0 % 2 ^ j = X at *
      generalize s.getLsbD (64 * 0 + j) = x at *
      generalize 2 ^ j = Y at *
      have j0 : (0 : Int) ≤ (j : Int) := by omega
      have j1 : (j : Int) < 64 := by omega
      have X0 : (0 : Int) ≤ (X : Int) := by omega
      have Y0 : (0 : Int) ≤ (Y : Int) := by omega
      have XY : (X : Int) + (Y : Int) ≤ 18446744073709551615 := by omega
      have EY : Hid (IntKind.u64.wrap ((Y : Int) * 2) = ((Y * 2 % 18446744073709551616 : Nat) : Int)) := by unfold Hid; rw [IntKind.wrap_u64]; omega
      cases x
      · go_wp2
        go_roundw
        case rel => exact ⟨j + 1, by omega, by go_num, by rw [HQ2.out]; first | (rw [EY.out]) | (refine congrArg _ ?_; omega), by rw [HP.out]; rfl⟩
        case measure => simp [intOf]; omega
      · go_wp2
        go_roundw
        case rel => exact ⟨j + 1, by omega, by go_num, by rw [HQ2.out]; first | (rw [EY.out]) | (refine congrArg _ ?_; omega), by rw [HP.out]; rfl⟩
        case measure => simp [intOf]; omega
    · have hje : j = 64 := by omega
      subst hje
      have HP := Lib.hid (part_all s 0)
      rw [HP.out]
      go_wp2
      rw [rounds_succ]
      go_wp2
      go_loopw [5, 6] (fun bit i wr => ∃ j : Nat, j ≤ 64 ∧ i = .int .i64 j ∧ bit = .int .u64 ((2 ^ j % 18446744073709551616 : Nat) : Int) ∧ wr = (w.alloc (.cells #[.int .u64 0, .int .u64 0, .int .u64 0, .int .u64 0] 42)).alloc (.cells #[.int .u64 (wd s 0), .int .u64 ((wd s 1 % 2 ^ j : Nat) : Int), .int .u64 0, .int .u64 0] 42)) (fun _ i _ => 64 - (intOf i).toNat)
      case atStart => exact ⟨0, by omega, rfl, rfl, by simp⟩
      case round =>
        obtain ⟨j, hj, rfl, rfl, rfl⟩ := hrel
        by_cases hlt : j < 64
        · have HP := Lib.hid (part_succ s 1 j hlt)
          obtain ⟨q1, q2, q3⟩ := pow_wrap j hlt
          have hpl := part_lt s 1 j
          have HQ2 := Lib.hid q2
          have hcell : w.cell? ⟨b, 64 + j, none⟩ = some (.bool (s.getLsbD (64 * 1 + j))) := by
            have := HC.out (64 * 1 + j) (by omega); first | exact this | (rw [← this]; congr 2; omega)
          rw [q1]
          clear q1 q2
          generalize wd s 1 % 2 ^ j = X at *
          generalize s.getLsbD (64 * 1 + j) = x at *
          generalize 2 ^ j = Y at *
          have j0 : (0 : Int) ≤ (j : Int) := by omega
          have j1 : (j : Int) < 64 := by omega
          have X0 : (0 : Int) ≤ (X : Int) := by omega
          have Y0 : (0 : Int) ≤ (Y : Int) := by omega
          have XY : (X : Int) + (Y : Int) ≤ 18446744073709551615 := by omega
          have EY : Hid (IntKind.u64.wrap ((Y : Int) * 2) = ((Y * 2 % 18446744073709551616 : Nat) : Int)) := by unfold Hid; rw [IntKind.wrap_u64]; omega
          cases x
          · go_wp2
            go_roundw
            case rel => exact ⟨j + 1, by omega, by go_num, by rw [HQ2.out]; first | (rw [EY.out]) | (refine congrArg _ ?_; omega), by rw [HP.out]; rfl⟩
            case measure => simp [intOf]; omega
          · go_wp2
            go_roundw
            case rel => exact ⟨j + 1, by omega, by go_num, by rw [HQ2.out]; first | (rw [EY.out]) | (refine congrArg _ ?_; omega), by rw [HP.out]; rfl⟩
            case measure => simp [intOf]; omega
        · have hje : j = 64 := by omega
          subst hje
          have HP := Lib.hid (part_all s 1)
          rw [HP.out]
          go_wp2
          rw [rounds_succ]
          go_wp2
          go_loopw [5, 6] (fun bit i wr => ∃ j : Nat, j ≤ 64 ∧ i = .int .i64 j ∧ bit = .int .u64 ((2 ^ j % 18446744073709551616 : Nat) : Int) ∧ wr = (w.alloc (.cells #[.int .u64 0, .int .u64 0, .int .u64 0, .int .u64 0] 42)).alloc (.cells #[.int .u64 (wd s 0), .int .u64 (wd s 1), .int .u64 ((wd s 2 % 2 ^ j : Nat) : Int), .int .u64 0] 42)) (fun _ i _ => 64 - (intOf i).toNat)
          case atStart => exact ⟨0, by omega, rfl, rfl, by simp⟩
          case round =>
            obtain ⟨j, hj, rfl, rfl, rfl⟩ := hrel
            by_cases hlt : j < 64
            · have HP := Lib.hid (part_succ s 2 j hlt)
              obtain ⟨q1, q2, q3⟩ := pow_wrap j hlt
              have hpl := part_lt s 2 j
              have HQ2 := Lib.hid q2
              have hcell : w.cell? ⟨b, 128 + j, none⟩ = some (.bool (s.getLsbD (64 * 2 + j))) := by
                have := HC.out (64 * 2 + j) (by omega); first | exact this | (rw [← this]; congr 2; omega)
              rw [q1]
              clear q1 q2
              generalize wd s 2 % 2 ^ j = X at *
              generalize s.getLsbD (64 * 2 + j) = x at *
              generalize 2 ^ j = Y at *
              have j0 : (0 : Int) ≤ (j : Int) := by omega
              have j1 : (j : Int) < 64 := by omega
              have X0 : (0 : Int) ≤ (X : Int) := by omega
              have Y0 : (0 : Int) ≤ (Y : Int) := by omega
              have XY : (X : Int) + (Y : Int) ≤ 18446744073709551615 := by omega
              have EY : Hid (IntKind.u64.wrap ((Y : Int) * 2) = ((Y * 2 % 18446744073709551616 : Nat) : Int)) := by unfold Hid; rw [IntKind.wrap_u64]; omega
              cases x
              · go_wp2
                go_roundw
                case rel => exact ⟨j + 1, by omega, by go_num, by rw [HQ2.out]; first | (rw [EY.out]) | (refine congrArg _ ?_; omega), by rw [HP.out]; rfl⟩
                case measure => simp [intOf]; omega
              · go_wp2
                go_roundw
                case rel => exact ⟨j + 1, by omega, by go_num, by rw [HQ2.out]; first | (rw [EY.out]) | (refine congrArg _ ?_; omega), by rw [HP.out]; rfl⟩
                case measure => simp [intOf]; omega
            · have hje : j = 64 := by omega
              subst hje
              have HP := Lib.hid (part_all s 2)
              rw [HP.out]
              go_wp2
              rw [rounds_succ]
              go_wp2
              go_loopw [5, 6] (fun bit i wr => ∃ j : Nat, j ≤ 64 ∧ i = .int .i64 j ∧ bit = .int .u64 ((2 ^ j % 18446744073709551616 : Nat) : Int) ∧ wr = (w.alloc (.cells #[.int .u64 0, .int .u64 0, .int .u64 0, .int .u64 0] 42)).alloc (.cells #[.int .u64 (wd s 0), .int .u64 (wd s 1), .int .u64 (wd s 2), .int .u64 ((wd s 3 % 2 ^ j : Nat) : Int)] 42)) (fun _ i _ => 64 - (intOf i).toNat)
              case atStart => exact ⟨0, by omega, rfl, rfl, by simp⟩
              case round =>
                obtain ⟨j, hj, rfl, rfl, rfl⟩ := hrel
                by_cases hlt : j < 64
                · have HP := Lib.hid (part_succ s 3 j hlt)
                  obtain ⟨q1, q2, q3⟩ := pow_wrap j hlt
                  have hpl := part_lt s 3 j
                  have HQ2 := Lib.hid q2
                  have hcell : w.cell? ⟨b, 192 + j, none⟩ = some (.bool (s.getLsbD (64 * 3 + j))) := by
                    have := HC.out (64 * 3 + j) (by omega); first | exact this | (rw [← this]; congr 2; omega)
                  rw [q1]
                  clear q1 q2
                  generalize wd s 3 % 2 ^ j = X at *
                  generalize s.getLsbD (64 * 3 + j) = x at *
                  generalize 2 ^ j = Y at *
                  have j0 : (0 : Int) ≤ (j : Int) := by omega
                  have j1 : (j : Int) < 64 := by omega
                  have X0 : (0 : Int) ≤ (X : Int) := by omega
                  have Y0 : (0 : Int) ≤ (Y : Int) := by omega
                  have XY : (X : Int) + (Y : Int) ≤ 18446744073709551615 := by omega
                  have EY : Hid (IntKind.u64.wrap ((Y : Int) * 2) = ((Y * 2 % 18446744073709551616 : Nat) : Int)) := by unfold Hid; rw [IntKind.wrap_u64]; omega
                  cases x
                  · go_wp2
                    go_roundw
                    case rel => exact ⟨j + 1, by omega, by go_num, by rw [HQ2.out]; first | (rw [EY.out]) | (refine congrArg _ ?_; omega), by rw [HP.out]; rfl⟩
                    case measure => simp [intOf]; omega
                  · go_wp2
                    go_roundw
                    case rel => exact ⟨j + 1, by omega, by go_num, by rw [HQ2.out]; first | (rw [EY.out]) | (refine congrArg _ ?_; omega), by rw [HP.out]; rfl⟩
                    case measure => simp [intOf]; omega
                · have hje : j = 64 := by omega
                  subst hje
                  have HP := Lib.hid (part_all s 3)
                  rw [HP.out]
                  go_wp2
                  rw [rounds_succ]
                  go_wp2
                  go_returns
                  exact ⟨rfl, by go_grown⟩
def BRow (w : World) (g : Nat) (f : Nat → Bool) : Prop := ∃ cur : Array Value, w.heap[g]? = some (.cells cur 4) ∧ 256 ≤ cur.size ∧ ∀ i, i < 256 → cur[i]? = some (.bool (f i))
section
variable {w w' : World} {g : Nat} {f : Nat → Bool}
theorem BRow.lt (h : BRow w g f) : g < w.heap.size := by
  obtain ⟨cur, h1, _⟩ := h
  exact Blk.lt (vs := cur) (t := 4) h1
theorem BRow.cell (h : BRow w g f) (i : Nat) (hi : i < 256) : w.cell? ⟨g, i, none⟩ = some (.bool (f i)) := by
  obtain ⟨cur, h1, _, h3⟩ := h
  rw [Blk.cell (vs := cur) (t := 4) h1, h3 i hi]
theorem BRow.frozen (h : BRow w g f) (i : Nat) : w.frozen? ⟨g, i, none⟩ = false := by
  obtain ⟨cur, h1, _⟩ := h
  exact Blk.frozen (vs := cur) (t := 4) h1 i
theorem BRow.below (h : BRow w g f) {B : Nat} (hb : Below B w w') (l : g < B) : BRow w' g f := by
  obtain ⟨cur, h1, h2⟩ := h
  exact ⟨cur, (hb.block g l).trans h1, h2⟩
theorem BRow.later (h : BRow w g f) (hb : Below w.heap.size w w') : BRow w' g f := h.below hb h.lt
theorem BRow.set (h : BRow w g f) (i : Nat) (x : Bool) : BRow (w.setCell ⟨g, i, none⟩ (.bool x)) g (fun j => if j = i then x else f j) := by
  obtain ⟨cur, h1, h2, h3⟩ := h
  refine ⟨cur.setIfInBounds i (.bool x), Blk.setCell (vs := cur) (t := 4) h1 i _, by simpa using h2, fun j hj => ?_⟩
  rw [Array.getElem?_setIfInBounds]
  by_cases e : j = i
  · subst e
    have : j < cur.size := by omega
    simp [this]
  · have : i ≠ j := fun h => e h.symm
    simp [this, e, h3 j hj]
theorem BRow.set_ne (h : BRow w g f) {a : Addr} (hne : a.block ≠ g) (v : Value) : BRow (w.setCell a v) g f := by
  obtain ⟨cur, h1, h2⟩ := h
  exact ⟨cur, Blk.setCell_ne (vs := cur) (t := 4) h1 hne v, h2⟩
theorem BRow.congr (h : BRow w g f) {f' : Nat → Bool} (hf : ∀ i, i < 256 → f i = f' i) : BRow w g f' := by
  obtain ⟨cur, h1, h2, h3⟩ := h
  exact ⟨cur, h1, h2, fun i hi => by rw [h3 i hi, hf i hi]⟩
theorem BRow.row (h : BRow w g f) {s : BitVec 256} (hs : ∀ i, i < 256 → f i = s.getLsbD i) (cap : Nat) : BoolRow w (.slice (some ⟨g, 0, none⟩) 256 cap) s :=
  ⟨g, cap, rfl, h.lt, fun i hi => by rw [h.cell i hi, hs i hi]⟩
end
theorem row_of_list {w : World} {base : Nat} {v : Value} {f : Nat → Bool} (h : w.ownsRow base 4 1 v 256 (boolsV f 256)) : ∃ g cap, v = .slice (some ⟨g, 0, none⟩) 256 cap ∧ base ≤ g ∧ BRow w g f := by
  rcases h.2 with ⟨_, h2⟩ | ⟨g, cap, cur, rfl, hg, hh, hn, _, hc, ht⟩
  · omega
  · refine ⟨g, cap, rfl, hg, cur, hh, by omega, fun i hi => ?_⟩
    have h1 := congrArg (·[i]?) ht
    simp only [Nat.mul_one, List.getElem?_take, hi, if_true] at h1
    rw [← Array.getElem?_toList, h1]
    simp [boolsV, hi]
theorem list_row (s : BitVec 256) (w : World) : Calls Tryz.prog 120 #[cls s] w fun e w' => ∃ g cap, e = .returned (.slice (some ⟨g, 0, none⟩) 256 cap) ∧ w.heap.size ≤ g ∧ BRow w' g (fun i => s.getLsbD i) ∧ Below w.heap.size w w' :=
  (reflist_any s w).mono fun e w' ⟨v, he, ho, hb⟩ => by
    obtain ⟨g, cap, rfl, hg, hr⟩ := row_of_list ho
    exact ⟨g, cap, he, by omega, hr, hb⟩
set_option maxRecDepth 100000 in
set_option maxHeartbeats 4000000 in
theorem refnot_any (s : BitVec 256) (w : World) : Calls Tryz.prog 90 #[cls s] w (Ans w (cls (~~~s))) := by
  unfold cls
  go_enter Tryz.func90, Tryz.ntmps90
  go_wp2_with fail
  have W0 : ∃ W1 : World, W1 = (w.alloc (.cells (cells4 s) 42)).alloc (.cells (cells4 0#256) 42) ∧ W1.heap.size = w.heap.size + 2 ∧ Below w.heap.size w W1 ∧ Blk W1 (w.heap.size + 1) (cells4 0#256) 42 :=
    ⟨_, rfl, by simp, ((Below.refl _ _).alloc (Nat.le_refl _) _).alloc (by simp) _, Blk.new' (by simp) _ _⟩
  obtain ⟨W1, hW1, hsz, hB0, hBlk⟩ := W0
  have z : cells4 0#256 = #[.int .u64 0, .int .u64 0, .int .u64 0, .int .u64 0] := by
    unfold cells4
    rw [show wd 0#256 0 = 0 by decide, show wd 0#256 1 = 0 by decide, show wd 0#256 2 = 0 by decide, show wd 0#256 3 = 0 by decide]; rfl
  rw [z] at hW1
  rw [show (w.alloc (.cells #[.int .u64 (wd s 0), .int .u64 (wd s 1), .int .u64 (wd s 2), .int .u64 (wd s 3)] 42)).alloc (.cells #[.int .u64 0, .int .u64 0, .int .u64 0, .int .u64 0] 42) = W1 from hW1.symm]
  clear hW1 z
  refine (list_row s W1).mono ?_; rintro e w2 ⟨g, cap, rfl, hg, hrow, hb⟩
  have HSZ := Lib.hid hsz
  have HB0 := Lib.hid hB0
  have HBL := Lib.hid hb
  have HBK := Lib.hid hBlk
  have HRW := Lib.hid hrow
  have hw2 := hb.size
  clear hsz hB0 hBlk hb hrow
  go_wp2_with fail
  go_loopw [4] (fun i wr => ∃ k : Nat, k ≤ 256 ∧ i = .int .i64 k ∧ BRow wr g (fun j => if j < k then !(s.getLsbD j) else s.getLsbD j) ∧ Below W1.heap.size W1 wr) (fun i _ => 256 - (intOf i).toNat)
  case atStart => exact ⟨0, by omega, rfl, HRW.out.congr (by simp), HBL.out⟩
  case round =>
    obtain ⟨k, hk, rfl, hr, hb⟩ := hrel
    by_cases hlt : k < 256
    · have hc := hr.cell k hlt
      have hf := hr.frozen k
      have hlt0 : ¬ k < k := by omega
      simp only [hlt0, if_false] at hc
      have HR := Lib.hid hr
      have HB := Lib.hid hb
      have k0 : (0 : Int) ≤ (k : Int) := by omega
      have k1 : (k : Int) < 256 := by omega
      clear hr hb hlt0
      generalize hx : s.getLsbD k = x at *
      have HX := Lib.hid hx
      clear hx
      go_wp2
      go_roundw
      case rel =>
        refine ⟨k + 1, by omega, by go_num, (HR.out.set k (!x)).congr ?_, HB.out.setCell hg _⟩
        intro j hj
        by_cases e : j = k
        · subst e; simp [HX.out]
        · by_cases e2 : j < k
          · have : j < k + 1 := by omega
            simp [e, e2, this]
          · have : ¬ j < k + 1 := by omega
            simp [e, e2, this]
      case measure => simp [intOf]; omega
    · have hke : k = 256 := by omega
      subst hke
      have hrow := hr.row (s := ~~~s) (fun i hi => by simp [hi]) cap
      have HRO := Lib.hid hrow
      have HBB := Lib.hid hb
      have hsw := hb.size
      clear hrow hr hb
      go_wp2_with fail
      refine (refof_any (~~~s) _ _ HRO.out).mono ?_; rintro e w3 ⟨rfl, hb3⟩
      have hb3' : Below W1.heap.size W1 w3 := HBB.out.trans (hb3.mono hsw)
      have hbk : Blk w3 (w.heap.size + 1) (cells4 0#256) 42 := HBK.out.below hb3' (by have := HSZ.out; omega)
      have hbw : Below w.heap.size w w3 := HB0.out.trans (hb3'.mono HB0.out.size)
      obtain ⟨d0, d1, d2, d3⟩ := hbk.cells
      have f := hbk.frozen
      have HK := Lib.hid hbk
      have HW := Lib.hid hbw
      clear hbk hb3' hb3 hbw
      simp only [cls]
      go_wp2
      have hR := HK.out.set4 (~~~s)
      have hL : Below w.heap.size w _ := (((HW.out.setCell (p := ⟨w.heap.size + 1, 0, none⟩) (by simp <;> omega) (.int .u64 (wd (~~~s) 0))).setCell (p := ⟨w.heap.size + 1, 1, none⟩) (by simp <;> omega) (.int .u64 (wd (~~~s) 1))).setCell (p := ⟨w.heap.size + 1, 2, none⟩) (by simp <;> omega) (.int .u64 (wd (~~~s) 2))).setCell (p := ⟨w.heap.size + 1, 3, none⟩) (by simp <;> omega) (.int .u64 (wd (~~~s) 3))
      generalize (((w3.setCell ⟨w.heap.size + 1, 0, none⟩ (.int .u64 (wd (~~~s) 0))).setCell ⟨w.heap.size + 1, 1, none⟩ (.int .u64 (wd (~~~s) 1))).setCell ⟨w.heap.size + 1, 2, none⟩ (.int .u64 (wd (~~~s) 2))).setCell ⟨w.heap.size + 1, 3, none⟩ (.int .u64 (wd (~~~s) 3)) = w9 at *
      obtain ⟨e0, e1, e2, e3⟩ := hR.cells
      exact bodyPost_ret (v := cls (~~~s)) (by simp [results, Tryz.results90, go_sem, e0, e1, e2, e3, cls]) rfl ⟨rfl, hL⟩
set_option maxRecDepth 100000 in
set_option maxHeartbeats 4000000 in
theorem refjoin_any (s t : BitVec 256) (w : World) : Calls Tryz.prog 89 #[cls s, cls t] w (Ans w (cls (s ||| t))) := by
  unfold cls
  go_enter Tryz.func89, Tryz.ntmps89
  go_wp2_with fail
  have W0 : ∃ W1 : World, W1 = ((w.alloc (.cells (cells4 s) 42)).alloc (.cells (cells4 t) 42)).alloc (.cells (cells4 0#256) 42) ∧ W1.heap.size = w.heap.size + 3 ∧ Below w.heap.size w W1 ∧ Blk W1 (w.heap.size + 1 + 1) (cells4 0#256) 42 ∧ Blk W1 (w.heap.size + 1) (cells4 t) 42 :=
    ⟨_, rfl, by simp, (((Below.refl _ _).alloc (Nat.le_refl _) _).alloc (by simp) _).alloc (by simp; omega) _, Blk.new' (by simp) _ _, (Blk.new' (by simp) _ _).alloc _⟩
  obtain ⟨W1, hW1, hsz, hB0, hBlk, hBt⟩ := W0
  have z : cells4 0#256 = #[.int .u64 0, .int .u64 0, .int .u64 0, .int .u64 0] := by
    unfold cells4
    rw [show wd 0#256 0 = 0 by decide, show wd 0#256 1 = 0 by decide, show wd 0#256 2 = 0 by decide, show wd 0#256 3 = 0 by decide]; rfl
  rw [z] at hW1
  rw [show ((w.alloc (.cells #[.int .u64 (wd s 0), .int .u64 (wd s 1), .int .u64 (wd s 2), .int .u64 (wd s 3)] 42)).alloc (.cells #[.int .u64 (wd t 0), .int .u64 (wd t 1), .int .u64 (wd t 2), .int .u64 (wd t 3)] 42)).alloc (.cells #[.int .u64 0, .int .u64 0, .int .u64 0, .int .u64 0] 42) = W1 from hW1.symm]
  clear hW1 z
  refine (list_row s W1).mono ?_; rintro e w2 ⟨g, cap, rfl, hg, hrow, hb⟩
  have hbt := (hBt.later hb).cells
  have HSZ := Lib.hid hsz
  have HB0 := Lib.hid hB0
  have HBL := Lib.hid hb
  have HBK := Lib.hid hBlk
  have HRW := Lib.hid hrow
  have hw2 := hb.size
  clear hsz hB0 hBlk hb hrow hBt
  go_wp2_with fail
  refine (list_row t w2).mono ?_; rintro e w2' ⟨g', cap', rfl, hg', hrow', hb'⟩
  have HRW2 := Lib.hid (HRW.out.later hb')
  have HRW' := Lib.hid hrow'
  have hgl := HRW.out.lt
  have HBL2 := Lib.hid (HBL.out.trans (hb'.mono hw2))
  clear hbt hrow' hb' HBL HRW
  go_wp2_with fail
  go_loopw [7] (fun i wr => ∃ k : Nat, k ≤ 256 ∧ i = .int .i64 k ∧ BRow wr g (fun j => if j < k then (s.getLsbD j || t.getLsbD j) else s.getLsbD j) ∧ BRow wr g' (fun j => t.getLsbD j) ∧ Below W1.heap.size W1 wr) (fun i _ => 256 - (intOf i).toNat)
  case atStart => exact ⟨0, by omega, rfl, HRW2.out.congr (by simp), HRW'.out, HBL2.out⟩
  case round =>
    obtain ⟨k, hk, rfl, hr, hr', hb⟩ := hrel
    by_cases hlt : k < 256
    · have hc := hr.cell k hlt
      have hc' := hr'.cell k hlt
      have hf := hr.frozen k
      have hlt0 : ¬ k < k := by omega
      simp only [hlt0, if_false] at hc
      have HR := Lib.hid hr
      have HR' := Lib.hid hr'
      have HB := Lib.hid hb
      have k0 : (0 : Int) ≤ (k : Int) := by omega
      have k1 : (k : Int) < 256 := by omega
      clear hr hb hr' hlt0
      generalize hx : s.getLsbD k = x at *
      generalize hy : t.getLsbD k = y at *
      have HX := Lib.hid hx
      have HY := Lib.hid hy
      clear hx hy
      cases x
      all_goals
        go_wp2
        go_roundw
        case rel =>
          refine ⟨k + 1, by omega, by go_num, (HR.out.set k _).congr ?_, HR'.out.set_ne (by simp; omega) _, HB.out.setCell hg _⟩
          intro j hj
          by_cases e : j = k
          · subst e; simp [HX.out, HY.out]
          · by_cases e2 : j < k
            · have : j < k + 1 := by omega
              simp [e, e2, this]
            · have : ¬ j < k + 1 := by omega
              simp [e, e2, this]
        case measure => simp [intOf]; omega
    · have hke : k = 256 := by omega
      subst hke
      have hrow := hr.row (s := s ||| t) (fun i hi => by simp [hi]) cap
      have HRO := Lib.hid hrow
      have HBB := Lib.hid hb
      have hsw := hb.size
      clear hrow hr hb hr'
      go_wp2_with fail
      refine (refof_any (s ||| t) _ _ HRO.out).mono ?_; rintro e w3 ⟨rfl, hb3⟩
      have hb3' : Below W1.heap.size W1 w3 := HBB.out.trans (hb3.mono hsw)
      have hbk : Blk w3 (w.heap.size + 1 + 1) (cells4 0#256) 42 := HBK.out.below hb3' (by have := HSZ.out; omega)
      have hbw : Below w.heap.size w w3 := HB0.out.trans (hb3'.mono HB0.out.size)
      obtain ⟨d0, d1, d2, d3⟩ := hbk.cells
      have f := hbk.frozen
      have HK := Lib.hid hbk
      have HW := Lib.hid hbw
      clear hbk hb3' hb3 hbw
      simp only [cls]
      go_wp2
      have hR := HK.out.set4 (s ||| t)
      have hL : Below w.heap.size w _ := (((HW.out.setCell (p := ⟨w.heap.size + 1 + 1, 0, none⟩) (by simp <;> omega) (.int .u64 (wd (s ||| t) 0))).setCell (p := ⟨w.heap.size + 1 + 1, 1, none⟩) (by simp <;> omega) (.int .u64 (wd (s ||| t) 1))).setCell (p := ⟨w.heap.size + 1 + 1, 2, none⟩) (by simp <;> omega) (.int .u64 (wd (s ||| t) 2))).setCell (p := ⟨w.heap.size + 1 + 1, 3, none⟩) (by simp <;> omega) (.int .u64 (wd (s ||| t) 3))
      generalize (((w3.setCell ⟨w.heap.size + 1 + 1, 0, none⟩ (.int .u64 (wd (s ||| t) 0))).setCell ⟨w.heap.size + 1 + 1, 1, none⟩ (.int .u64 (wd (s ||| t) 1))).setCell ⟨w.heap.size + 1 + 1, 2, none⟩ (.int .u64 (wd (s ||| t) 2))).setCell ⟨w.heap.size + 1 + 1, 3, none⟩ (.int .u64 (wd (s ||| t) 3)) = w9 at *
      obtain ⟨e0, e1, e2, e3⟩ := hR.cells
      exact bodyPost_ret (v := cls (s ||| t)) (by simp [results, Tryz.results89, go_sem, e0, e1, e2, e3, cls]) rfl ⟨rfl, hL⟩
theorem make256 (w : World) : (Instr.makeSlice 90 (.int .i64 256) (.int .i64 256)).run Tryz.prog w = .ok (.slice (some ⟨w.heap.size, 0, none⟩) 256 256) (w.alloc (.cells (Array.replicate 256 (.bool false)) 4)) := by kernel_rfl
set_option maxRecDepth 100000 in
set_option maxHeartbeats 4000000 in
theorem refrow_any (a b : Nat) (ha : a < 256) (hb : b < 256) (w : World) : Calls Tryz.prog 55 #[.int .u8 (a : Int), .int .u8 (b : Int)] w (Ans w (cls (rowB a b))) := by
  have hmk := make256
  have z : cells4 0#256 = #[.int .u64 0, .int .u64 0, .int .u64 0, .int .u64 0] := by
    unfold cells4
    rw [show wd 0#256 0 = 0 by decide, show wd 0#256 1 = 0 by decide, show wd 0#256 2 = 0 by decide, show wd 0#256 3 = 0 by decide]; rfl
  have BK0 : Hid (Blk (w.alloc (.cells (cells4 0#256) 42)) w.heap.size (cells4 0#256) 42) := Blk.new _ _ _
  have W0 : Hid (∃ W1 : World, W1 = (w.alloc (.cells #[.int .u64 0, .int .u64 0, .int .u64 0, .int .u64 0] 42)).alloc (.cells (Array.replicate 256 (.bool false)) 4) ∧ Below (w.heap.size + 1) (w.alloc (.cells (cells4 0#256) 42)) W1 ∧ BRow W1 (w.heap.size + 1) (fun _ => false)) := by
    refine ⟨_, rfl, ?_, ?_⟩
    · rw [z]; exact (Below.refl _ _).alloc (by simp) _
    · exact ⟨_, Blk.new' (by simp) _ _, by simp, fun i hi => by simp [hi]⟩
  clear z
  go_enter Tryz.func55, Tryz.ntmps55
  go_wp2
  obtain ⟨W1, hW1, hB1, hR1⟩ := W0.out
  rw [← hW1]
  have HB1 := Lib.hid hB1
  have HR1 := Lib.hid hR1
  clear hmk W0 hW1 hB1 hR1
  go_loopw [6] (fun i wr => ∃ k : Nat, a ≤ k ∧ (k ≤ a ∨ k ≤ b + 1) ∧ i = .int .i64 k ∧ BRow wr (w.heap.size + 1) (fun j => decide (a ≤ j ∧ j < k)) ∧ Below (w.heap.size + 1) (w.alloc (.cells (cells4 0#256) 42)) wr) (fun i _ => b + 1 - (intOf i).toNat)
  case atStart => exact ⟨a, Nat.le_refl _, .inl (Nat.le_refl _), rfl, HR1.out.congr (fun i hi => by simp), HB1.out⟩
  case round =>
    obtain ⟨k, hak, hk, rfl, hr, hb'⟩ := hrel
    have HR := Lib.hid hr
    have HB := Lib.hid hb'
    have hsz : w.heap.size + 1 ≤ wr.heap.size := by have := hb'.size; simpa using this
    by_cases hlt : k ≤ b
    · have k0 : (0 : Int) ≤ (k : Int) := by omega
      have k1 : (k : Int) < 256 := by omega
      have hc := hr.cell k (by omega)
      have hf := hr.frozen k
      clear hr hb'
      go_wp2
      go_roundw
      case rel =>
        refine ⟨k + 1, by omega, .inr (by omega), by go_num, (HR.out.set k true).congr ?_, HB.out.setCell (Nat.le_refl _) _⟩
        intro j hj
        by_cases e : j = k
        · subst e; simp [hak]
        · have : (j < k + 1) = (j < k) := by rw [eq_iff_iff]; omega
          simp [e, this]
      case measure => simp [intOf]; omega
    · have hrow := hr.row (s := rowB a b) (fun i hi => by
        rw [rowB_bit _ _ _ hi]; congr 1; rw [eq_iff_iff]; omega) 256
      have HRO := Lib.hid hrow
      clear hrow hr hb'
      go_wp2_with fail
      refine (refof_any (rowB a b) _ _ HRO.out).mono ?_; rintro e w3 ⟨rfl, hb3⟩
      have hb3' : Below (w.heap.size + 1) (w.alloc (.cells (cells4 0#256) 42)) w3 := HB.out.trans (hb3.mono hsz)
      have hbw : Below w.heap.size w w3 := ((Below.refl _ _).alloc (Nat.le_refl _) _).trans (hb3'.mono (by omega))
      have hbk : Blk w3 w.heap.size (cells4 0#256) 42 := BK0.out.below hb3' (by omega)
      obtain ⟨d0, d1, d2, d3⟩ := hbk.cells
      have f := hbk.frozen
      have HK := Lib.hid hbk
      have HW := Lib.hid hbw
      clear hbk hb3' hb3 hbw
      simp only [cls]
      go_wp2
      have hR := HK.out.set4 (rowB a b)
      have hL : Below w.heap.size w _ := (((HW.out.setCell (p := ⟨w.heap.size, 0, none⟩) (by simp) (.int .u64 (wd (rowB a b) 0))).setCell (p := ⟨w.heap.size, 1, none⟩) (by simp) (.int .u64 (wd (rowB a b) 1))).setCell (p := ⟨w.heap.size, 2, none⟩) (by simp) (.int .u64 (wd (rowB a b) 2))).setCell (p := ⟨w.heap.size, 3, none⟩) (by simp) (.int .u64 (wd (rowB a b) 3))
      generalize (((w3.setCell ⟨w.heap.size, 0, none⟩ (.int .u64 (wd (rowB a b) 0))).setCell ⟨w.heap.size, 1, none⟩ (.int .u64 (wd (rowB a b) 1))).setCell ⟨w.heap.size, 2, none⟩ (.int .u64 (wd (rowB a b) 2))).setCell ⟨w.heap.size, 3, none⟩ (.int .u64 (wd (rowB a b) 3)) = w9 at *
      obtain ⟨e0, e1, e2, e3⟩ := hR.cells
      exact bodyPost_ret (v := cls (rowB a b)) (by simp [results, Tryz.results55, go_sem, e0, e1, e2, e3, cls]) rfl ⟨rfl, hL⟩
def flat9 : List Tok → List Value
  | [] => []
  | t :: l => (tokC t).toList ++ flat9 l
theorem tokC_size (t : Tok) : (tokC t).toList.length = 9 := rfl
theorem flat9_append : ∀ l m, flat9 (l ++ m) = flat9 l ++ flat9 m
  | [], _ => rfl
  | s :: l, m => by simp only [List.cons_append, flat9, flat9_append l m, List.append_assoc]
def tok0 : Tok := { kind := 0, at_ := 0 }
theorem flat9_get : ∀ (l : List Tok) (i j : Nat), i < l.length → j < 9 → (flat9 l)[i * 9 + j]? = (tokC (l.getD i tok0))[j]?
  | [], i, j, hi, _ => by simp at hi
  | s :: l, 0, j, _, hj => by
    show ((tokC s).toList ++ flat9 l)[0 * 9 + j]? = _
    rw [Nat.zero_mul, Nat.zero_add, List.getElem?_append_left (by rw [tokC_size]; exact hj)]; simp
  | s :: l, i + 1, j, hi, hj => by
    have ih := flat9_get l i j (by simpa using hi) hj
    show ((tokC s).toList ++ flat9 l)[(i + 1) * 9 + j]? = _
    rw [List.getElem?_append_right (by rw [tokC_size]; omega), tokC_size, show (i + 1) * 9 + j - 9 = i * 9 + j by omega, ih]
    simp
def TRow (w : World) (a : Option Addr) (l : List Tok) : Prop :=
  ∀ i, i < l.length → ∃ b off, a = some ⟨b, off, none⟩ ∧ b < w.heap.size ∧ ∀ j, j < 9 → w.cell? ⟨b, off + i * 9 + j, none⟩ = (tokC (l.getD i tok0))[j]?
theorem TRow.later {w w' : World} {a : Option Addr} {l : List Tok} (h : TRow w a l) (hb : Below w.heap.size w w') : TRow w' a l := fun i hi => by
  obtain ⟨b, off, ha, hlt, hc⟩ := h i hi
  exact ⟨b, off, ha, Nat.lt_of_lt_of_le hlt hb.size, fun j hj => (hb.cell (p := ⟨b, off + i * 9 + j, none⟩) hlt).trans (hc j hj)⟩
theorem TRow.nil (w : World) (a : Option Addr) : TRow w a [] := fun i hi => by simp at hi
def OwnT (w : World) (base : Nat) (v : Value) (l : List Tok) : Prop := w.ownsRow base 76 9 v l.length (flat9 l)
theorem OwnT.nil (w : World) (base : Nat) : OwnT w base (.slice none 0 0) [] := ⟨rfl, .inl ⟨rfl, rfl⟩⟩
theorem OwnT.later {w w' : World} {base : Nat} {v : Value} {l : List Tok} (h : OwnT w base v l) (hb : Below w.heap.size w w') : OwnT w' base v l := ownsRow_later h hb
theorem OwnT.row {w : World} {base : Nat} {v : Value} {l : List Tok} (h : OwnT w base v l) : ∃ a cap, v = .slice a l.length cap ∧ TRow w a l := by
  obtain ⟨_, ⟨hv, hn⟩ | ⟨g, cap, cur, hv, hb, hg, hc, hm, hs, ht⟩⟩ := h
  · have : l = [] := List.length_eq_zero_iff.1 hn
    subst this
    exact ⟨none, 0, hv, TRow.nil _ _⟩
  · refine ⟨_, cap, hv, fun i hi => ⟨g, 0, rfl, Blk.lt (w := w) (b := g) (vs := cur) (t := 76) hg, fun j hj => ?_⟩⟩
    have hc2 := Blk.cell (w := w) (b := g) (vs := cur) (t := 76) hg (i * 9 + j)
    rw [Nat.zero_add, hc2, ← flat9_get l i j hi hj, ← ht, List.getElem?_take, if_pos (by omega)]
    simp
theorem infoTok : (Tryz.prog.info? 76).map (fun i => (i.zero, i.size, i.bytes)) = some (some (.agg z9), 9, 80) := by kernel_rfl
theorem wp_append_tok {w : World} {o : Oper} {a : Act} {K : Act → World → Prop} {Q : Exit → Act → World → Prop} (s x : Operand)
    (ho : o.op = .call { callee := .builtin .append, args := #[s, x], argTypes := #[45, 45] })
    (base : Nat) (v : Value) (l : List Tok) (hs : a.eval s = v) (hown : OwnT w base v l)
    (b : Nat) (t : Tok) (hx : a.eval x = .slice (some ⟨b, 0, none⟩) 1 1) (hnew : Blk w b (tokC t) 76) (hlen : l.length < 1073741824) (hbase : base ≤ w.heap.size)
    (h : ∀ v' w', OwnT w' base v' (l ++ [t]) → (∀ B, B ≤ base → Below B w w') → K (a.put o.dst v') w') : o.wp Tryz.prog a w K Q := by
  obtain ⟨ib, hib, hz0, hz1, hz2⟩ := info_parts infoTok
  have hf1 : flat9 [t] = (tokC t).toList := by simp [flat9]
  have hnews : ∀ (j : Nat) (u : Value), (flat9 [t])[j]? = some u → w.cell? ((⟨b, 0, none⟩ : Addr).add j) = some u := by
    intro j u hu
    have hadd : (⟨b, 0, none⟩ : Addr).add j = ⟨b, j, none⟩ := by unfold Addr.add; split <;> simp_all
    rw [hf1] at hu
    rw [hadd, hnew.cell, ← hu]; simp
  have hone : ∀ u ∈ flat9 [t], u.oneCell' = true := by
    intro u hu
    rw [hf1] at hu
    simp only [tokC, List.mem_cons, List.not_mem_nil, or_false] at hu
    rcases hu with rfl | rfl | rfl | rfl | rfl | rfl | rfl | rfl | rfl <;> rfl
  obtain ⟨v', w', hr, h2, h3, _⟩ := run_append_own (P := Tryz.prog) w base 45 o.type 76 ib _ 9 80 Tryz.underlying45 hib hz0 hz1 hz2 rfl (by decide) v l.length (flat9 l) hown ⟨b, 0, none⟩ 1 1 (flat9 [t]) rfl hnews hone (by unfold maxLen; omega) (by omega) hbase
  have h2' : OwnT w' base v' (l ++ [t]) := by unfold OwnT; rw [List.length_append, flat9_append]; exact h2
  unfold Oper.wp execOp
  simp only [ho, resolve, invoke, builtin, Sem.run_bind, Sem.run_pure, Result.andThen_ok, List.map_toArray, List.map_cons, List.map_nil, hs, hx, hr]
  exact h v' w' h2' fun B hB => (Below.refl B w).grown h3 (Nat.le_trans hB hbase) fun k hk => Nat.le_trans hB ((World.ownsRow.lt hown k hk).1)
theorem wpList_append_tok {w : World} {ops : Array Oper} {rest : List Oper} {o : Oper} {a : Act} {Q : Exit → Act → World → Prop} (hgd : o.guard = none) (s x : Operand)
    (ho : o.op = .call { callee := .builtin .append, args := #[s, x], argTypes := #[45, 45] })
    (base : Nat) (v : Value) (l : List Tok) (hs : a.eval s = v) (hown : OwnT w base v l)
    (b : Nat) (t : Tok) (hx : a.eval x = .slice (some ⟨b, 0, none⟩) 1 1) (hnew : Blk w b (tokC t) 76) (hlen : l.length < 1073741824) (hbase : base ≤ w.heap.size)
    (h : ∀ v' w', OwnT w' base v' (l ++ [t]) → (∀ B, B ≤ base → Below B w w') → wpList Tryz.prog ops Q rest (a.put o.dst v') w') : wpList Tryz.prog ops Q (o :: rest) a w :=
  wpList_plain hgd fun K hK => wp_append_tok s x ho base v l hs hown b t hx hnew hlen hbase fun v' w' h1 h2 => hK _ _ (h v' w' h1 h2)
set_option linter.unusedSimpArgs false
theorem equalIn_cls (d : Nat) (x y : BitVec 256) (w : World) : (Op.equalIn (d + 2) 42 (cls x) (cls y)).run Tryz.prog w = .ok (x == y) w := by
  obtain ⟨i, hi⟩ : ∃ i, Tryz.prog.info? 40 = some i := Option.isSome_iff_exists.1 (by kernel_rfl)
  have hc : Tryz.prog.cellsOf 40 = 1 := by kernel_rfl
  unfold cls
  rw [← beq_words]
  rw [show d + 2 = (d + 1) + 1 from rfl, run_equalIn_array w (d + 1) _ _ Tryz.underlying42 hi, hc]
  rw [show List.range 4 = [0, 1, 2, 3] from rfl]
  simp [Op.eqItems, part, go_sem, equalIn_u64 d]
  by_cases e0 : wd x 0 = wd y 0 <;> by_cases e1 : wd x 1 = wd y 1 <;> by_cases e2 : wd x 2 = wd y 2 <;> by_cases e3 : wd x 3 = wd y 3 <;> simp [e0, e1, e2, e3] <;> omega
theorem bs_beq (a b : List UInt8) : (bs a == bs b) = decide (a = b) := by
  rw [beq_toListBytes, Lib.toList_data, Lib.toList_data, bs_data, bs_data]
  rw [Bool.eq_iff_iff, beq_iff_eq, decide_eq_true_iff]
theorem equalIn_i64 (d : Nat) (a b : Int) (w : World) : (Op.equalIn (d + 1) 3 (.int .i64 a) (.int .i64 b)).run Tryz.prog w = .ok (a == b) w := by
  simp [Op.equalIn, go_sem]
theorem equalIn_str (d : Nat) (a b : ByteArray) (w : World) : (Op.equalIn (d + 1) 9 (.string a) (.string b)).run Tryz.prog w = .ok (a == b) w := by
  simp [Op.equalIn, go_sem]
def flat10 : List Nd → List Value
  | [] => []
  | t :: l => (ndC t).toList ++ flat10 l
theorem ndC_size (t : Nd) : (ndC t).toList.length = 10 := rfl
theorem flat10_length : ∀ l, (flat10 l).length = l.length * 10
  | [] => rfl
  | s :: l => by simp only [flat10, List.length_append, ndC_size, List.length_cons, flat10_length l]; omega
theorem flat10_append : ∀ l m, flat10 (l ++ m) = flat10 l ++ flat10 m
  | [], _ => rfl
  | s :: l, m => by simp only [List.cons_append, flat10, flat10_append l m, List.append_assoc]
theorem flat10_get : ∀ (l : List Nd) (i j : Nat), i < l.length → j < 10 → (flat10 l)[i * 10 + j]? = (ndC (l.getD i nd0))[j]?
  | [], i, j, hi, _ => by simp at hi
  | s :: l, 0, j, _, hj => by
    show ((ndC s).toList ++ flat10 l)[0 * 10 + j]? = _
    rw [Nat.zero_mul, Nat.zero_add, List.getElem?_append_left (by rw [ndC_size]; exact hj)]; simp
  | s :: l, i + 1, j, hi, hj => by
    have ih := flat10_get l i j (by simpa using hi) hj
    show ((ndC s).toList ++ flat10 l)[(i + 1) * 10 + j]? = _
    rw [List.getElem?_append_right (by rw [ndC_size]; omega), ndC_size, show (i + 1) * 10 + j - 10 = i * 10 + j by omega, ih]
    simp
def NRow (w : World) (a : Option Addr) (l : List Nd) : Prop :=
  ∀ i, i < l.length → ∃ b off, a = some ⟨b, off, none⟩ ∧ b < w.heap.size ∧ ∀ j, j < 10 → w.cell? ⟨b, off + i * 10 + j, none⟩ = (ndC (l.getD i nd0))[j]?
theorem NRow.later {w w' : World} {a : Option Addr} {l : List Nd} (h : NRow w a l) (hb : Below w.heap.size w w') : NRow w' a l := fun i hi => by
  obtain ⟨b, off, ha, hlt, hc⟩ := h i hi
  exact ⟨b, off, ha, Nat.lt_of_lt_of_le hlt hb.size, fun j hj => (hb.cell (p := ⟨b, off + i * 10 + j, none⟩) hlt).trans (hc j hj)⟩
theorem NRow.nil (w : World) (a : Option Addr) : NRow w a [] := fun i hi => by simp at hi
def OwnN (w : World) (base : Nat) (v : Value) (l : List Nd) : Prop := w.ownsRow base 44 10 v l.length (flat10 l)
theorem OwnN.nil (w : World) (base : Nat) : OwnN w base (.slice none 0 0) [] := ⟨rfl, .inl ⟨rfl, rfl⟩⟩
theorem OwnN.later {w w' : World} {base : Nat} {v : Value} {l : List Nd} (h : OwnN w base v l) (hb : Below w.heap.size w w') : OwnN w' base v l := ownsRow_later h hb
theorem OwnN.row {w : World} {base : Nat} {v : Value} {l : List Nd} (h : OwnN w base v l) : ∃ a cap, v = .slice a l.length cap ∧ NRow w a l := by
  obtain ⟨_, ⟨hv, hn⟩ | ⟨g, cap, cur, hv, hb, hg, hc, hm, hs, ht⟩⟩ := h
  · have : l = [] := List.length_eq_zero_iff.1 hn
    subst this
    exact ⟨none, 0, hv, NRow.nil _ _⟩
  · refine ⟨_, cap, hv, fun i hi => ⟨g, 0, rfl, Blk.lt (w := w) (b := g) (vs := cur) (t := 44) hg, fun j hj => ?_⟩⟩
    have hc2 := Blk.cell (w := w) (b := g) (vs := cur) (t := 44) hg (i * 10 + j)
    rw [Nat.zero_add, hc2, ← flat10_get l i j hi hj, ← ht, List.getElem?_take, if_pos (by omega)]
    simp
theorem infoNd : (Tryz.prog.info? 44).map (fun i => (i.zero, i.size, i.bytes)) = some (some (.agg z10), 10, 88) := by kernel_rfl
theorem wp_append_nd {w : World} {o : Oper} {a : Act} {K : Act → World → Prop} {Q : Exit → Act → World → Prop} (s x : Operand)
    (ho : o.op = .call { callee := .builtin .append, args := #[s, x], argTypes := #[23, 23] })
    (base : Nat) (v : Value) (l : List Nd) (hs : a.eval s = v) (hown : OwnN w base v l)
    (b : Nat) (t : Nd) (hx : a.eval x = .slice (some ⟨b, 0, none⟩) 1 1) (hnew : Blk w b (ndC t) 44) (hlen : l.length < 1073741824) (hbase : base ≤ w.heap.size)
    (h : ∀ v' w', OwnN w' base v' (l ++ [t]) → (∀ B, B ≤ base → Below B w w') → K (a.put o.dst v') w') : o.wp Tryz.prog a w K Q := by
  obtain ⟨ib, hib, hz0, hz1, hz2⟩ := info_parts infoNd
  have hf1 : flat10 [t] = (ndC t).toList := by simp [flat10]
  have hnews : ∀ (j : Nat) (u : Value), (flat10 [t])[j]? = some u → w.cell? ((⟨b, 0, none⟩ : Addr).add j) = some u := by
    intro j u hu
    have hadd : (⟨b, 0, none⟩ : Addr).add j = ⟨b, j, none⟩ := by unfold Addr.add; split <;> simp_all
    rw [hf1] at hu
    rw [hadd, hnew.cell, ← hu]; simp
  have hone : ∀ u ∈ flat10 [t], u.oneCell' = true := by
    intro u hu
    rw [hf1] at hu
    simp only [ndC, List.mem_cons, List.not_mem_nil, or_false] at hu
    rcases hu with rfl | rfl | rfl | rfl | rfl | rfl | rfl | rfl | rfl | rfl <;> rfl
  obtain ⟨v', w', hr, h2, h3, _⟩ := run_append_own (P := Tryz.prog) w base 23 o.type 44 ib _ 10 88 Tryz.underlying23 hib hz0 hz1 hz2 rfl (by decide) v l.length (flat10 l) hown ⟨b, 0, none⟩ 1 1 (flat10 [t]) rfl hnews hone (by unfold maxLen; omega) (by omega) hbase
  have h2' : OwnN w' base v' (l ++ [t]) := by unfold OwnN; rw [List.length_append, flat10_append]; exact h2
  unfold Oper.wp execOp
  simp only [ho, resolve, invoke, builtin, Sem.run_bind, Sem.run_pure, Result.andThen_ok, List.map_toArray, List.map_cons, List.map_nil, hs, hx, hr]
  exact h v' w' h2' fun B hB => (Below.refl B w).grown h3 (Nat.le_trans hB hbase) fun k hk => Nat.le_trans hB ((World.ownsRow.lt hown k hk).1)
theorem wpList_append_nd {w : World} {ops : Array Oper} {rest : List Oper} {o : Oper} {a : Act} {Q : Exit → Act → World → Prop} (hgd : o.guard = none) (s x : Operand)
    (ho : o.op = .call { callee := .builtin .append, args := #[s, x], argTypes := #[23, 23] })
    (base : Nat) (v : Value) (l : List Nd) (hs : a.eval s = v) (hown : OwnN w base v l)
    (b : Nat) (t : Nd) (hx : a.eval x = .slice (some ⟨b, 0, none⟩) 1 1) (hnew : Blk w b (ndC t) 44) (hlen : l.length < 1073741824) (hbase : base ≤ w.heap.size)
    (h : ∀ v' w', OwnN w' base v' (l ++ [t]) → (∀ B, B ≤ base → Below B w w') → wpList Tryz.prog ops Q rest (a.put o.dst v') w') : wpList Tryz.prog ops Q (o :: rest) a w :=
  wpList_plain hgd fun K hK => wp_append_nd s x ho base v l hs hown b t hx hnew hlen hbase fun v' w' h1 h2 => hK _ _ (h v' w' h1 h2)
set_option maxRecDepth 100000 in
set_option maxHeartbeats 4000000 in
theorem equal_nd (x y : Nd) (w : World) : (Op.equal 44 (.agg (ndC x)) (.agg (ndC y))).run Tryz.prog w = .ok (decide (x = y)) w := by
  have hu : Tryz.prog.underlying 44 = some (.struct (Tryz.prog.fieldsOf 44)) := by kernel_rfl
  show (Op.equalIn (9999 + 1) 44 _ _).run Tryz.prog w = _
  rw [run_equalIn_struct w 9999 _ _ _ hu (by kernel_rfl)]
  simp only [Program.fieldsOf, Tryz.underlying44]
  have hc : ∀ w, (Op.equalIn 9999 42 (.agg #[.int .u64 (wd x.cls 0), .int .u64 (wd x.cls 1), .int .u64 (wd x.cls 2), .int .u64 (wd x.cls 3)]) (.agg #[.int .u64 (wd y.cls 0), .int .u64 (wd y.cls 1), .int .u64 (wd y.cls 2), .int .u64 (wd y.cls 3)])).run Tryz.prog w = .ok (x.cls == y.cls) w := fun w => equalIn_cls 9997 x.cls y.cls w
  have hi : ∀ (a b : Int) w, (Op.equalIn 9999 3 (.int .i64 a) (.int .i64 b)).run Tryz.prog w = .ok (a == b) w := fun a b w => equalIn_i64 9998 a b w
  have hs : ∀ (a b : ByteArray) w, (Op.equalIn 9999 9 (.string a) (.string b)).run Tryz.prog w = .ok (a == b) w := fun a b w => equalIn_str 9998 a b w
  unfold ndC
  simp [Op.eqFields, part, go_sem, hc, hi, hs]
  rw [bs_beq]
  clear hc hi hs hu
  by_cases h1 : x.kind = y.kind
  · by_cases h2 : x.a = y.a
    · by_cases h3 : x.b = y.b
      · by_cases h4 : x.lo = y.lo
        · by_cases h5 : x.hi = y.hi
          · by_cases h6 : x.cls = y.cls
            · by_cases h7 : x.text = y.text
              · have : x = y := by cases x; cases y; simp_all
                simp [this]
              · have : x ≠ y := fun e => h7 (by rw [e])
                simp [h1, h2, h3, h4, h5, h6, h7, this] <;> (try (intros; omega))
            · have : x ≠ y := fun e => h6 (by rw [e])
              simp [h1, h2, h3, h4, h5, h6, this] <;> (try (intros; omega))
          · have : x ≠ y := fun e => h5 (by rw [e])
            simp [h1, h2, h3, h4, h5, this] <;> (try (intros; omega))
        · have : x ≠ y := fun e => h4 (by rw [e])
          simp [h1, h2, h3, h4, this] <;> (try (intros; omega))
      · have : x ≠ y := fun e => h3 (by rw [e])
        simp [h1, h2, h3, this] <;> (try (intros; omega))
    · have : x ≠ y := fun e => h2 (by rw [e])
      simp [h1, h2, this] <;> (try (intros; omega))
  · have : x ≠ y := fun e => h1 (by rw [e])
    simp [h1, this] <;> (try (intros; omega))
theorem neq_nd (x y : Nd) (w : World) : (binOp .neq 44 (.agg (ndC x)) (.agg (ndC y))).run Tryz.prog w = .ok (.bool (!decide (x = y))) w := by
  have h := equal_nd x y w
  unfold ndC at h ⊢
  simp only [binOp]
  simp [h]
theorem eqGuard_neq_nd (o1 o2 : Operand) (x y : Nd) (w : World) : (eqGuard .neq 44 o1 o2 (.agg (ndC x)) (.agg (ndC y))).run Tryz.prog w = .ok () w := by
  unfold ndC; simp [eqGuard, go_sem]
def likeN (a b : List Nd) (k : Nat) : Bool := (List.range k).all fun i => decide (a.getD i nd0 = b.getD i nd0)
theorem likeN_succ (a b : List Nd) (k : Nat) : likeN a b (k + 1) = (likeN a b k && decide (a.getD k nd0 = b.getD k nd0)) := by
  unfold likeN; rw [List.range_succ, List.all_append]; simp
theorem likeN_all {a b : List Nd} (h : a.length = b.length) : likeN a b a.length = decide (a = b) := by
  unfold likeN
  rw [Bool.eq_iff_iff, List.all_eq_true, decide_eq_true_iff]
  constructor
  · intro hx
    apply List.ext_getElem h
    intro i h1 h2
    have := hx i (List.mem_range.2 h1)
    simpa [h1, h2] using this
  · rintro rfl i _; simp
def At10 (w : World) (b o : Nat) (x : Nd) : Prop := w.cell? ⟨b, o, none⟩ = some (.int .i64 x.kind) ∧ w.cell? ⟨b, o + 1, none⟩ = some (.int .i64 x.a) ∧ w.cell? ⟨b, o + 2, none⟩ = some (.int .i64 x.b) ∧ w.cell? ⟨b, o + 3, none⟩ = some (.int .i64 x.lo) ∧ w.cell? ⟨b, o + 4, none⟩ = some (.int .i64 x.hi) ∧ w.cell? ⟨b, o + 5, none⟩ = some (.int .u64 (wd x.cls 0)) ∧ w.cell? ⟨b, o + 6, none⟩ = some (.int .u64 (wd x.cls 1)) ∧ w.cell? ⟨b, o + 7, none⟩ = some (.int .u64 (wd x.cls 2)) ∧ w.cell? ⟨b, o + 8, none⟩ = some (.int .u64 (wd x.cls 3)) ∧ w.cell? ⟨b, o + 9, none⟩ = some (.string (bs x.text))
theorem NRow.at {w : World} {A : Option Addr} {a : List Nd} (h : NRow w A a) {i : Nat} (hi : i < a.length) {b o : Nat} (hA : A = some ⟨b, o, none⟩) : At10 w b (o + i * 10) (a.getD i nd0) := by
  obtain ⟨b', o', h1, _, h2⟩ := h i hi
  rw [hA] at h1; cases h1
  exact ⟨h2 0 (by omega), h2 1 (by omega), h2 2 (by omega), h2 3 (by omega), h2 4 (by omega), h2 5 (by omega), h2 6 (by omega), h2 7 (by omega), h2 8 (by omega), h2 9 (by omega)⟩
end Go.Proofs.YtcgjmnhmhiddkaaGreatDoor
