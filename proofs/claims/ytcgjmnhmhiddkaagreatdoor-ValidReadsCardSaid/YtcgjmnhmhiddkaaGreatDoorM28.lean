/- Bytes of a new row made a string. -/
import Derived.Test.YtcgjmnhmhiddkaaGreatDoorM04
import Derived.Test.YtcgjmnhmhiddkaaGreatDoorM09
import Derived.Test.YtcgjmnhmhiddkaaGreatDoorM03
import Derived.Test.YtcgjmnhmhiddkaaGreatDoorM05
import Derived.Test.YtcgjmnhmhiddkaaGreatDoorM07
import Derived.Laws.BytesString
import Derived.Laws.Cells
namespace Go.Proofs.YtcgjmnhmhiddkaaGreatDoor
open Go Go.RowKit
set_option linter.unusedVariables false
set_option linter.unusedSimpArgs false
theorem rdigit_any (c : UInt8) (w : World) : Calls Tryz.prog 119 #[.int .u8 (c.toNat : Int)] w (Pure w (.int .i64 (dgtI c))) := by
  have h8 : (c.toNat : Int) ≤ 255 := by have := UInt8.toNat_lt c; omega
  by_cases h1 : 48 ≤ c.toNat ∧ c.toNat ≤ 57
  · have HR : Hid (dgtI c = (c.toNat : Int) - 48) := by unfold Hid dgtI digV; rw [if_pos h1]; simp only; omega
    generalize dgtI c = v at *
    have a1 : (c.toNat : Int) ≥ 48 := by omega
    have a2 : (c.toNat : Int) ≤ 57 := by omega
    go_enter Tryz.func119, Tryz.ntmps119
    go_wp2
    go_ret
    exact ⟨by rw [HR.out] <;> rfl, rfl⟩
  · by_cases h2 : 97 ≤ c.toNat ∧ c.toNat ≤ 102
    · have HR : Hid (dgtI c = (c.toNat : Int) - 87) := by unfold Hid dgtI digV; rw [if_neg h1, if_pos h2]; simp only; omega
      generalize dgtI c = v at *
      generalize c.toNat = n at *
      have a1 : (n : Int) ≥ 97 := by omega
      have a2 : (n : Int) ≤ 102 := by omega
      have a3 : (n : Int) ≥ 48 := by omega
      have a4 : ¬ (n : Int) ≤ 57 := by omega
      go_enter Tryz.func119, Tryz.ntmps119
      go_wp2
      go_ret
      exact ⟨by rw [HR.out] <;> rfl, rfl⟩
    · have HR : Hid (dgtI c = -1) := by unfold Hid dgtI digV; rw [if_neg h1, if_neg h2]
      generalize dgtI c = v at *
      generalize c.toNat = n at *
      by_cases h3 : 48 ≤ n
      · have a1 : (n : Int) ≥ 48 := by omega
        have a2 : ¬ (n : Int) ≤ 57 := by omega
        by_cases h4 : 97 ≤ n
        · have a3 : (n : Int) ≥ 97 := by omega
          have a4 : ¬ (n : Int) ≤ 102 := by omega
          go_enter Tryz.func119, Tryz.ntmps119
          go_wp2
          go_ret
          exact ⟨by rw [HR.out] <;> rfl, rfl⟩
        · have a3 : ¬ (n : Int) ≥ 97 := by omega
          go_enter Tryz.func119, Tryz.ntmps119
          go_wp2
          go_ret
          exact ⟨by rw [HR.out] <;> rfl, rfl⟩
      · have a1 : ¬ (n : Int) ≥ 48 := by omega
        have a3 : ¬ (n : Int) ≥ 97 := by omega
        go_enter Tryz.func119, Tryz.ntmps119
        go_wp2
        go_ret
        exact ⟨by rw [HR.out] <;> rfl, rfl⟩
theorem dgtI_some {c : UInt8} (h : ¬ dgtI c < 0) : digV c = some (dgtI c).toNat ∧ dgtI c < 16 := by
  unfold dgtI at *
  cases hd : digV c with
  | none => rw [hd] at h; simp at h
  | some x => have := digV_lt hd; simp; omega
theorem dgtI_none {c : UInt8} (h : dgtI c < 0) : digV c = none ∧ dgtI c = -1 := by
  unfold dgtI at *
  cases hd : digV c with
  | none => simp
  | some x => rw [hd] at h; simp only at h; omega
theorem take_two {l : List UInt8} {i : Nat} (h : i + 1 < l.length) : (l.drop i).take 2 = [l[i]'(by omega), l[i + 1]'h] := by
  rw [List.drop_eq_getElem_cons (by omega), List.drop_eq_getElem_cons h]; rfl
theorem pair_two {l : List UInt8} {i : Nat} (h : i + 1 < l.length) {x y : Int} (hx : dgtI (l[i]'(by omega)) = x) (hy : dgtI (l[i + 1]'h) = y) :
    pairI l i = if x < 0 ∨ y < 0 then -1 else 16 * x + y := by
  subst hx hy
  unfold pairI
  rw [take_two h]
  by_cases h1 : dgtI (l[i]'(by omega)) < 0
  · rw [if_pos (.inl h1)]; unfold hexV; simp only [(dgtI_none h1).1]
  · by_cases h2 : dgtI (l[i + 1]'h) < 0
    · rw [if_pos (.inr h2)]; unfold hexV; simp only [(dgtI_none h2).1, (dgtI_some h1).1]
    · rw [if_neg (by omega)]; unfold hexV; simp only [(dgtI_some h2).1, (dgtI_some h1).1]; omega
theorem pair_out {l : List UInt8} {i : Nat} (h : ¬ i + 1 < l.length) : pairI l i = -1 := by
  unfold pairI
  have : ((l.drop i).take 2).length < 2 := by rw [List.length_take, List.length_drop]; omega
  cases hx : hexV ((l.drop i).take 2) with
  | none => rfl
  | some x =>
    obtain ⟨a, b, _, _, e, _⟩ := hexV_two hx
    rw [e] at this; simp at this
set_option maxHeartbeats 4000000 in
set_option maxRecDepth 100000 in
theorem rpair_any (l : List UInt8) (i : Nat) (hi : i < 4611686018427387904) (w : World) : Calls Tryz.prog 88 #[.string (bs l), .int .i64 (i : Int)] w (Ans w (.int .i64 (pairI l i))) := by
  by_cases h : i + 1 < l.length
  · have hz : ¬ ((i : Int) + 1 ≥ ((bs l).size : Int)) := by rw [bs_size]; omega
    have hp1 : (i : Int) < ((bs l).size : Int) := by rw [bs_size]; omega
    have hp2 : (i : Int) + 1 < ((bs l).size : Int) := by rw [bs_size]; omega
    have hq1 : i < (bs l).size := by rw [bs_size]; omega
    have hq2 : i + 1 < (bs l).size := by rw [bs_size]; omega
    have hg1 : (bs l)[i]'hq1 = l[i]'(by omega) := bs_get _ _ _
    have hg2 : (bs l)[i + 1]'hq2 = l[i + 1]'h := bs_get _ _ _
    have hn1 : ((i : Int) + 1).toNat = i + 1 := by omega
    obtain ⟨x, hx⟩ : ∃ x, dgtI (l[i]'(by omega)) = x := ⟨_, rfl⟩
    obtain ⟨y, hy⟩ : ∃ y, dgtI (l[i + 1]'h) = y := ⟨_, rfl⟩
    have HP := Lib.hid (pair_two h hx hy)
    have F1 : Hid (∀ w', Calls Tryz.prog 119 #[.int .u8 ((l[i]'(by omega)).toNat : Int)] w' (Pure w' (.int .i64 x))) := fun w' => by have := rdigit_any (l[i]'(by omega)) w'; rwa [hx] at this
    have F2 : Hid (∀ w', Calls Tryz.prog 119 #[.int .u8 ((l[i + 1]'h).toNat : Int)] w' (Pure w' (.int .i64 y))) := fun w' => by have := rdigit_any (l[i + 1]'h) w'; rwa [hy] at this
    have hx15 : x < 16 := by
      by_cases h0 : x < 0
      · omega
      · rw [← hx] at h0 ⊢; exact (dgtI_some h0).2
    have hy15 : y < 16 := by
      by_cases h0 : y < 0
      · omega
      · rw [← hy] at h0 ⊢; exact (dgtI_some h0).2
    generalize pairI l i = v at *
    generalize l[i]'(by omega) = c at *
    generalize l[i + 1]'h = d at *
    clear h hx hy
    by_cases h1 : x < 0
    · have HR : Hid (v = -1) := by unfold Hid; rw [HP.out, if_pos (.inl h1)]
      go_enter Tryz.func88, Tryz.ntmps88
      go_wp2_with fail
      refine (F1.out _).mono ?_; rintro e w' ⟨rfl, rfl⟩
      go_wp2
      go_ret
      exact ⟨by rw [HR.out] <;> rfl, Below.refl _ _⟩
    · by_cases h2 : y < 0
      · have HR : Hid (v = -1) := by unfold Hid; rw [HP.out, if_pos (.inr h2)]
        go_enter Tryz.func88, Tryz.ntmps88
        go_wp2_with fail
        refine (F1.out _).mono ?_; rintro e w' ⟨rfl, rfl⟩
        go_wp2_with fail
        refine (F2.out _).mono ?_; rintro e w' ⟨rfl, rfl⟩
        go_wp2
        go_ret
        exact ⟨by rw [HR.out] <;> rfl, Below.refl _ _⟩
      · have HR : Hid (v = 16 * x + y) := by unfold Hid; rw [HP.out, if_neg (by omega)]
        have g1 : 0 ≤ x := by omega
        have g2 : 0 ≤ y := by omega
        have g3 : 0 ≤ 16 * x := by omega
        have g4 : 16 * x ≤ 240 := by omega
        go_enter Tryz.func88, Tryz.ntmps88
        go_wp2_with fail
        refine (F1.out _).mono ?_; rintro e w' ⟨rfl, rfl⟩
        go_wp2_with fail
        refine (F2.out _).mono ?_; rintro e w' ⟨rfl, rfl⟩
        go_upto_region 3 with (fail)
        refine wp_region_stable (S := (fun x => Below w.heap.size w x)) (hSt := fun _ _ h hb => h.trans (hb.mono h.size)) (plan := [[(0, none)], [(1, none)], [(25, some 0), (26, some 1)], [(27, some 2)], [(28, some 3)], [(0, none)], [(1, none)], [(31, some 6)], [(30, some 5), (32, some 7)], [(33, some 8)], [(29, some 4), (34, some 9)], [(35, some 10)]]) (by kernel_rfl) (by kernel_rfl) (by kernel_rfl) ?hS ?_
        rotate_left
        iterate 12 first
          | (refine chain_skip (by rfl) (by rfl) ?_)
          | (apply chain_want (by rfl)
             · intro act wx hS hr
               simp at hr
               have hq1 := hq1
               go_simp
               (try go_ints)
               first
                 | ((with_reducible refine (F1.out _).mono ?_); rintro e w' ⟨rfl, rfl⟩; exact Done.same)
                 | ((with_reducible refine (F2.out _).mono ?_); rintro e w' ⟨rfl, rfl⟩; exact Done.same)
                 | exact Done.same
            )
        show ∀ w', _ → _
        intro wz hz
        simp [Act.put]
        case hS => exact Below.refl _ _
        have HZ : Hid (Below _ _ _) := hz
        clear hz
        go_wp2
        go_ret
        exact ⟨by rw [HR.out] <;> rfl, HZ.out⟩
  · have hz : ((i : Int) + 1 ≥ ((bs l).size : Int)) := by rw [bs_size]; omega
    have HR := Lib.hid (pair_out h)
    generalize pairI l i = v at *
    clear h
    go_enter Tryz.func88, Tryz.ntmps88
    go_wp2
    go_ret
    exact ⟨by rw [HR.out] <;> rfl, Below.refl _ _⟩
theorem digsOf_end : ∀ (l : List UInt8) (c : UInt8), (l.drop (digsOf l).length).head? = some c → isDig c = false
  | [], c, h => by simp [digsOf] at h
  | x :: l, c, h => by
    unfold digsOf at h
    rw [List.takeWhile_cons] at h
    by_cases hx : isDig x = true
    · rw [if_pos hx] at h
      simp only [List.length_cons, List.drop_succ_cons] at h
      exact digsOf_end l c h
    · rw [if_neg hx] at h
      simp only [List.length_nil, List.drop_zero, List.head?_cons, Option.some.injEq] at h
      rw [← h]; simpa using hx
theorem digs_le (l : List UInt8) (i : Nat) : (digsOf (l.drop i)).length ≤ l.length - i := by
  have e := congrArg List.length (digsOf_split (l.drop i))
  rw [List.length_append, List.length_drop, List.length_drop] at e
  omega
theorem digs_at {l : List UInt8} {i j : Nat} (h : j < (digsOf (l.drop i)).length) : ∃ h2 : i + j < l.length, l[i + j]'h2 = (digsOf (l.drop i))[j]'h ∧ 48 ≤ (l[i + j]'h2).toNat ∧ (l[i + j]'h2).toNat ≤ 57 := by
  have e := digsOf_split (l.drop i)
  have hlen := digs_le l i
  have h2 : i + j < l.length := by omega
  have h3 : (digsOf (l.drop i) ++ (l.drop i).drop (digsOf (l.drop i)).length)[j]? = (digsOf (l.drop i))[j]? := List.getElem?_append_left h
  rw [← e, List.getElem?_drop, List.getElem?_eq_getElem h2, List.getElem?_eq_getElem h] at h3
  have h4 := Option.some.inj h3
  have h5 := digsOf_all (l.drop i) _ (List.getElem_mem h)
  rw [← h4] at h5
  refine ⟨h2, h4, ?_⟩
  unfold isDig at h5; simpa using h5
theorem digs_end {l : List UInt8} {i : Nat} (h : i + (digsOf (l.drop i)).length < l.length) : ¬ (48 ≤ (l[i + (digsOf (l.drop i)).length]'h).toNat ∧ (l[i + (digsOf (l.drop i)).length]'h).toNat ≤ 57) := by
  have := digsOf_end (l.drop i) (l[i + (digsOf (l.drop i)).length]'h) (by rw [List.drop_drop, List.drop_eq_getElem_cons h]; rfl)
  unfold isDig at this
  simp at this; omega
def numRG (l : List UInt8) (i : Nat) : Value := match numV (digsOf (l.drop i)) with
  | some n => .tuple #[.int .i64 (n : Int), .int .i64 ((i + (digsOf (l.drop i)).length : Nat) : Int)]
  | none => .tuple #[.int .i64 (-1), .int .i64 ((i + (digsOf (l.drop i)).length : Nat) : Int)]
def NumG (w0 : World) (i D : Nat) (ds : List UInt8) (nv kv : Value) (w : World) : Prop :=
  ∃ m n : Nat, i ≤ m ∧ m ≤ i + D ∧ n ≤ 256 ∧ nv = .int .i64 (n : Int) ∧ kv = .int .i64 (m : Int) ∧ numF 0 ds = numF n (ds.drop (m - i)) ∧ w0 = w
set_option maxHeartbeats 16000000 in
set_option maxRecDepth 100000 in
theorem rnumber_any (l : List UInt8) (i : Nat) (hl : l.length ≤ 1073741824) (hi : i ≤ l.length) (w : World) : Calls Tryz.prog 59 #[.string (bs l), .int .i64 (i : Int)] w (Pure w (numRG l i)) := by
  obtain ⟨ds, hds⟩ : ∃ ds, digsOf (l.drop i) = ds := ⟨_, rfl⟩
  have hD := digs_le l i
  rw [hds] at hD
  have HAT : Hid (∀ j (h : j < ds.length), ∃ h2 : i + j < l.length, l[i + j]'h2 = ds[j]'h ∧ 48 ≤ (l[i + j]'h2).toNat ∧ (l[i + j]'h2).toNat ≤ 57) := by unfold Hid; subst hds; exact fun j h => digs_at h
  have HEND : Hid (∀ h : i + ds.length < l.length, ¬ (48 ≤ (l[i + ds.length]'h).toNat ∧ (l[i + ds.length]'h).toNat ≤ 57)) := by unfold Hid; subst hds; exact fun h => digs_end h
  obtain ⟨D, hDD⟩ : ∃ D, ds.length = D := ⟨_, rfl⟩
  have HV : Hid (numRG l i = match numV ds with | some n => .tuple #[.int .i64 (n : Int), .int .i64 ((i + D : Nat) : Int)] | none => .tuple #[.int .i64 (-1), .int .i64 ((i + D : Nat) : Int)]) := by unfold Hid numRG; rw [hds, hDD]
  have HH : Hid (∀ (h2 : i < l.length), 0 < D → ds.head? = some (l[i]'h2)) := fun h2 hp => by
    obtain ⟨_, e, _⟩ := HAT.out 0 (by omega)
    rw [List.head?_eq_getElem?, List.getElem?_eq_getElem (by omega), ← e]; rfl
  have HNO : Hid (D = 0 ∨ (1 < D ∧ ∃ h2 : i < l.length, (l[i]'h2).toNat = 48) → numRG l i = .tuple #[.int .i64 (-1), .int .i64 ((i + D : Nat) : Int)]) := fun hh => by
    rw [HV.out]
    have : numV ds = none := by
      unfold numV
      rw [if_pos]
      rcases hh with h0 | ⟨h1, h2, h3⟩
      · exact .inl (List.length_eq_zero_iff.1 (by omega))
      · exact .inr ⟨by omega, by rw [HH.out h2 (by omega)]; congr 1; exact UInt8.toNat_inj.1 h3⟩
    rw [this]
  have HYES : Hid (∀ n, numF 0 ds = numF n (ds.drop D) → D ≠ 0 → (D = 1 ∨ ∃ h2 : i < l.length, (l[i]'h2).toNat ≠ 48) → numRG l i = .tuple #[.int .i64 (n : Int), .int .i64 ((i + D : Nat) : Int)]) := fun n hn h0 hh => by
    rw [HV.out]
    have : numV ds = some n := by
      unfold numV
      rw [if_neg, hn, List.drop_of_length_le (by omega), numF]
      rintro (h1 | ⟨h1, h2⟩)
      · rw [h1] at hDD; simp at hDD; omega
      · rcases hh with h3 | ⟨h3, h4⟩
        · omega
        · rw [HH.out h3 (by omega)] at h2
          exact h4 (by rw [Option.some.inj h2]; rfl)
    rw [this]
  generalize numRG l i = v at *
  have HDL := Lib.hid hDD
  clear hds HV HH hDD
  go_enter Tryz.func59, Tryz.ntmps59
  go_wp2
  go_loopw [6, 7] (NumG w i D ds) (fun _ kv _ => i + D - (intOf kv).toNat)
  case atStart => exact ⟨i, 0, Nat.le_refl _, by omega, by omega, rfl, rfl, by rw [Nat.sub_self]; rfl, rfl⟩
  case round =>
    obtain ⟨m, n, hm1, hm2, hn, rfl, rfl, hnum, rfl⟩ := hrel
    have hDl : i + D ≤ l.length := by have := HDL.out; omega
    by_cases hlt : m < i + D
    · obtain ⟨h2, h3, h4, h5⟩ := HAT.out (m - i) (by have := HDL.out; omega)
      have hmi : i + (m - i) = m := by omega
      simp only [hmi] at h2 h3 h4 h5
      have hq : m < (bs l).size := by rw [bs_size]; exact h2
      have hqz : (m : Int) < ((bs l).size : Int) := by omega
      have hget : (bs l)[m]'hq = l[m]'h2 := bs_get _ _ _
      have HN : Hid (numF 0 ds = numF (min (10 * n + ((l[m]'h2).toNat - 48)) 256) (ds.drop (m + 1 - i))) := by
        unfold Hid
        rw [hnum, List.drop_eq_getElem_cons (by have := HDL.out; omega), ← h3, numF, if_pos ⟨h4, h5⟩, show m - i + 1 = m + 1 - i by omega]
      clear h3 hnum
      generalize l[m]'h2 = cc at *
      have a1 : (cc.toNat : Int) ≥ 48 := by omega
      have a2 : (cc.toNat : Int) ≤ 57 := by omega
      have a3 : (0 : Int) ≤ 10 * (n : Int) := by omega
      have a4 : 10 * (n : Int) ≤ 2560 := by omega
      have hml : (m : Int) ≤ 1073741824 := by omega
      go_wp2
      go_roundw
      case rel => exact ⟨m + 1, min (10 * n + (cc.toNat - 48)) 256, by omega, by omega, by omega, by congr 1; omega, by go_num, HN.out, rfl⟩
      case measure => simp [intOf]; omega
    · have hm : m = i + D := by omega
      have hnum : numF 0 ds = numF n (ds.drop D) := by rw [hnum, show m - i = D by omega]
      rw [← hm] at HNO HYES
      have HM := Lib.hid hm
      clear hm2 hlt
      by_cases hend : m < l.length
      · have hq : m < (bs l).size := by rw [bs_size]; exact hend
        have hqz : (m : Int) < ((bs l).size : Int) := by omega
        have hget : (bs l)[m]'hq = l[m]'hend := bs_get _ _ _
        have hnd : ¬ (48 ≤ (l[m]'hend).toNat ∧ (l[m]'hend).toNat ≤ 57) := by
          have h := HEND.out
          have e : i + ds.length = m := by rw [HDL.out, HM.out]
          simp only [e] at h
          exact h hend
        have h8 : ((l[m]'hend).toNat : Int) ≤ 255 := by have := UInt8.toNat_lt (l[m]'hend); omega
        clear hm
        by_cases h48 : 48 ≤ (l[m]'hend).toNat
        · have a1 : ((l[m]'hend).toNat : Int) ≥ 48 := by omega
          have a2 : ¬ ((l[m]'hend).toNat : Int) ≤ 57 := by omega
          generalize l[m]'hend = cm at *
          have hmm := HM.out
          by_cases hD0 : D = 0
          · have HR := Lib.hid (HNO.out (.inl hD0))
            obtain rfl : m = i := by omega
            have hk0 : ((m : Int) == (m : Int)) = true := by rw [beq_iff_eq]
            clear hmm
            go_wp2
            go_ret2
            exact ⟨by rw [HR.out] <;> rfl, rfl⟩
          · have hk0 : ((m : Int) == (i : Int)) = false := by rw [beq_eq_false_iff_ne]; omega
            by_cases hD1 : D = 1
            · have HR := Lib.hid (HYES.out n hnum (by omega) (.inl hD1))
              have hk1 : ¬ ((m : Int) > (i : Int) + 1) := by omega
              clear hmm
              go_wp2
              go_ret2
              exact ⟨by rw [HR.out] <;> rfl, rfl⟩
            · have hk1 : ((m : Int) > (i : Int) + 1) := by omega
              clear hmm
              obtain ⟨g2, g3, g4, g5⟩ := HAT.out 0 (by have := HDL.out; omega)
              have gq : i < (bs l).size := by rw [bs_size]; exact g2
              have gget : (bs l)[i]'gq = l[i]'g2 := bs_get _ _ _
              clear g3
              by_cases h48 : (l[i]'g2).toNat = 48
              · have HR := Lib.hid (HNO.out (.inr ⟨by omega, g2, h48⟩))
                have hc : (((l[i]'g2).toNat : Int) == 48) = true := by rw [h48]; rfl
                generalize l[i]'g2 = cc at *
                go_wp2
                go_ret2
                exact ⟨by rw [HR.out] <;> rfl, rfl⟩
              · have HR := Lib.hid (HYES.out n hnum (by omega) (.inr ⟨g2, h48⟩))
                have hc : (((l[i]'g2).toNat : Int) == 48) = false := by rw [beq_eq_false_iff_ne]; omega
                generalize l[i]'g2 = cc at *
                go_wp2
                go_ret2
                exact ⟨by rw [HR.out] <;> rfl, rfl⟩
        · have a1 : ¬ ((l[m]'hend).toNat : Int) ≥ 48 := by omega
          generalize l[m]'hend = cm at *
          have hmm := HM.out
          by_cases hD0 : D = 0
          · have HR := Lib.hid (HNO.out (.inl hD0))
            obtain rfl : m = i := by omega
            have hk0 : ((m : Int) == (m : Int)) = true := by rw [beq_iff_eq]
            clear hmm
            go_wp2
            go_ret2
            exact ⟨by rw [HR.out] <;> rfl, rfl⟩
          · have hk0 : ((m : Int) == (i : Int)) = false := by rw [beq_eq_false_iff_ne]; omega
            by_cases hD1 : D = 1
            · have HR := Lib.hid (HYES.out n hnum (by omega) (.inl hD1))
              have hk1 : ¬ ((m : Int) > (i : Int) + 1) := by omega
              clear hmm
              go_wp2
              go_ret2
              exact ⟨by rw [HR.out] <;> rfl, rfl⟩
            · have hk1 : ((m : Int) > (i : Int) + 1) := by omega
              clear hmm
              obtain ⟨g2, g3, g4, g5⟩ := HAT.out 0 (by have := HDL.out; omega)
              have gq : i < (bs l).size := by rw [bs_size]; exact g2
              have gget : (bs l)[i]'gq = l[i]'g2 := bs_get _ _ _
              clear g3
              by_cases h48 : (l[i]'g2).toNat = 48
              · have HR := Lib.hid (HNO.out (.inr ⟨by omega, g2, h48⟩))
                have hc : (((l[i]'g2).toNat : Int) == 48) = true := by rw [h48]; rfl
                generalize l[i]'g2 = cc at *
                go_wp2
                go_ret2
                exact ⟨by rw [HR.out] <;> rfl, rfl⟩
              · have HR := Lib.hid (HYES.out n hnum (by omega) (.inr ⟨g2, h48⟩))
                have hc : (((l[i]'g2).toNat : Int) == 48) = false := by rw [beq_eq_false_iff_ne]; omega
                generalize l[i]'g2 = cc at *
                go_wp2
                go_ret2
                exact ⟨by rw [HR.out] <;> rfl, rfl⟩
      · have hqz : ¬ (m : Int) < ((bs l).size : Int) := by rw [bs_size]; omega
        clear hm
        have hmm := HM.out
        by_cases hD0 : D = 0
        · have HR := Lib.hid (HNO.out (.inl hD0))
          obtain rfl : m = i := by omega
          have hk0 : ((m : Int) == (m : Int)) = true := by rw [beq_iff_eq]
          clear hmm
          go_wp2
          go_ret2
          exact ⟨by rw [HR.out] <;> rfl, rfl⟩
        · have hk0 : ((m : Int) == (i : Int)) = false := by rw [beq_eq_false_iff_ne]; omega
          by_cases hD1 : D = 1
          · have HR := Lib.hid (HYES.out n hnum (by omega) (.inl hD1))
            have hk1 : ¬ ((m : Int) > (i : Int) + 1) := by omega
            clear hmm
            go_wp2
            go_ret2
            exact ⟨by rw [HR.out] <;> rfl, rfl⟩
          · have hk1 : ((m : Int) > (i : Int) + 1) := by omega
            clear hmm
            obtain ⟨g2, g3, g4, g5⟩ := HAT.out 0 (by have := HDL.out; omega)
            have gq : i < (bs l).size := by rw [bs_size]; exact g2
            have gget : (bs l)[i]'gq = l[i]'g2 := bs_get _ _ _
            clear g3
            by_cases h48 : (l[i]'g2).toNat = 48
            · have HR := Lib.hid (HNO.out (.inr ⟨by omega, g2, h48⟩))
              have hc : (((l[i]'g2).toNat : Int) == 48) = true := by rw [h48]; rfl
              generalize l[i]'g2 = cc at *
              go_wp2
              go_ret2
              exact ⟨by rw [HR.out] <;> rfl, rfl⟩
            · have HR := Lib.hid (HYES.out n hnum (by omega) (.inr ⟨g2, h48⟩))
              have hc : (((l[i]'g2).toNat : Int) == 48) = false := by rw [beq_eq_false_iff_ne]; omega
              generalize l[i]'g2 = cc at *
              go_wp2
              go_ret2
              exact ⟨by rw [HR.out] <;> rfl, rfl⟩
def contG (f : Nat) (S : BitVec 256) (l : List UInt8) (i : Nat) : Option (BitVec 256) :=
  if l.length ≤ i then some S else if l.getD i 0 ≠ 44 ∨ i + 1 = l.length then none else itemsG f S (l.drop (i + 1))
theorem pairI_eq (l : List UInt8) (i : Nat) : (pairI l i < 0 ∧ pairI l i = -1 ∧ hexV ((l.drop i).take 2) = none) ∨ (¬ pairI l i < 0 ∧ hexV ((l.drop i).take 2) = some (pairI l i).toNat ∧ pairI l i < 256 ∧ i + 2 ≤ l.length) := by
  unfold pairI
  cases h : hexV ((l.drop i).take 2) with
  | none => left; simp
  | some x =>
    right
    have h1 := hexV_lt h
    obtain ⟨a, b, _, _, e, _⟩ := hexV_two h
    have h2 := congrArg List.length e
    rw [List.length_take, List.length_drop] at h2
    simp at h2 ⊢; omega
theorem cont_eq (f : Nat) (S : BitVec 256) (l : List UInt8) (i : Nat) : (if l.drop i = [] then some S else if (l.drop i).head? ≠ some 44 ∨ (l.drop i).length = 1 then none else itemsG f S ((l.drop i).drop 1)) = contG f S l i := by
  unfold contG
  by_cases h : l.length ≤ i
  · rw [if_pos (by rw [List.drop_eq_nil_iff]; exact h), if_pos h]
  · rw [if_neg (by rw [List.drop_eq_nil_iff]; exact h), if_neg h]
    have h1 : (l.drop i).head? = some (l.getD i 0) := by
      rw [List.drop_eq_getElem_cons (by omega), List.getD_eq_getElem?_getD, List.getElem?_eq_getElem (by omega)]; rfl
    have h2 : (l.drop i).length = 1 ↔ i + 1 = l.length := by rw [List.length_drop]; omega
    rw [h1, List.drop_drop]
    by_cases hc : l.getD i 0 ≠ 44 ∨ i + 1 = l.length
    · rw [if_pos hc, if_pos]
      rcases hc with hc | hc
      · exact .inl fun e => hc (Option.some.inj e)
      · exact .inr (h2.2 hc)
    · rw [if_neg hc, if_neg]
      rintro (hc2 | hc2)
      · exact hc (.inl fun e => hc2 (by rw [e]))
      · exact hc (.inr (h2.1 hc2))
theorem items_at {l : List UInt8} {q f : Nat} {S : BitVec 256} (hq : q < l.length) : itemsG (f + 1) S (l.drop q) =
    if pairI l q < 0 then none
    else if q + 2 < l.length ∧ l.getD (q + 2) 0 = 45 then (if pairI l (q + 3) < pairI l q then none else contG f (S ||| rowB (pairI l q).toNat (pairI l (q + 3)).toNat) l (q + 5))
    else contG f (S ||| rowB (pairI l q).toNat (pairI l q).toNat) l (q + 2) := by
  conv => lhs; unfold itemsG
  rw [if_neg (by rw [List.drop_eq_nil_iff]; omega)]
  rcases pairI_eq l q with ⟨h1, h2, h3⟩ | ⟨h1, h2, h3, h4⟩
  · rw [if_pos h1, h3]
  · rw [if_neg h1, h2]
    simp only [List.drop_drop]
    have h5 : (l.drop (q + 2)).head? = some 45 ↔ (q + 2 < l.length ∧ l.getD (q + 2) 0 = 45) := by
      by_cases h : q + 2 < l.length
      · rw [List.drop_eq_getElem_cons h, List.getD_eq_getElem?_getD, List.getElem?_eq_getElem h]; simp [h]
      · rw [List.drop_of_length_le (by omega)]; simp; omega
    by_cases hd : q + 2 < l.length ∧ l.getD (q + 2) 0 = 45
    · rw [if_pos hd, if_pos (h5.2 hd)]
      simp only
      rcases pairI_eq l (q + 3) with ⟨g1, g2, g3⟩ | ⟨g1, g2, g3, g4⟩
      · rw [g3, if_pos (by omega)]
      · rw [g2]
        simp only
        by_cases hlt : pairI l (q + 3) < pairI l q
        · rw [if_pos hlt, if_pos (by omega)]
        · rw [if_neg hlt, if_neg (by omega)]; exact cont_eq _ _ _ _
    · rw [if_neg hd, if_neg (fun h => hd (h5.1 h))]
      simp only
      rw [if_neg (Nat.lt_irrefl _)]; exact cont_eq _ _ _ _
structure BtS (w0 : World) (S : BitVec 256) (w : World) : Prop where
  bel : Below w0.heap.size w0 w
  res : Blk w w0.heap.size (cells4 0#256) 42
  box : Blk w (w0.heap.size + 1) (cells4 S) 42
theorem BtS.later {w0 w w' : World} {S : BitVec 256} (h : BtS w0 S w) (hb : Below w.heap.size w w') : BtS w0 S w' := ⟨h.bel.trans (hb.mono h.bel.size), h.res.later hb, h.box.later hb⟩
theorem below4' {B : Nat} {w : World} {b : Nat} (hb : B ≤ b) (v0 v1 v2 v3 : Value) : Below B w ((((w.setCell ⟨b, 0, none⟩ v0).setCell ⟨b, 1, none⟩ v1).setCell ⟨b, 2, none⟩ v2).setCell ⟨b, 3, none⟩ v3) :=
  ((((Below.refl B w).setCell (p := ⟨b, 0, none⟩) hb v0).setCell (p := ⟨b, 1, none⟩) hb v1).setCell (p := ⟨b, 2, none⟩) hb v2).setCell (p := ⟨b, 3, none⟩) hb v3
theorem BtS.set {w0 w : World} {S : BitVec 256} (h : BtS w0 S w) (T : BitVec 256) : BtS w0 T ((((w.setCell ⟨w0.heap.size + 1, 0, none⟩ (.int .u64 (wd T 0))).setCell ⟨w0.heap.size + 1, 1, none⟩ (.int .u64 (wd T 1))).setCell ⟨w0.heap.size + 1, 2, none⟩ (.int .u64 (wd T 2))).setCell ⟨w0.heap.size + 1, 3, none⟩ (.int .u64 (wd T 3))) :=
  ⟨h.bel.trans (below4' (Nat.le_succ _) _ _ _ _), (((h.res.setCell_ne (a := ⟨w0.heap.size + 1, 0, none⟩) (Nat.succ_ne_self _) _).setCell_ne (a := ⟨w0.heap.size + 1, 1, none⟩) (Nat.succ_ne_self _) _).setCell_ne (a := ⟨w0.heap.size + 1, 2, none⟩) (Nat.succ_ne_self _) _).setCell_ne (a := ⟨w0.heap.size + 1, 3, none⟩) (Nat.succ_ne_self _) _, h.box.set4 T⟩
def BtP (w : World) (o : Option (BitVec 256)) (e : Ending) (w' : World) : Prop := match o with
  | some s => e = .returned (.tuple #[cls s, .bool true]) ∧ Below w.heap.size w w'
  | none => ∃ s, e = .returned (.tuple #[cls s, .bool false]) ∧ Below w.heap.size w w'
def BtL (w0 : World) (l : List UInt8) (st : Nat) (iv : Value) (w : World) : Prop :=
  ∃ (q : Nat) (S : BitVec 256) (f : Nat), q ≤ l.length ∧ iv = .int .i64 (q : Int) ∧ (l.drop q).length < f ∧ listV (l.drop st) = itemsG f S (l.drop q) ∧ BtS w0 S w
end Go.Proofs.YtcgjmnhmhiddkaaGreatDoor
