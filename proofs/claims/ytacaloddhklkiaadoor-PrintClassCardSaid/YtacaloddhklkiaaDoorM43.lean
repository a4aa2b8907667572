/- The statement PrintClass of layer 6, walked. -/
import Derived.Test.YtacaloddhklkiaaDoorM28
import Derived.Test.YtacaloddhklkiaaDoorM42
namespace Go.Proofs.YtacaloddhklkiaaDoor
open Go Go.RowKit
set_option linter.unusedVariables false
set_option linter.unusedSimpArgs false
set_option maxRecDepth 100000

theorem pread_any : ∀ (l : List UInt8) (r : List Tok), readL l 0 0 = .ok r → l.length ≤ 1073741800 → ∀ (w : World),
    Calls Tryd.prog 15 #[.string (bs l)] w (fun e w' => ∃ A c, e = .returned (.tuple #[.slice A r.length c, .int .i64 0, .int .i64 0]) ∧ TRow w' A r ∧ Below w.heap.size w w') := fun l r h hl w => by
  refine (rread_any l hl w).mono fun e w' hp => ?_
  unfold RdPost at hp
  rw [h] at hp
  obtain ⟨A, c, h1, h2, h3, _⟩ := hp
  exact ⟨A, c, h1, h2, h3⟩
structure PkS (w0 : World) (a : BitVec 256) (w : World) : Prop where
  bel : Below w0.heap.size w0 w
  box : Blk w w0.heap.size (cells4 a) 27
theorem PkS.later {w0 w w' : World} {a : BitVec 256} (h : PkS w0 a w) (hb : Below w.heap.size w w') : PkS w0 a w' := ⟨h.bel.trans (hb.mono h.bel.size), h.box.later hb⟩
structure PlS (w0 : World) (a : BitVec 256) (b o : Nat) (r : List Tok) (w : World) : Prop where
  s : PkS w0 a w
  row : TRow w (some ⟨b, o, none⟩) r
theorem PlS.later {w0 w w' : World} {a : BitVec 256} {b o : Nat} {r : List Tok} (h : PlS w0 a b o r w) (hb : Below w.heap.size w w') : PlS w0 a b o r w' := ⟨h.s.later hb, h.row.later hb⟩
theorem PlS.c4 {w0 w : World} {a : BitVec 256} {b o : Nat} {r : List Tok} {t : Tok} (h : PlS w0 a b o r w) (hr : r.length = 2) (ht : r.getD 0 tok0 = t) : w.cell? ⟨b, o, none⟩ = some (.int .i64 (t.kind : Int)) ∧ w.cell? ⟨b, o + 2, none⟩ = some (.int .u64 (wd t.cls 0)) ∧ w.cell? ⟨b, o + 3, none⟩ = some (.int .u64 (wd t.cls 1)) ∧ w.cell? ⟨b, o + 4, none⟩ = some (.int .u64 (wd t.cls 2)) ∧ w.cell? ⟨b, o + 5, none⟩ = some (.int .u64 (wd t.cls 3)) := by
  obtain ⟨b1, o1, e, hlt, hc⟩ := h.row 0 (by omega)
  cases e
  subst ht
  exact ⟨hc 0 (by omega), hc 2 (by omega), hc 3 (by omega), hc 4 (by omega), hc 5 (by omega)⟩
theorem cntU_le' (c : BitVec 256) : ∀ k, cntU c k ≤ k
  | 0 => Nat.le_refl _
  | k + 1 => by have := cntU_le' c k; unfold cntU; split <;> omega
theorem cntU_ss (c : BitVec 256) (k : Nat) : cntU c (k + 1) = cntU c k + (if c.getLsbD k = true then 1 else 0) := rfl
def PlL (w0 : World) (a : BitVec 256) (b o : Nat) (r : List Tok) (n c : Value) (w : World) : Prop := ∃ k : Nat, k ≤ 256 ∧ c = .int .i64 (k : Int) ∧ n = .int .i64 ((1 + 3 * cntU a k : Nat) : Int) ∧ PlS w0 a b o r w
set_option maxHeartbeats 16000000 in
theorem printclass_walk (a : BitVec 256) (w : World) (hT : T10 w) : Calls Tryd.prog 4 #[cls a] w (Ans w (.bool true)) := by
  have HS0 : Hid (PkS w a (w.alloc (.cells (cells4 a) 27))) := ⟨(Below.refl _ _).alloc (Nat.le_refl _) _, Blk.new _ _ _⟩
  have HT : Hid (T10 (w.alloc (.cells (cells4 a) 27))) := hT.later ((Below.refl w.heap.size w).alloc (Nat.le_refl _) _)
  clear hT
  obtain ⟨v, hv⟩ : ∃ v, clsT a = v := ⟨_, rfl⟩
  have hlen := clsT_len a
  have hc6 := cntU_le' a 256
  have hdot := clsT_dot a
  rw [hv] at hlen hdot
  have HC := Lib.hid (class_any6 a)
  have HRd := Lib.hid (pread_any (clsT a) _ (clsT_read a) (by rw [hv]; omega))
  obtain ⟨r, hr⟩ : ∃ r, [{ kind := 1, at_ := 0, cls := a }, { kind := 10, at_ := (clsT a).length : Tok }] = r := ⟨_, rfl⟩
  rw [hr, hv] at HRd
  have hr2 : r.length = 2 := by rw [← hr]; rfl
  have hr0 : r.getD 0 tok0 = { kind := 1, at_ := 0, cls := a } := by rw [← hr]; rfl
  rw [hv] at HC
  rw [hr2] at HRd
  clear hv hr
  have HH : Hid (∀ (p : Nat), p < 256 → ∀ w', Calls Tryd.prog 16 #[cls a, .int .u8 (p : Int)] w' (Ans w' (.bool (a.getLsbD p)))) := fun p hp w' => refhas_any a p hp w'
  have HRow : Hid (∀ w', Calls Tryd.prog 17 #[.int .u8 0, .int .u8 255] w' (Ans w' (cls (rowB 0 255)))) := fun w' => refrow_any 0 255 (by omega) (by omega) w'
  unfold cls at HC HH ⊢
  unfold cells4 at HS0 HT
  go_enter Tryd.func4, Tryd.ntmps4
  go_upto_region 1 with (fail)
  generalize w.alloc (.cells #[.int .u64 (wd a 0), .int .u64 (wd a 1), .int .u64 (wd a 2), .int .u64 (wd a 3)] 27) = w1 at *
  go_wp2_with fail
  refine (awake6_any _ HT.out).mono ?_; rintro e w2 ⟨rfl, hb⟩
  have HS2 := Lib.hid (HS0.out.later hb)
  clear hb HS0 HT
  obtain ⟨d0, d1, d2, d3⟩ := four_cells6 HS2.out.box
  go_wp2_with fail
  refine (HC.out _).mono ?_; rintro e w3 ⟨rfl, hb⟩
  have HS3 := Lib.hid (HS2.out.later hb)
  clear hb HS2 d0 d1 d2 d3
  go_wp2_with fail
  refine (HRd.out _).mono ?_; rintro e w4 ⟨A, c, rfl, hrow, hb⟩
  obtain ⟨b, o, rfl, -, -⟩ := hrow 0 (by omega)
  have HS4 : Hid (PlS w a b o r w4) := ⟨HS3.out.later hb, hrow⟩
  clear hb hrow HS3
  obtain ⟨c0, c1, c2, c3, c4⟩ := HS4.out.c4 hr2 hr0
  obtain ⟨d0, d1, d2, d3⟩ := four_cells6 HS4.out.s.box
  have heq := eql_cls
  have hg1 := eqGuard_eql
  go_wp2_with fail
  have hne := neq_cls
  have hg2 := eqGuard_neq
  have haa : (a == a) = true := by simp
  clear c0 c1 c2 c3 c4 d0 d1 d2 d3
  refine wp_region_stable (S := (PlS w a b o r)) (hSt := fun _ _ h hb => h.later hb) (plan := [[(5, none)], [(19, some 0)], [(20, some 1)], [(4, none)], [(22, some 3)], [(23, some 4)], [(21, some 2), (24, some 5)], [(25, some 6)], [(4, none)], [(27, some 8)], [(28, some 9)], [(29, some 10)], [(30, some 11)], [(26, some 7), (31, some 12)], [(32, some 13)], [(4, none)], [(34, some 15)], [(35, some 16)], [(36, some 17)], [(1, none)], [(37, some 18), (38, some 19)], [(33, some 14), (39, some 20)]]) (by kernel_rfl) (by kernel_rfl) (by kernel_rfl) ?hS ?_
  rotate_left
  iterate 22 first
    | (refine chain_skip (by rfl) (by rfl) ?_)
    | (apply chain_want (by rfl)
       · intro act wx hS hr
         simp at hr
         obtain ⟨c0, c1, c2, c3, c4⟩ := hS.c4 hr2 hr0
         obtain ⟨d0, d1, d2, d3⟩ := four_cells6 hS.s.box
         go_simp
         (try go_ints)
         first
           | exact Done.same (v := cls a)
           | exact Done.same
      )
  show ∀ w', _ → _
  intro wz hz
  simp [Act.put]
  case hS => exact HS4.out
  have HS5 := Lib.hid hz
  clear hz HS4
  go_upto_region 7 with (fail)
  go_wp2
  go_loopw [7, 8] (PlL w a b o r) (fun _ i _ => 257 - (intOf i).toNat)
  case atStart => exact ⟨0, by omega, rfl, rfl, HS5.out⟩
  case round =>
    obtain ⟨k, hk, rfl, rfl, hs⟩ := hrel
    have HS := Lib.hid hs
    clear hs
    have hck := cntU_le' a k
    obtain ⟨N, hN⟩ : ∃ N, cntU a k = N := ⟨_, rfl⟩
    rw [hN] at hck
    by_cases hlt : k < 256
    · have hltz : (k : Int) < 256 := by omega
      have hk5 : (k : Int) ≤ 255 := by omega
      obtain ⟨d0, d1, d2, d3⟩ := four_cells6 HS.out.s.box
      have CH := Lib.hid (HH.out k hlt)
      have HSS : Hid (cntU a (k + 1) = N + (if a.getLsbD k = true then 1 else 0)) := by unfold Hid; rw [cntU_ss, hN]
      rw [hN]
      clear hN
      cases hbit : a.getLsbD k with
      | false =>
        rw [hbit] at CH HSS
        clear hbit
        go_wp2_with fail
        refine (CH.out _).mono ?_; rintro e w3 ⟨rfl, hb⟩
        have HS3 := Lib.hid (HS.out.later hb)
        clear hb d0 d1 d2 d3
        go_wp2
        go_roundw
        case rel => exact ⟨k + 1, by omega, by go_num, by rw [HSS.out]; go_num, HS3.out⟩
        case measure => simp [intOf]; omega
      | true =>
        rw [hbit] at CH HSS
        clear hbit
        go_wp2_with fail
        refine (CH.out _).mono ?_; rintro e w3 ⟨rfl, hb⟩
        have HS3 := Lib.hid (HS.out.later hb)
        clear hb d0 d1 d2 d3
        go_wp2
        go_roundw
        case rel => exact ⟨k + 1, by omega, by go_num, by rw [HSS.out]; go_num, HS3.out⟩
        case measure => simp [intOf]; omega
    · obtain rfl : k = 256 := by omega
      rw [hN] at hlen
      rw [hN]
      clear hN hlt hc6
      obtain ⟨M, hM⟩ : ∃ M, 1 + 3 * N = M := ⟨_, rfl⟩
      have hM9 : M ≤ 769 := by omega
      rw [hM] at hlen
      rw [hM]
      clear hM hck hk
      have hsz : ((bs v).size : Int) ≤ max (M : Int) 2 := by rw [bs_size v]; omega
      obtain ⟨x, hx, hy⟩ : ∃ x : Bool, (a == rowB 0 255) = x ∧ ((bs v).toList == [46]) = x := by
        rw [bs_toList]
        by_cases hv : v = [46]
        · exact ⟨true, by rw [beq_iff_eq]; exact hdot.1 hv, by rw [hv]; rfl⟩
        · exact ⟨false, by rw [beq_eq_false_iff_ne]; exact fun h => hv (hdot.2 h), by rw [beq_eq_false_iff_ne]; exact hv⟩
      have hxx : (x == x) = true := by simp
      clear hlen hdot HC HRd HH
      go_upto_region 13 with (fail)
      refine wp_region_stable (S := (PlS w a b o r)) (hSt := fun _ _ h hb => h.later hb) (plan := [[(3, none)], [(51, some 0)], [(7, none)], [(53, some 2)], [(52, some 1), (54, some 3)], [(55, some 4)], [(3, none)], [(57, some 6)], [(1, none)], [], [(59, some 8), (60, some 9)], [(58, some 7), (61, some 10)], [(56, some 5), (62, some 11)], [(63, some 12)]]) (by kernel_rfl) (by kernel_rfl) (by kernel_rfl) ?hS ?_
      rotate_left
      iterate 14 first
        | (refine chain_skip (by rfl) (by rfl) ?_)
        | (apply chain_want (by rfl)
           · intro act wx hS hr
             simp at hr
             obtain ⟨d0, d1, d2, d3⟩ := four_cells6 hS.s.box
             go_simp
             (try go_ints)
             first
               | exact Done.same (v := cls a)
               | (refine (HRow.out _).mono ?_; rintro e w' ⟨rfl, hb⟩; exact Done.mk hb)
               | exact Done.same
          )
      show ∀ w', _ → _
      intro wz hz
      simp [Act.put]
      case hS => exact HS.out
      have HZ := Lib.hid hz
      clear hz
      go_wp2
      go_ret
      refine ⟨?_, HZ.out.s.bel⟩
      clear hne heq hg1 hg2
      simp [hy]
end Go.Proofs.YtacaloddhklkiaaDoor
