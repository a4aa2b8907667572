/- The parser's or: walked. -/
import Derived.Test.YtcgjmnhmhiddkaaGreatDoorM25
namespace Go.Proofs.YtcgjmnhmhiddkaaGreatDoor
open Go Go.RowKit
set_option linter.unusedVariables false
set_option linter.unusedSimpArgs false
def ModL (md : Int → Md) (w0 : World) (B pb : Nat) (A : Option Addr) (cp : Nat) (l : List Tk) (N : Nat) (r : PR) (i : Value) (w : World) : Prop :=
  ∃ (a : Int) (u : PS) (k : Nat), i = .int .i64 a ∧ k ≤ N ∧ run l k (md a) u = r ∧ Inv u ∧ Pst w B pb A cp l u ∧ Fr B w0 w
theorem tk_out {l : List Tk} {p : Nat} {x : Tk} {k : Int} (hx : tkAt l p = x) (h : x.kind = k) (hk : k ≠ 10) : p < l.length := tk_in (by rw [hx, h]; exact hk)
set_option maxHeartbeats 8000000 in
set_option maxRecDepth 100000 in
theorem or_step {l : List Tk} {n : Nat} (IH : ∀ k, k ≤ n → RunC l k) {s : PS} (hi : Inv s) (hne : run l (n + 1) .or s ≠ .out) : CallM 117 l s (run l (n + 1) .or s) := by
  intro w B pb A cp hP
  obtain ⟨r, hr⟩ : ∃ r, run l (n + 1) .or s = r := ⟨_, rfl⟩
  rw [hr] at hne ⊢
  obtain ⟨r1, h1⟩ : ∃ r1, run l n .row s = r1 := ⟨_, rfl⟩
  have hu : r1.bind (fun a s => run l n (.orL a) s) = r := by rw [← h1, ← hr]; rfl
  have h1o : r1 ≠ .out := fun e => hne (by rw [← hu, e]; rfl)
  have HC0 := IH n (Nat.le_refl _) .row _ s rfl hi (by rw [h1]; exact h1o) w B pb A cp hP
  rw [h1] at HC0
  have HC := Lib.hid HC0
  have HI := Lib.hid IH
  have HN := Lib.hid hne
  have HQ : Hid (∀ a u, r1 = .ok a u → Inv u ∧ run l n (.orL a) u = r) := fun a u e => by
    rw [e] at h1 hu
    exact ⟨⟨by have := (run_inv h1 hi).1; simp only [moreM, lessM] at this; omega, (run_inv h1 hi).2⟩, hu⟩
  have HQB : Hid (∀ e p, r1 = .bad e p → r = .bad e p) := fun e p h => by rw [h] at hu; exact hu.symm
  have hbs := hP.heap
  have hlong := hP.long
  clear HC0 IH hne hu h1o h1 hr hP hi
  go_enter Tryz.func117, Tryz.ntmps117
  go_wp2_with fail
  refine HC.out.mono ?_; intro e1 w1 hq
  cases r1 with
  | out => exact absurd hq id
  | bad e p =>
    obtain ⟨rfl, hb1⟩ := hq
    have hrr := HQB.out e p rfl
    have HB1 := Lib.hid hb1
    clear HC HQ HI HN hb1 HQB
    subst hrr
    go_wp2
    exact ⟨rfl, (by assumption : ftE e p = _).symm, HB1.out⟩
  | ok a u =>
    obtain ⟨rfl, hP1, hb1⟩ := hq
    obtain ⟨hiu, hru⟩ := HQ.out a u rfl
    have HL : Hid (ModL .orL w B pb A cp l n r (.int .i64 a) w1) := ⟨a, u, n, rfl, Nat.le_refl _, hru, hiu, hP1, hb1⟩
    clear hP1 hb1 hiu hru HC HQ HQB
    go_wp2
    go_loopw [3] (ModL .orL w B pb A cp l n r) (fun _ wr => l.length + 1 - rdOf wr pb)
    case atStart => exact HL.out
    case round =>
      obtain ⟨a', u', k, rfl, hk, hrun, hiu, hPu, hbu⟩ := hrel
      have hlong2 := hlong
      cases k with
      | zero => exact absurd (show r = .out from hrun.symm) HN.out
      | succ k =>
        have HT := Lib.hid hPu.token
        obtain ⟨x, hx⟩ : ∃ x, tkAt l u'.read = x := ⟨_, rfl⟩
        rw [hx] at HT
        by_cases h5 : x.kind = 5
        · have e5 : (x.kind == 5) = true := by rw [h5]; rfl
          have hr2 : (run l k .row u'.next).bind (fun b s => run l k (.orL (s.count : Int)) (s.lay { kind := 5, a := a', b := b } (-1))) = r := by rw [← hrun]; simp only [run]; rw [hx, if_pos h5]
          obtain ⟨r2, h2⟩ : ∃ r2, run l k .row u'.next = r2 := ⟨_, rfl⟩
          rw [h2] at hr2
          have h2o : r2 ≠ .out := fun e => HN.out (by rw [← hr2, e]; rfl)
          have hin := tk_out hx h5 (by decide)
          have hread : u'.read < 16777216 := by omega
          have HC2 : Hid (∀ w, Pst w B pb A cp l u'.next → Calls Tryz.prog 138 #[.pointer (some ⟨pb, 0, none⟩)] w (RunPost B pb A cp l w r2)) := fun w h => by
            have q := HI.out k (by omega) .row _ u'.next rfl hiu.next (by rw [h2]; exact h2o) w B pb A cp h
            rw [h2] at q; exact q
          have H2 : Hid (∀ b v, r2 = .ok b v → u'.read < v.read ∧ v.count + 1 ≤ 2 * v.read ∧ KeptO v ∧ run l k (.orL (v.count : Int)) (v.lay { kind := 5, a := a', b := b } (-1)) = r) := fun b v e => by
            rw [e] at h2 hr2
            have q1 := run_inv h2 hiu.next
            have q2 := (run_read _ _ _ _ _ h2).1
            simp only [moreM, lessM, eats, PS.next] at q1 q2
            exact ⟨by omega, by omega, q1.2, hr2⟩
          have H2B : Hid (∀ e p, r2 = .bad e p → r = .bad e p) := fun e p h => by rw [h] at hr2; exact hr2.symm
          have HPu := Lib.hid hPu
          have HBu := Lib.hid hbu
          clear hr2 h2o h2 hrun hPu hbu hx hiu h5 HL
          unfold tkC at HT
          go_wp2_with fail
          refine HT.out.mono ?_; rintro e2 w2 ⟨rfl, hb2⟩
          have hf0 := field_tok0 x.kind x.at_ x.lo x.hi (wd x.cls 0) (wd x.cls 1) (wd x.cls 2) (wd x.cls 3) (bs x.text) w2
          have HP2 := Lib.hid (HPu.out.later hb2)
          have HB2 := Lib.hid (HBu.out.trans (Fr.of hb2 HPu.out.heap))
          have c1 := HP2.out.cell1
          have fz := HP2.out.frozen 1
          have hw := wrap_of (by omega : (u'.read : Int) + 1 ≤ 1073741824) (by omega : (0 : Int) ≤ (u'.read : Int) + 1)
          have HP3 := Lib.hid (HP2.out.next hread)
          have HB3 := Lib.hid (HB2.out.setP HP2.out 1 (.int .i64 ((u'.read : Int) + 1)))
          have hrd := HPu.out.rdOf
          clear hb2 HT HPu HBu HP2 HB2
          go_upto_region 4 with (fail)
          generalize w2.setCell ⟨pb, 1, none⟩ (.int .i64 ((u'.read : Int) + 1)) = w3 at *
          clear c1 fz hw e5
          go_wp2_with fail
          refine (HC2.out w3 HP3.out).mono ?_; intro e3 w4 hq
          cases r2 with
          | out => exact absurd hq id
          | bad e p =>
            obtain ⟨rfl, hb4⟩ := hq
            have hrr := H2B.out e p rfl
            have HB4 := Lib.hid (HB3.out.trans hb4)
            clear HC2 H2 H2B HI HN hb4 HB3 HP3
            subst hrr
            go_wp2
            exact ⟨rfl, (by assumption : ftE e p = _).symm, HB4.out⟩
          | ok b v =>
            obtain ⟨rfl, hP4, hb4⟩ := hq
            obtain ⟨hv1, hv2, hv3, hv4⟩ := H2.out b v rfl
            have HB4 := Lib.hid (HB3.out.trans hb4)
            have HY := Lib.hid (hP4.lay (by omega) hv3 { kind := 5, a := a', b := b } (-1))
            rw [ndC_zero] at HY
            have HV4 := Lib.hid hv4
            have HIV := Lib.hid (Inv.lay1 hv2 hv3 { kind := 5, a := a', b := b } (-1))
            have HVR : Hid (v.read = (v.lay { kind := 5, a := a', b := b } (-1)).read) := (lay_read _ _ _).1.symm
            clear HC2 H2 H2B HB3 HP3 hP4 hb4 hv4
            go_wp2_with fail
            refine HY.out.mono ?_; intro e5 w5 hq
            obtain ⟨rfl, hP5, hb5⟩ := hq
            have HP5 := Lib.hid hP5
            have HB5 := Lib.hid (HB4.out.trans hb5)
            clear hP5 hb5 HY HB4
            go_wp2
            go_roundw
            case rel => exact ⟨_, _, k, rfl, by omega, HV4.out, HIV.out, HP5.out, HB5.out⟩
            case measure =>
              rw [HP5.out.rdOf, hrd, ← HVR.out]
              omega
        · have e5 : (x.kind == 5) = false := beq_false_of_ne h5
          have hr2 : r = .ok a' u' := by rw [← hrun]; simp only [run]; rw [hx, if_neg h5]
          subst hr2
          have HPu := Lib.hid hPu
          have HBu := Lib.hid hbu
          clear hrun hPu hbu hx hiu h5 HL
          unfold tkC at HT
          go_wp2_with fail
          refine HT.out.mono ?_; rintro e2 w2 ⟨rfl, hb2⟩
          have hf0 := field_tok0 x.kind x.at_ x.lo x.hi (wd x.cls 0) (wd x.cls 1) (wd x.cls 2) (wd x.cls 3) (bs x.text) w2
          have HP2 := Lib.hid (HPu.out.later hb2)
          have HB2 := Lib.hid (HBu.out.trans (Fr.of hb2 HPu.out.heap))
          clear hb2 HT HPu HBu
          go_wp2
          exact bodyPost_ret (v := .int .i64 a') (by simp [results, Tryz.results117, go_sem]) rfl ⟨rfl, HP2.out, HB2.out⟩
set_option maxHeartbeats 8000000 in
set_option maxRecDepth 100000 in
theorem row_step {l : List Tk} {n : Nat} (IH : ∀ k, k ≤ n → RunC l k) {s : PS} (hi : Inv s) (hne : run l (n + 1) .row s ≠ .out) : CallM 138 l s (run l (n + 1) .row s) := by
  intro w B pb A cp hP
  obtain ⟨r, hr⟩ : ∃ r, run l (n + 1) .row s = r := ⟨_, rfl⟩
  rw [hr] at hne ⊢
  obtain ⟨r1, h1⟩ : ∃ r1, run l n .post s = r1 := ⟨_, rfl⟩
  have hu : r1.bind (fun a s => run l n (.rowL a) s) = r := by rw [← h1, ← hr]; rfl
  have h1o : r1 ≠ .out := fun e => hne (by rw [← hu, e]; rfl)
  have HC0 := IH n (Nat.le_refl _) .post _ s rfl hi (by rw [h1]; exact h1o) w B pb A cp hP
  rw [h1] at HC0
  have HC := Lib.hid HC0
  have HI := Lib.hid IH
  have HN := Lib.hid hne
  have HQ : Hid (∀ a u, r1 = .ok a u → Inv u ∧ run l n (.rowL a) u = r) := fun a u e => by
    rw [e] at h1 hu
    exact ⟨⟨by have := (run_inv h1 hi).1; simp only [moreM, lessM] at this; omega, (run_inv h1 hi).2⟩, hu⟩
  have HQB : Hid (∀ e p, r1 = .bad e p → r = .bad e p) := fun e p h => by rw [h] at hu; exact hu.symm
  have hbs := hP.heap
  have hlong := hP.long
  clear HC0 IH hne hu h1o h1 hr hP hi
  go_enter Tryz.func138, Tryz.ntmps138
  go_wp2_with fail
  refine HC.out.mono ?_; intro e1 w1 hq
  cases r1 with
  | out => exact absurd hq id
  | bad e p =>
    obtain ⟨rfl, hb1⟩ := hq
    have hrr := HQB.out e p rfl
    have HB1 := Lib.hid hb1
    clear HC HQ HI HN hb1 HQB
    subst hrr
    go_wp2
    exact ⟨rfl, (by assumption : ftE e p = _).symm, HB1.out⟩
  | ok a u =>
    obtain ⟨rfl, hP1, hb1⟩ := hq
    obtain ⟨hiu, hru⟩ := HQ.out a u rfl
    have HL : Hid (ModL .rowL w B pb A cp l n r (.int .i64 a) w1) := ⟨a, u, n, rfl, Nat.le_refl _, hru, hiu, hP1, hb1⟩
    clear hP1 hb1 hiu hru HC HQ HQB
    go_wp2
    go_loopw [3] (ModL .rowL w B pb A cp l n r) (fun _ wr => l.length + 1 - rdOf wr pb)
    case atStart => exact HL.out
    case round =>
      obtain ⟨a', u', k, rfl, hk, hrun, hiu, hPu, hbu⟩ := hrel
      have hlong2 := hlong
      cases k with
      | zero => exact absurd (show r = .out from hrun.symm) HN.out
      | succ k =>
        have HT := Lib.hid hPu.token
        obtain ⟨x, hx⟩ : ∃ x, tkAt l u'.read = x := ⟨_, rfl⟩
        rw [hx] at HT
        have hbg0 := begins_any x
        by_cases h5 : begK x.kind = true
        · rw [h5] at hbg0
          unfold tkC at hbg0
          have HBG := Lib.hid hbg0
          clear hbg0
          have hr2 : (run l k .post u').bind (fun b s => run l k (.rowL (s.count : Int)) (s.lay { kind := 4, a := a', b := b } (-1))) = r := by rw [← hrun]; simp only [run]; rw [hx, if_pos h5]
          obtain ⟨r2, h2⟩ : ∃ r2, run l k .post u' = r2 := ⟨_, rfl⟩
          rw [h2] at hr2
          have h2o : r2 ≠ .out := fun e => HN.out (by rw [← hr2, e]; rfl)
          have hin := (tk_in (by rw [hx]; intro e; rw [e] at h5; revert h5; decide) : u'.read < l.length)
          have hread : u'.read < 16777216 := by omega
          have HC2 : Hid (∀ w, Pst w B pb A cp l u' → Calls Tryz.prog 154 #[.pointer (some ⟨pb, 0, none⟩)] w (RunPost B pb A cp l w r2)) := fun w h => by
            have q := HI.out k (by omega) .post _ u' rfl hiu (by rw [h2]; exact h2o) w B pb A cp h
            rw [h2] at q; exact q
          have H2 : Hid (∀ b v, r2 = .ok b v → u'.read < v.read ∧ v.count + 1 ≤ 2 * v.read ∧ KeptO v ∧ run l k (.rowL (v.count : Int)) (v.lay { kind := 4, a := a', b := b } (-1)) = r) := fun b v e => by
            rw [e] at h2 hr2
            have q1 := run_inv h2 hiu
            have q2 := (run_read _ _ _ _ _ h2).1
            simp only [moreM, lessM, eats] at q1 q2
            exact ⟨by omega, by omega, q1.2, hr2⟩
          have H2B : Hid (∀ e p, r2 = .bad e p → r = .bad e p) := fun e p h => by rw [h] at hr2; exact hr2.symm
          have HPu := Lib.hid hPu
          have HBu := Lib.hid hbu
          clear hr2 h2o h2 hrun hPu hbu hx hiu h5 HL
          unfold tkC at HT
          go_wp2_with fail
          refine HT.out.mono ?_; rintro e2 w2 ⟨rfl, hb2⟩
          have hf0 := field_tok0 x.kind x.at_ x.lo x.hi (wd x.cls 0) (wd x.cls 1) (wd x.cls 2) (wd x.cls 3) (bs x.text) w2
          have HP2 := Lib.hid (HPu.out.later hb2)
          have HB2 := Lib.hid (HBu.out.trans (Fr.of hb2 HPu.out.heap))
          have hrd := HPu.out.rdOf
          clear hb2 HT HPu HBu
          go_wp2_with fail
          refine (HBG.out w2).mono ?_; rintro e9 w3 ⟨rfl, hb3⟩
          have HP3 := Lib.hid (HP2.out.later hb3)
          have HB3 := Lib.hid (HB2.out.trans (Fr.of hb3 HP2.out.heap))
          clear hb3 HP2 HB2 HBG hf0
          go_wp2_with fail
          refine (HC2.out w3 HP3.out).mono ?_; intro e3 w4 hq
          cases r2 with
          | out => exact absurd hq id
          | bad e p =>
            obtain ⟨rfl, hb4⟩ := hq
            have hrr := H2B.out e p rfl
            have HB4 := Lib.hid (HB3.out.trans hb4)
            clear HC2 H2 H2B HI HN hb4 HB3 HP3
            subst hrr
            go_wp2
            exact ⟨rfl, (by assumption : ftE e p = _).symm, HB4.out⟩
          | ok b v =>
            obtain ⟨rfl, hP4, hb4⟩ := hq
            obtain ⟨hv1, hv2, hv3, hv4⟩ := H2.out b v rfl
            have HB4 := Lib.hid (HB3.out.trans hb4)
            have HY := Lib.hid (hP4.lay (by omega) hv3 { kind := 4, a := a', b := b } (-1))
            rw [ndC_zero] at HY
            have HV4 := Lib.hid hv4
            have HIV := Lib.hid (Inv.lay1 hv2 hv3 { kind := 4, a := a', b := b } (-1))
            have HVR : Hid (v.read = (v.lay { kind := 4, a := a', b := b } (-1)).read) := (lay_read _ _ _).1.symm
            clear HC2 H2 H2B HB3 HP3 hP4 hb4 hv4
            go_wp2_with fail
            refine HY.out.mono ?_; intro e5 w5 hq
            obtain ⟨rfl, hP5, hb5⟩ := hq
            have HP5 := Lib.hid hP5
            have HB5 := Lib.hid (HB4.out.trans hb5)
            clear hP5 hb5 HY HB4
            go_wp2
            go_roundw
            case rel => exact ⟨_, _, k, rfl, by omega, HV4.out, HIV.out, HP5.out, HB5.out⟩
            case measure =>
              rw [HP5.out.rdOf, hrd, ← HVR.out]
              omega
        · have hbf : begK x.kind = false := by simpa using h5
          rw [hbf] at hbg0
          unfold tkC at hbg0
          have HBG := Lib.hid hbg0
          clear hbg0 hbf
          have hr2 : r = .ok a' u' := by rw [← hrun]; simp only [run]; rw [hx, if_neg h5]
          subst hr2
          have HPu := Lib.hid hPu
          have HBu := Lib.hid hbu
          clear hrun hPu hbu hx hiu h5 HL
          unfold tkC at HT
          go_wp2_with fail
          refine HT.out.mono ?_; rintro e2 w2 ⟨rfl, hb2⟩
          have hf0 := field_tok0 x.kind x.at_ x.lo x.hi (wd x.cls 0) (wd x.cls 1) (wd x.cls 2) (wd x.cls 3) (bs x.text) w2
          have HP2 := Lib.hid (HPu.out.later hb2)
          have HB2 := Lib.hid (HBu.out.trans (Fr.of hb2 HPu.out.heap))
          clear hb2 HT HPu HBu hf0
          go_wp2_with fail
          refine (HBG.out w2).mono ?_; rintro e9 w3 ⟨rfl, hb3⟩
          have HP3 := Lib.hid (HP2.out.later hb3)
          have HB3 := Lib.hid (HB2.out.trans (Fr.of hb3 HP2.out.heap))
          clear hb3 HP2 HB2 HBG
          go_wp2
          exact bodyPost_ret (v := .int .i64 a') (by simp [results, Tryz.results138, go_sem]) rfl ⟨rfl, HP3.out, HB3.out⟩
set_option maxHeartbeats 16000000 in
set_option maxRecDepth 100000 in
theorem post_step {l : List Tk} {n : Nat} (IH : ∀ k, k ≤ n → RunC l k) {s : PS} (hi : Inv s) (hne : run l (n + 1) .post s ≠ .out) : CallM 154 l s (run l (n + 1) .post s) := by
  intro w B pb A cp hP
  obtain ⟨r, hr⟩ : ∃ r, run l (n + 1) .post s = r := ⟨_, rfl⟩
  rw [hr] at hne ⊢
  obtain ⟨r1, h1⟩ : ∃ r1, run l n .atom s = r1 := ⟨_, rfl⟩
  have hu : r1.bind (fun a s => run l n (.postL a) s) = r := by rw [← h1, ← hr]; rfl
  have h1o : r1 ≠ .out := fun e => hne (by rw [← hu, e]; rfl)
  have HC0 := IH n (Nat.le_refl _) .atom _ s rfl hi (by rw [h1]; exact h1o) w B pb A cp hP
  rw [h1] at HC0
  have HC := Lib.hid HC0
  have HN := Lib.hid hne
  have HQ : Hid (∀ a u, r1 = .ok a u → Inv u ∧ run l n (.postL a) u = r) := fun a u e => by
    rw [e] at h1 hu
    exact ⟨⟨by have := (run_inv h1 hi).1; simp only [moreM, lessM] at this; omega, (run_inv h1 hi).2⟩, hu⟩
  have HQB : Hid (∀ e p, r1 = .bad e p → r = .bad e p) := fun e p h => by rw [h] at hu; exact hu.symm
  have hbs := hP.heap
  have hlong := hP.long
  clear HC0 IH hne hu h1o h1 hr hP hi
  go_enter Tryz.func154, Tryz.ntmps154
  go_wp2_with fail
  refine HC.out.mono ?_; intro e1 w1 hq
  cases r1 with
  | out => exact absurd hq id
  | bad e p =>
    obtain ⟨rfl, hb1⟩ := hq
    have hrr := HQB.out e p rfl
    have HB1 := Lib.hid hb1
    clear HC HQ HN hb1 HQB
    subst hrr
    go_wp2
    exact ⟨rfl, (by assumption : ftE e p = _).symm, HB1.out⟩
  | ok a u =>
    obtain ⟨rfl, hP1, hb1⟩ := hq
    obtain ⟨hiu, hru⟩ := HQ.out a u rfl
    have HL : Hid (ModL .postL w B pb A cp l n r (.int .i64 a) w1) := ⟨a, u, n, rfl, Nat.le_refl _, hru, hiu, hP1, hb1⟩
    clear hP1 hb1 hiu hru HC HQ HQB
    go_wp2
    go_loopw [3] (ModL .postL w B pb A cp l n r) (fun _ wr => l.length + 1 - rdOf wr pb)
    case atStart => exact HL.out
    case round =>
      obtain ⟨a', u', k, rfl, hk, hrun, hiu, hPu, hbu⟩ := hrel
      cases k with
      | zero => exact absurd (show r = .out from hrun.symm) HN.out
      | succ k =>
        have HT := Lib.hid hPu.token
        obtain ⟨x, hx⟩ : ∃ x, tkAt l u'.read = x := ⟨_, rfl⟩
        rw [hx] at HT
        have HPu := Lib.hid hPu
        have HBu := Lib.hid hbu
        have hrd := hPu.rdOf
        unfold tkC at HT
        have HRU : Hid (if x.kind = 6 then run l k (.postL (u'.count : Int)) (u'.lay { kind := 6, a := a' } x.at_).next = r else if x.kind = 7 then run l k (.postL (u'.count : Int)) (u'.lay { kind := 7, a := a', lo := x.lo, hi := x.hi } x.at_).next = r else r = .ok a' u') := by
          unfold Hid
          rw [← hrun]
          simp only [run]
          rw [hx]
          split
          · rfl
          · split <;> rfl
        have HIN : Hid (x.kind ≠ 10 → u'.read < l.length) := fun h => tk_in (by rw [hx]; exact h)
        have HIU := Lib.hid hiu
        clear HL hrun hPu hbu hx hiu
        go_wp2_with fail
        refine HT.out.mono ?_; rintro e2 w2 ⟨rfl, hb2⟩
        have HP2 := Lib.hid (HPu.out.later hb2)
        have HB2 := Lib.hid (HBu.out.trans (Fr.of hb2 HPu.out.heap))
        clear hb2 HT HPu HBu
        have hk9 := Lib.hid (Blk.new w2 (tkC x) 76)
        have hb9 := Lib.hid ((Below.refl w2.heap.size w2).alloc (Nat.le_refl _) (.cells (tkC x) 76))
        unfold tkC at hk9 hb9
        go_upto_region 3 with (fail)
        generalize w2.alloc (.cells #[.int .i64 x.kind, .int .i64 x.at_, .int .u64 (wd x.cls 0), .int .u64 (wd x.cls 1), .int .u64 (wd x.cls 2), .int .u64 (wd x.cls 3), .string (bs x.text), .int .i64 x.lo, .int .i64 x.hi] 76) = w3 at *
        have HP3 := Lib.hid (HP2.out.later hb9.out)
        have HB3 := Lib.hid (HB2.out.trans (Fr.of hb9.out HP2.out.heap))
        clear HP2 HB2 hb9
        generalize w2.heap.size = tb at *
        obtain ⟨t0, t1, t2, t3, t4, t5, t6, t7, t8⟩ := nine_cells hk9.out
        clear hk9
        by_cases h6 : x.kind = 6
        · have e6 : (x.kind == 6) = true := by rw [h6]; rfl
          have hin := HIN.out (by rw [h6]; decide)
          have hru := HRU.out
          rw [if_pos h6] at hru
          have HIU2 := HIU.out
          obtain ⟨nn, hnn⟩ : ∃ nn : Nd, { kind := 6, a := a' } = nn := ⟨_, rfl⟩
          have HY0 := HP3.out.lay (by have := HIU2.1; omega) HIU2.2 { kind := 6, a := a' } x.at_
          rw [ndC_zero] at HY0
          rw [hnn] at HY0 hru
          obtain ⟨v, hve⟩ : ∃ v, u'.lay nn x.at_ = v := ⟨_, rfl⟩
          have hvr : v.read = u'.read := by rw [← hve]; exact (lay_read _ _ _).1
          have HIV : Hid (Inv v.next) := by unfold Hid; rw [← hve]; exact HIU2.lay2 _ _
          unfold layK at HY0
          rw [hve] at HY0 hru
          have HY := Lib.hid HY0
          have HRV := Lib.hid hru
          have hread : v.read < 16777216 := by omega
          have hrin : v.read < l.length := by omega
          have HVR := Lib.hid hvr
          clear HY0 hru hve hnn hvr HRU HIN HIU HIU2 hin
          try clear h7
          clear h6
          go_wp2_with fail
          refine HY.out.mono ?_; intro e5 w5 hq
          obtain ⟨rfl, hP5, hb5⟩ := hq
          have HP5 := Lib.hid hP5
          have HB5 := Lib.hid (HB3.out.trans hb5)
          have c1 := hP5.cell1
          have fz := hP5.frozen 1
          have hw := wrap_of (by omega : (v.read : Int) + 1 ≤ 1073741824) (by omega : (0 : Int) ≤ (v.read : Int) + 1)
          have HP6 := Lib.hid (hP5.next hread)
          have HB6 := Lib.hid (HB5.out.setP hP5 1 (.int .i64 ((v.read : Int) + 1)))
          clear hP5 hb5 HY HB3 HP3 HP5 HB5 t0 t1 t2 t3 t4 t5 t6 t7 t8
          go_wp2
          go_roundw
          case rel => exact ⟨_, _, k, rfl, by omega, HRV.out, HIV.out, HP6.out, HB6.out⟩
          case measure =>
            have q := HP6.out.rdOf
            simp only [PS.next] at q
            rw [q, hrd]
            have hvr := HVR.out
            omega
        · by_cases h7 : x.kind = 7
          · have e6 : (x.kind == 6) = false := beq_false_of_ne h6
            have e7 : (x.kind == 7) = true := by rw [h7]; rfl
            have hin := HIN.out (by rw [h7]; decide)
            have hru := HRU.out
            rw [if_neg h6, if_pos h7] at hru
            have HIU2 := HIU.out
            have HY0 := HP3.out.lay (by have := HIU2.1; omega) HIU2.2 { kind := 7, a := a', lo := x.lo, hi := x.hi } x.at_
            rw [ndC_zero] at HY0
            obtain ⟨nn, hnn⟩ : ∃ nn : Nd, { kind := 7, a := a', lo := x.lo, hi := x.hi } = nn := ⟨_, rfl⟩
            rw [hnn] at HY0 hru
            obtain ⟨v, hve⟩ : ∃ v, u'.lay nn x.at_ = v := ⟨_, rfl⟩
            have hvr : v.read = u'.read := by rw [← hve]; exact (lay_read _ _ _).1
            have HIV : Hid (Inv v.next) := by unfold Hid; rw [← hve]; exact HIU2.lay2 _ _
            unfold layK at HY0
            rw [hve] at HY0 hru
            have HY := Lib.hid HY0
            have HRV := Lib.hid hru
            have hread : v.read < 16777216 := by omega
            have hrin : v.read < l.length := by omega
            have HVR := Lib.hid hvr
            clear HY0 hru hve hnn hvr HRU HIN HIU HIU2 hin
            try clear h7
            clear h6
            go_wp2_with fail
            refine HY.out.mono ?_; intro e5 w5 hq
            obtain ⟨rfl, hP5, hb5⟩ := hq
            have HP5 := Lib.hid hP5
            have HB5 := Lib.hid (HB3.out.trans hb5)
            have c1 := hP5.cell1
            have fz := hP5.frozen 1
            have hw := wrap_of (by omega : (v.read : Int) + 1 ≤ 1073741824) (by omega : (0 : Int) ≤ (v.read : Int) + 1)
            have HP6 := Lib.hid (hP5.next hread)
            have HB6 := Lib.hid (HB5.out.setP hP5 1 (.int .i64 ((v.read : Int) + 1)))
            clear hP5 hb5 HY HB3 HP3 HP5 HB5 t0 t1 t2 t3 t4 t5 t6 t7 t8
            go_wp2
            go_roundw
            case rel => exact ⟨_, _, k, rfl, by omega, HRV.out, HIV.out, HP6.out, HB6.out⟩
            case measure =>
              have q := HP6.out.rdOf
              simp only [PS.next] at q
              rw [q, hrd]
              have hvr := HVR.out
              omega
          · have e6 : (x.kind == 6) = false := beq_false_of_ne h6
            have e7 : (x.kind == 7) = false := beq_false_of_ne h7
            have hru := HRU.out
            rw [if_neg h6, if_neg h7] at hru
            subst hru
            clear h6 h7 HRU HIN HIU HN
            go_wp2
            exact bodyPost_ret (v := .int .i64 a') (by simp [results, Tryz.results154, go_sem]) rfl ⟨rfl, HP3.out, HB3.out⟩
theorem field_desc (a : Option Addr) (n c : Nat) (w : World) : (Instr.field 25 (.agg #[.slice a n c]) 0).run Tryz.prog w = .ok (.slice a n c) w := by kernel_rfl
section
variable {w : World} {B pb : Nat} {A : Option Addr} {cp : Nat} {l : List Tk} {s : PS} {ov nv av : Value}
set_option maxHeartbeats 4000000 in
set_option maxRecDepth 100000 in
theorem Pst.leaf (hP : Pst w B pb A cp l s) (hc : s.count ≤ 2 * s.read + 2) (hk : KeptO s) (n : Nd) (hm : MvOk 0 n) :
    Calls Tryz.prog 175 #[.pointer (some ⟨pb, 0, none⟩), .agg (ndC n)] w (RunPost B pb A cp l w (layK s n (-1))) := by
  have hb1 := (Below.refl w.heap.size w).alloc (Nat.le_refl _) (.cells (ndC n) 44)
  have HP1 : Hid (Pst (w.alloc (.cells (ndC n) 44)) B pb A cp l s) := hP.later hb1
  have HX1 := Lib.hid (Blk.new w (ndC n) 44)
  have HB1 := Lib.hid (Fr.of hb1 hP.heap)
  have HL : Hid (∀ w', Calls Tryz.prog 182 #[.agg (ndC n)] w' (DPost w' [n])) := fun w' => leaf_any n hm w'
  have HY : Hid (∀ w', Pst w' B pb A cp l s → Calls Tryz.prog 140 #[.pointer (some ⟨pb, 0, none⟩), .agg (ndC n), .int .i64 (-1)] w' (RunPost B pb A cp l w' (layK s n (-1)))) := fun w' h => h.lay hc hk n (-1)
  clear hP hb1 hm
  unfold ndC at HP1 HX1 HB1 HL HY ⊢
  go_enter Tryz.func175, Tryz.ntmps175
  go_upto_region 1 with (fail)
  generalize w.alloc (.cells #[.int .i64 n.kind, .int .i64 n.a, .int .i64 n.b, .int .i64 n.lo, .int .i64 n.hi, .int .u64 (wd n.cls 0), .int .u64 (wd n.cls 1), .int .u64 (wd n.cls 2), .int .u64 (wd n.cls 3), .string (bs n.text)] 44) = w1 at *
  obtain ⟨f0, f1, f2, f3, f4, f5, f6, f7, f8, f9⟩ := ten_cells HX1.out
  go_wp2_with fail
  refine (HL.out w1).mono ?_; intro e1 w2 hq
  obtain ⟨sv, rfl, hown, hb2⟩ := hq
  obtain ⟨a2, k2, rfl, hrow⟩ := hown.row
  obtain ⟨b2, o2, rfl, hlt, -⟩ := hrow 0 (by simp)
  have g : At10 w2 b2 (o2 + 0 * 10) n := hrow.at (i := 0) (by simp) rfl
  have HP2 := Lib.hid (HP1.out.later hb2)
  have HB2 := Lib.hid (HB1.out.trans (Fr.of hb2 HP1.out.heap))
  clear f0 f1 f2 f3 f4 f5 f6 f7 f8 f9 hrow hown hlt hb2 HP1 HB1 HX1 HL
  rw [Nat.zero_mul, Nat.add_zero] at g
  unfold At10 at g
  obtain ⟨f0, f1, f2, f3, f4, f5, f6, f7, f8, f9⟩ := g
  have hl1 : ([n] : List Nd).length = 1 := rfl
  rw [hl1]
  have hfd := field_desc (some ⟨b2, o2, none⟩) 1 k2 w2
  go_wp2_with fail
  refine (HY.out w2 HP2.out).mono ?_; intro e3 w3 hq
  obtain ⟨rfl, hP3, hb3⟩ := hq
  go_wp2
  exact bodyPost_ret (v := .int .i64 (s.count : Int)) (by simp [results, Tryz.results175, go_sem]) rfl ⟨rfl, hP3, HB2.out.trans hb3⟩
end
theorem mvOkZ {n : Nd} (ht : n.text.length ≤ 281474976710656) (ha : n.a = 0) (hb : n.b = 0) : MvOk 0 n :=
  ⟨ht, fun _ => by rw [ha]; rfl, fun _ => by rw [hb]; rfl⟩
set_option maxHeartbeats 8000000 in
set_option maxRecDepth 100000 in
theorem inside_step {l : List Tk} {n : Nat} (IH : ∀ k, k ≤ n → RunC l k) {s : PS} (hi : Inv s) (hne : run l (n + 1) .inside s ≠ .out) : CallM 183 l s (run l (n + 1) .inside s) := by
  intro w B pb A cp hP
  have HT := Lib.hid hP.token
  have HP := Lib.hid hP
  have hbs := hP.heap
  obtain ⟨x, hx⟩ : ∃ x, tkAt l s.read = x := ⟨_, rfl⟩
  rw [hx] at HT
  unfold tkC at HT
  by_cases h4 : x.kind = 4
  · have e4 : (x.kind == 4) = true := by rw [h4]; rfl
    have hr : run l (n + 1) .inside s = layK s { kind := 1 } (-1) := by simp only [run]; rw [hx, if_pos h4]
    rw [hr]
    have HF : Hid (∀ w', Pst w' B pb A cp l s → Calls Tryz.prog 175 #[.pointer (some ⟨pb, 0, none⟩), .agg #[.int .i64 1, .int .i64 0, .int .i64 0, .int .i64 0, .int .i64 0, .int .u64 0, .int .u64 0, .int .u64 0, .int .u64 0, .string ⟨#[]⟩]] w' (RunPost B pb A cp l w' (layK s { kind := 1 } (-1)))) := fun w' h => by
      have q := h.leaf (by have := hi.1; omega) hi.2 { kind := 1 } (mvOkZ (by simp) rfl rfl)
      rw [ndC_zero] at q; exact q
    clear hr hne IH hx h4 hP hi
    go_enter Tryz.func183, Tryz.ntmps183
    go_wp2_with fail
    refine HT.out.mono ?_; rintro e2 w2 ⟨rfl, hb2⟩
    have hf0 := field_tok0 x.kind x.at_ x.lo x.hi (wd x.cls 0) (wd x.cls 1) (wd x.cls 2) (wd x.cls 3) (bs x.text) w2
    have HP2 := Lib.hid (HP.out.later hb2)
    have HB2 := Lib.hid (Fr.of hb2 hbs)
    clear hb2 HT HP
    go_wp2_with fail
    refine (HF.out w2 HP2.out).mono ?_; intro e3 w3 hq
    obtain ⟨rfl, hP3, hb3⟩ := hq
    have HP3 := Lib.hid hP3
    have HB3 := Lib.hid (HB2.out.trans hb3)
    clear hP3 hb3 HF HP2 HB2
    go_wp2
    exact bodyPost_ret (v := .int .i64 (s.count : Int)) (by simp [results, Tryz.results183, go_sem]) rfl ⟨rfl, HP3.out, HB3.out⟩
  · have e4 : (x.kind == 4) = false := beq_false_of_ne h4
    have hr : run l (n + 1) .inside s = run l n .or s := by simp only [run]; rw [hx, if_neg h4]
    rw [hr] at hne ⊢
    have HF : Hid (∀ w', Pst w' B pb A cp l s → Calls Tryz.prog 117 #[.pointer (some ⟨pb, 0, none⟩)] w' (RunPost B pb A cp l w' (run l n .or s))) := fun w' h => IH n (Nat.le_refl _) .or _ s rfl hi hne w' B pb A cp h
    clear IH hx h4 hP hi hr
    have HN := Lib.hid hne
    clear hne
    generalize run l n .or s = r at *
    go_enter Tryz.func183, Tryz.ntmps183
    go_wp2_with fail
    refine HT.out.mono ?_; rintro e2 w2 ⟨rfl, hb2⟩
    have hf0 := field_tok0 x.kind x.at_ x.lo x.hi (wd x.cls 0) (wd x.cls 1) (wd x.cls 2) (wd x.cls 3) (bs x.text) w2
    have HP2 := Lib.hid (HP.out.later hb2)
    have HB2 := Lib.hid (Fr.of hb2 hbs)
    clear hb2 HT HP
    go_wp2_with fail
    refine (HF.out w2 HP2.out).mono ?_; intro e3 w3 hq
    cases r with
    | out => exact absurd hq id
    | bad e p =>
      obtain ⟨rfl, hb3⟩ := hq
      have HB3 := Lib.hid (HB2.out.trans hb3)
      clear hb3 HF HP2 HB2 HN
      go_wp2
      exact ⟨rfl, (by assumption : ftE e p = _).symm, HB3.out⟩
    | ok a u =>
      obtain ⟨rfl, hP3, hb3⟩ := hq
      have HP3 := Lib.hid hP3
      have HB3 := Lib.hid (HB2.out.trans hb3)
      clear hP3 hb3 HF HP2 HB2 HN
      go_wp2
      exact bodyPost_ret (v := .int .i64 a) (by simp [results, Tryz.results183, go_sem]) rfl ⟨rfl, HP3.out, HB3.out⟩
theorem ndC_cls (k : Int) (c : BitVec 256) : ndC { kind := k, cls := c } = #[.int .i64 k, .int .i64 0, .int .i64 0, .int .i64 0, .int .i64 0, .int .u64 (wd c 0), .int .u64 (wd c 1), .int .u64 (wd c 2), .int .u64 (wd c 3), .string ⟨#[]⟩] := rfl
section
variable {w : World} {B pb : Nat} {A : Option Addr} {cp : Nat} {l : List Tk} {s : PS} {ov nv av : Value}
set_option maxHeartbeats 8000000 in
set_option maxRecDepth 100000 in
theorem atom_bytes (hP : Pst w B pb A cp l s) (hi : Inv s) {x : Tk} (hx : tkAt l s.read = x) (h1 : x.kind = 1) (hread : s.read < 16777216) :
    Calls Tryz.prog 166 #[.pointer (some ⟨pb, 0, none⟩)] w (RunPost B pb A cp l w (layK s.next { kind := 2, cls := x.cls } (-1))) := by
  have HF : Hid (∀ w', Pst w' B pb A cp l s.next → Calls Tryz.prog 175 #[.pointer (some ⟨pb, 0, none⟩), .agg #[.int .i64 2, .int .i64 0, .int .i64 0, .int .i64 0, .int .i64 0, .int .u64 (wd x.cls 0), .int .u64 (wd x.cls 1), .int .u64 (wd x.cls 2), .int .u64 (wd x.cls 3), .string ⟨#[]⟩]] w' (RunPost B pb A cp l w' (layK s.next { kind := 2, cls := x.cls } (-1)))) := fun w' h => by
    have q := h.leaf (by have := hi.next.1; omega) hi.next.2 { kind := 2, cls := x.cls } (mvOkZ (by simp) rfl rfl)
    rw [ndC_cls] at q; exact q
  have e1 : (x.kind == 1) = true := by rw [h1]; rfl
  clear hi h1
  have HT := Lib.hid hP.token
  have HP := Lib.hid hP
  have hbs := hP.heap
  rw [hx] at HT
  unfold tkC at HT
  clear hP
  go_enter Tryz.func166, Tryz.ntmps166
  go_wp2_with fail
  refine HT.out.mono ?_; rintro e2 w2 ⟨rfl, hb2⟩
  have HP2 := Lib.hid (HP.out.later hb2)
  have HB2 := Lib.hid (Fr.of hb2 hbs)
  clear hb2 HT HP
  have hk9 := Lib.hid (Blk.new w2 (tkC x) 76)
  have hb9 := Lib.hid ((Below.refl w2.heap.size w2).alloc (Nat.le_refl _) (.cells (tkC x) 76))
  unfold tkC at hk9 hb9
  go_upto_region 2 with (fail)
  generalize w2.alloc (.cells #[.int .i64 x.kind, .int .i64 x.at_, .int .u64 (wd x.cls 0), .int .u64 (wd x.cls 1), .int .u64 (wd x.cls 2), .int .u64 (wd x.cls 3), .string (bs x.text), .int .i64 x.lo, .int .i64 x.hi] 76) = w3 at *
  have HP3 := Lib.hid (HP2.out.later hb9.out)
  have HB3 := Lib.hid (HB2.out.trans (Fr.of hb9.out HP2.out.heap))
  clear HP2 HB2 hb9
  generalize w2.heap.size = tb at *
  obtain ⟨t0, -, -, -, -, -, -, -, -⟩ := nine_cells hk9.out
  have c1 := HP3.out.cell1
  have fz := HP3.out.frozen 1
  have hw := wrap_of (by omega : (s.read : Int) + 1 ≤ 1073741824) (by omega : (0 : Int) ≤ (s.read : Int) + 1)
  have HP4 := Lib.hid (HP3.out.next hread)
  have HB4 := Lib.hid (HB3.out.setP HP3.out 1 (.int .i64 ((s.read : Int) + 1)))
  have HK4 : Hid (Blk (w3.setCell ⟨pb, 1, none⟩ (.int .i64 ((s.read : Int) + 1))) tb #[.int .i64 x.kind, .int .i64 x.at_, .int .u64 (wd x.cls 0), .int .u64 (wd x.cls 1), .int .u64 (wd x.cls 2), .int .u64 (wd x.cls 3), .string (bs x.text), .int .i64 x.lo, .int .i64 x.hi] 76) := by
    obtain ⟨o1, o2, o3, h0⟩ := HP3.out
    exact hk9.out.setCell_ne (a := ⟨pb, 1, none⟩) (Blk.typed2 h0.blk hk9.out (by decide)) (.int .i64 ((s.read : Int) + 1))
  clear HP3 HB3
  go_upto_region 5 with (fail)
  generalize w3.setCell ⟨pb, 1, none⟩ (.int .i64 ((s.read : Int) + 1)) = w4 at *
  clear t0 c1 fz hw hk9
  obtain ⟨t0, t1, t2, t3, t4, t5, t6, t7, t8⟩ := nine_cells HK4.out
  clear HK4
  go_wp2_with fail
  refine (HF.out w4 HP4.out).mono ?_; intro e5 w5 hq
  obtain ⟨rfl, hP5, hb5⟩ := hq
  have HP5 := Lib.hid hP5
  have HB5 := Lib.hid (HB4.out.trans hb5)
  clear hP5 hb5 HF HP4 HB4 t0 t1 t2 t3 t4 t5 t6 t7 t8
  go_wp2
  exact bodyPost_ret (v := .int .i64 (s.next.count : Int)) (by simp [results, Tryz.results166, go_sem]) rfl ⟨rfl, HP5.out, HB5.out⟩
set_option maxHeartbeats 8000000 in
set_option maxRecDepth 100000 in
theorem atom_text (hP : Pst w B pb A cp l s) (hi : Inv s) {x : Tk} (hx : tkAt l s.read = x) (h2 : x.kind = 2) (hread : s.read < 16777216) (htx : x.text.length ≤ 281474976710656) :
    Calls Tryz.prog 166 #[.pointer (some ⟨pb, 0, none⟩)] w (RunPost B pb A cp l w (layK s.next { kind := 3, text := x.text } (-1))) := by
  have HF : Hid (∀ w', Pst w' B pb A cp l s.next → Calls Tryz.prog 175 #[.pointer (some ⟨pb, 0, none⟩), .agg #[.int .i64 3, .int .i64 0, .int .i64 0, .int .i64 0, .int .i64 0, .int .u64 0, .int .u64 0, .int .u64 0, .int .u64 0, .string (bs x.text)]] w' (RunPost B pb A cp l w' (layK s.next { kind := 3, text := x.text } (-1)))) := fun w' h => by
    have q := h.leaf (by have := hi.next.1; omega) hi.next.2 { kind := 3, text := x.text } (mvOkZ htx rfl rfl)
    rw [ndC_zero] at q; exact q
  have e1 : (x.kind == 1) = false := by rw [h2]; rfl
  have e2 : (x.kind == 2) = true := by rw [h2]; rfl
  clear hi h2 htx
  have HT := Lib.hid hP.token
  have HP := Lib.hid hP
  have hbs := hP.heap
  rw [hx] at HT
  unfold tkC at HT
  clear hP
  go_enter Tryz.func166, Tryz.ntmps166
  go_wp2_with fail
  refine HT.out.mono ?_; rintro e2 w2 ⟨rfl, hb2⟩
  have HP2 := Lib.hid (HP.out.later hb2)
  have HB2 := Lib.hid (Fr.of hb2 hbs)
  clear hb2 HT HP
  have hk9 := Lib.hid (Blk.new w2 (tkC x) 76)
  have hb9 := Lib.hid ((Below.refl w2.heap.size w2).alloc (Nat.le_refl _) (.cells (tkC x) 76))
  unfold tkC at hk9 hb9
  go_upto_region 2 with (fail)
  generalize w2.alloc (.cells #[.int .i64 x.kind, .int .i64 x.at_, .int .u64 (wd x.cls 0), .int .u64 (wd x.cls 1), .int .u64 (wd x.cls 2), .int .u64 (wd x.cls 3), .string (bs x.text), .int .i64 x.lo, .int .i64 x.hi] 76) = w3 at *
  have HP3 := Lib.hid (HP2.out.later hb9.out)
  have HB3 := Lib.hid (HB2.out.trans (Fr.of hb9.out HP2.out.heap))
  clear HP2 HB2 hb9
  generalize w2.heap.size = tb at *
  obtain ⟨t0, -, -, -, -, -, -, -, -⟩ := nine_cells hk9.out
  have c1 := HP3.out.cell1
  have fz := HP3.out.frozen 1
  have hw := wrap_of (by omega : (s.read : Int) + 1 ≤ 1073741824) (by omega : (0 : Int) ≤ (s.read : Int) + 1)
  have HP4 := Lib.hid (HP3.out.next hread)
  have HB4 := Lib.hid (HB3.out.setP HP3.out 1 (.int .i64 ((s.read : Int) + 1)))
  have HK4 : Hid (Blk (w3.setCell ⟨pb, 1, none⟩ (.int .i64 ((s.read : Int) + 1))) tb #[.int .i64 x.kind, .int .i64 x.at_, .int .u64 (wd x.cls 0), .int .u64 (wd x.cls 1), .int .u64 (wd x.cls 2), .int .u64 (wd x.cls 3), .string (bs x.text), .int .i64 x.lo, .int .i64 x.hi] 76) := by
    obtain ⟨o1, o2, o3, h0⟩ := HP3.out
    exact hk9.out.setCell_ne (a := ⟨pb, 1, none⟩) (Blk.typed2 h0.blk hk9.out (by decide)) (.int .i64 ((s.read : Int) + 1))
  clear HP3 HB3
  go_upto_region 8 with (fail)
  generalize w3.setCell ⟨pb, 1, none⟩ (.int .i64 ((s.read : Int) + 1)) = w4 at *
  clear t0 c1 fz hw hk9
  obtain ⟨t0, t1, t2, t3, t4, t5, t6, t7, t8⟩ := nine_cells HK4.out
  clear HK4
  go_wp2_with fail
  refine (HF.out w4 HP4.out).mono ?_; intro e5 w5 hq
  obtain ⟨rfl, hP5, hb5⟩ := hq
  have HP5 := Lib.hid hP5
  have HB5 := Lib.hid (HB4.out.trans hb5)
  clear hP5 hb5 HF HP4 HB4 t0 t1 t2 t3 t4 t5 t6 t7 t8
  go_wp2
  exact bodyPost_ret (v := .int .i64 (s.next.count : Int)) (by simp [results, Tryz.results166, go_sem]) rfl ⟨rfl, HP5.out, HB5.out⟩
set_option maxHeartbeats 8000000 in
set_option maxRecDepth 100000 in
theorem atom_open (hP : Pst w B pb A cp l s) {x : Tk} (hx : tkAt l s.read = x) (h3 : x.kind = 3) {r : PR} (hr : r ≠ .out) (hG : CallM 176 l s r) :
    Calls Tryz.prog 166 #[.pointer (some ⟨pb, 0, none⟩)] w (RunPost B pb A cp l w r) := by
  have HG := Lib.hid hG
  have e1 : (x.kind == 1) = false := by rw [h3]; rfl
  have e2 : (x.kind == 2) = false := by rw [h3]; rfl
  have e3 : (x.kind == 3) = true := by rw [h3]; rfl
  clear h3 hG
  have HT := Lib.hid hP.token
  have HP := Lib.hid hP
  have hbs := hP.heap
  rw [hx] at HT
  unfold tkC at HT
  clear hP
  go_enter Tryz.func166, Tryz.ntmps166
  go_wp2_with fail
  refine HT.out.mono ?_; rintro e2 w2 ⟨rfl, hb2⟩
  have HP2 := Lib.hid (HP.out.later hb2)
  have HB2 := Lib.hid (Fr.of hb2 hbs)
  clear hb2 HT HP
  have hk9 := Lib.hid (Blk.new w2 (tkC x) 76)
  have hb9 := Lib.hid ((Below.refl w2.heap.size w2).alloc (Nat.le_refl _) (.cells (tkC x) 76))
  unfold tkC at hk9 hb9
  go_upto_region 2 with (fail)
  generalize w2.alloc (.cells #[.int .i64 x.kind, .int .i64 x.at_, .int .u64 (wd x.cls 0), .int .u64 (wd x.cls 1), .int .u64 (wd x.cls 2), .int .u64 (wd x.cls 3), .string (bs x.text), .int .i64 x.lo, .int .i64 x.hi] 76) = w3 at *
  have HP3 := Lib.hid (HP2.out.later hb9.out)
  have HB3 := Lib.hid (HB2.out.trans (Fr.of hb9.out HP2.out.heap))
  clear HP2 HB2 hb9
  generalize w2.heap.size = tb at *
  obtain ⟨t0, -, -, -, -, -, -, -, -⟩ := nine_cells hk9.out
  go_wp2_with fail
  refine (HG.out w3 B pb A cp HP3.out).mono ?_; intro e4 w4 hq
  cases r with
  | out => exact absurd hq id
  | bad e p =>
    obtain ⟨rfl, hb4⟩ := hq
    have HB4 := Lib.hid (HB3.out.trans hb4)
    clear hb4 HG HP3 HB3 hr
    go_wp2
    exact ⟨rfl, (by assumption : ftE e p = _).symm, HB4.out⟩
  | ok a u =>
    obtain ⟨rfl, hP4, hb4⟩ := hq
    have HP4 := Lib.hid hP4
    have HB4 := Lib.hid (HB3.out.trans hb4)
    clear hP4 hb4 HG HP3 HB3 hr t0 hk9
    go_wp2
    exact bodyPost_ret (v := .int .i64 a) (by simp [results, Tryz.results166, go_sem]) rfl ⟨rfl, HP4.out, HB4.out⟩
set_option maxHeartbeats 8000000 in
set_option maxRecDepth 100000 in
theorem atom_frame (hP : Pst w B pb A cp l s) (hi : Inv s) {x : Tk} (hx : tkAt l s.read = x) (h8 : x.kind = 8) (hread : s.read < 16777216) {r : PR} (hr : r ≠ .out) (hG : CallM 176 l s.next r) (hq : ∀ b v, r = .ok b v → v.count ≤ 2 * v.read + 2 ∧ KeptO v) :
    Calls Tryz.prog 166 #[.pointer (some ⟨pb, 0, none⟩)] w (RunPost B pb A cp l w (r.bind fun g s => layK s { kind := 8, a := g } (-1))) := by
  have HG := Lib.hid hG
  have HQ := Lib.hid hq
  have e1 : (x.kind == 1) = false := by rw [h8]; rfl
  have e2 : (x.kind == 2) = false := by rw [h8]; rfl
  have e3 : (x.kind == 3) = false := by rw [h8]; rfl
  have e8 : (x.kind == 8) = true := by rw [h8]; rfl
  have e9 : (x.kind == 9) = false := by rw [h8]; rfl
  clear h8 hG hq hi
  have HT := Lib.hid hP.token
  have HP := Lib.hid hP
  have hbs := hP.heap
  rw [hx] at HT
  unfold tkC at HT
  clear hP
  go_enter Tryz.func166, Tryz.ntmps166
  go_wp2_with fail
  refine HT.out.mono ?_; rintro e2 w2 ⟨rfl, hb2⟩
  have HP2 := Lib.hid (HP.out.later hb2)
  have HB2 := Lib.hid (Fr.of hb2 hbs)
  clear hb2 HT HP
  have hk9 := Lib.hid (Blk.new w2 (tkC x) 76)
  have hb9 := Lib.hid ((Below.refl w2.heap.size w2).alloc (Nat.le_refl _) (.cells (tkC x) 76))
  unfold tkC at hk9 hb9
  go_upto_region 2 with (fail)
  generalize w2.alloc (.cells #[.int .i64 x.kind, .int .i64 x.at_, .int .u64 (wd x.cls 0), .int .u64 (wd x.cls 1), .int .u64 (wd x.cls 2), .int .u64 (wd x.cls 3), .string (bs x.text), .int .i64 x.lo, .int .i64 x.hi] 76) = w3 at *
  have HP3 := Lib.hid (HP2.out.later hb9.out)
  have HB3 := Lib.hid (HB2.out.trans (Fr.of hb9.out HP2.out.heap))
  clear HP2 HB2 hb9
  generalize w2.heap.size = tb at *
  obtain ⟨t0, -, -, -, -, -, -, -, -⟩ := nine_cells hk9.out
  have c1 := HP3.out.cell1
  have fz := HP3.out.frozen 1
  have hw := wrap_of (by omega : (s.read : Int) + 1 ≤ 1073741824) (by omega : (0 : Int) ≤ (s.read : Int) + 1)
  have HP4 := Lib.hid (HP3.out.next hread)
  have HB4 := Lib.hid (HB3.out.setP HP3.out 1 (.int .i64 ((s.read : Int) + 1)))
  have HK4 : Hid (Blk (w3.setCell ⟨pb, 1, none⟩ (.int .i64 ((s.read : Int) + 1))) tb #[.int .i64 x.kind, .int .i64 x.at_, .int .u64 (wd x.cls 0), .int .u64 (wd x.cls 1), .int .u64 (wd x.cls 2), .int .u64 (wd x.cls 3), .string (bs x.text), .int .i64 x.lo, .int .i64 x.hi] 76) := by
    obtain ⟨o1, o2, o3, h0⟩ := HP3.out
    exact hk9.out.setCell_ne (a := ⟨pb, 1, none⟩) (Blk.typed2 h0.blk hk9.out (by decide)) (.int .i64 ((s.read : Int) + 1))
  clear HP3 HB3
  go_upto_region 13 with (fail)
  generalize w3.setCell ⟨pb, 1, none⟩ (.int .i64 ((s.read : Int) + 1)) = w4 at *
  clear t0 c1 fz hw hk9
  obtain ⟨t0, t1, t2, t3, t4, t5, t6, t7, t8⟩ := nine_cells HK4.out
  clear HK4
  clear t0 t1 t2 t3 t4 t5 t6 t7 t8
  go_wp2_with fail
  refine (HG.out w4 B pb A cp HP4.out).mono ?_; intro e5 w5 hq
  cases r with
  | out => exact absurd hq id
  | bad e p =>
    obtain ⟨rfl, hb5⟩ := hq
    have HB5 := Lib.hid (HB4.out.trans hb5)
    clear hb5 HG HQ HP4 HB4 hr
    go_wp2
    exact ⟨rfl, (by assumption : ftE e p = _).symm, HB5.out⟩
  | ok a u =>
    obtain ⟨rfl, hP5, hb5⟩ := hq
    have HB5 := Lib.hid (HB4.out.trans hb5)
    obtain ⟨q1, q2⟩ := HQ.out a u rfl
    have hy := hP5.lay q1 q2 { kind := 8, a := a } (-1)
    rw [ndC_zero] at hy
    have HY := Lib.hid hy
    clear hP5 hb5 HG HQ HP4 HB4 hr hy q1 q2
    go_wp2_with fail
    refine HY.out.mono ?_; intro e6 w6 hq
    obtain ⟨rfl, hP6, hb6⟩ := hq
    have HP6 := Lib.hid hP6
    have HB6 := Lib.hid (HB5.out.trans hb6)
    clear hP6 hb6 HY HB5
    go_wp2
    exact bodyPost_ret (v := .int .i64 (u.count : Int)) (by simp [results, Tryz.results166, go_sem]) rfl ⟨rfl, HP6.out, HB6.out⟩
set_option maxHeartbeats 8000000 in
set_option maxRecDepth 100000 in
theorem atom_wide (hP : Pst w B pb A cp l s) (hi : Inv s) {x : Tk} (hx : tkAt l s.read = x) (h8 : x.kind = 9) (hread : s.read < 16777216) {r : PR} (hr : r ≠ .out) (hG : CallM 176 l s.next r) (hq : ∀ b v, r = .ok b v → v.count ≤ 2 * v.read + 2 ∧ KeptO v) :
    Calls Tryz.prog 166 #[.pointer (some ⟨pb, 0, none⟩)] w (RunPost B pb A cp l w (r.bind fun g s => layK s { kind := 9, a := g } (-1))) := by
  have HG := Lib.hid hG
  have HQ := Lib.hid hq
  have e1 : (x.kind == 1) = false := by rw [h8]; rfl
  have e2 : (x.kind == 2) = false := by rw [h8]; rfl
  have e3 : (x.kind == 3) = false := by rw [h8]; rfl
  have e8 : (x.kind == 8) = false := by rw [h8]; rfl
  have e9 : (x.kind == 9) = true := by rw [h8]; rfl
  clear h8 hG hq hi
  have HT := Lib.hid hP.token
  have HP := Lib.hid hP
  have hbs := hP.heap
  rw [hx] at HT
  unfold tkC at HT
  clear hP
  go_enter Tryz.func166, Tryz.ntmps166
  go_wp2_with fail
  refine HT.out.mono ?_; rintro e2 w2 ⟨rfl, hb2⟩
  have HP2 := Lib.hid (HP.out.later hb2)
  have HB2 := Lib.hid (Fr.of hb2 hbs)
  clear hb2 HT HP
  have hk9 := Lib.hid (Blk.new w2 (tkC x) 76)
  have hb9 := Lib.hid ((Below.refl w2.heap.size w2).alloc (Nat.le_refl _) (.cells (tkC x) 76))
  unfold tkC at hk9 hb9
  go_upto_region 2 with (fail)
  generalize w2.alloc (.cells #[.int .i64 x.kind, .int .i64 x.at_, .int .u64 (wd x.cls 0), .int .u64 (wd x.cls 1), .int .u64 (wd x.cls 2), .int .u64 (wd x.cls 3), .string (bs x.text), .int .i64 x.lo, .int .i64 x.hi] 76) = w3 at *
  have HP3 := Lib.hid (HP2.out.later hb9.out)
  have HB3 := Lib.hid (HB2.out.trans (Fr.of hb9.out HP2.out.heap))
  clear HP2 HB2 hb9
  generalize w2.heap.size = tb at *
  obtain ⟨t0, -, -, -, -, -, -, -, -⟩ := nine_cells hk9.out
  have c1 := HP3.out.cell1
  have fz := HP3.out.frozen 1
  have hw := wrap_of (by omega : (s.read : Int) + 1 ≤ 1073741824) (by omega : (0 : Int) ≤ (s.read : Int) + 1)
  have HP4 := Lib.hid (HP3.out.next hread)
  have HB4 := Lib.hid (HB3.out.setP HP3.out 1 (.int .i64 ((s.read : Int) + 1)))
  have HK4 : Hid (Blk (w3.setCell ⟨pb, 1, none⟩ (.int .i64 ((s.read : Int) + 1))) tb #[.int .i64 x.kind, .int .i64 x.at_, .int .u64 (wd x.cls 0), .int .u64 (wd x.cls 1), .int .u64 (wd x.cls 2), .int .u64 (wd x.cls 3), .string (bs x.text), .int .i64 x.lo, .int .i64 x.hi] 76) := by
    obtain ⟨o1, o2, o3, h0⟩ := HP3.out
    exact hk9.out.setCell_ne (a := ⟨pb, 1, none⟩) (Blk.typed2 h0.blk hk9.out (by decide)) (.int .i64 ((s.read : Int) + 1))
  clear HP3 HB3
  go_upto_region 16 with (fail)
  generalize w3.setCell ⟨pb, 1, none⟩ (.int .i64 ((s.read : Int) + 1)) = w4 at *
  clear t0 c1 fz hw hk9
  obtain ⟨t0, t1, t2, t3, t4, t5, t6, t7, t8⟩ := nine_cells HK4.out
  clear HK4
  clear t0 t1 t2 t3 t4 t5 t6 t7 t8
  go_wp2_with fail
  refine (HG.out w4 B pb A cp HP4.out).mono ?_; intro e5 w5 hq
  cases r with
  | out => exact absurd hq id
  | bad e p =>
    obtain ⟨rfl, hb5⟩ := hq
    have HB5 := Lib.hid (HB4.out.trans hb5)
    clear hb5 HG HQ HP4 HB4 hr
    go_wp2
    exact ⟨rfl, (by assumption : ftE e p = _).symm, HB5.out⟩
  | ok a u =>
    obtain ⟨rfl, hP5, hb5⟩ := hq
    have HB5 := Lib.hid (HB4.out.trans hb5)
    obtain ⟨q1, q2⟩ := HQ.out a u rfl
    have hy := hP5.lay q1 q2 { kind := 9, a := a } (-1)
    rw [ndC_zero] at hy
    have HY := Lib.hid hy
    clear hP5 hb5 HG HQ HP4 HB4 hr hy q1 q2
    go_wp2_with fail
    refine HY.out.mono ?_; intro e6 w6 hq
    obtain ⟨rfl, hP6, hb6⟩ := hq
    have HP6 := Lib.hid hP6
    have HB6 := Lib.hid (HB5.out.trans hb6)
    clear hP6 hb6 HY HB5
    go_wp2
    exact bodyPost_ret (v := .int .i64 (u.count : Int)) (by simp [results, Tryz.results166, go_sem]) rfl ⟨rfl, HP6.out, HB6.out⟩
set_option maxHeartbeats 8000000 in
set_option maxRecDepth 100000 in
theorem atom_no (hP : Pst w B pb A cp l s) {x : Tk} (hx : tkAt l s.read = x) (h1 : x.kind ≠ 1) (h2 : x.kind ≠ 2) (h3 : x.kind ≠ 3) (h8 : x.kind ≠ 8) (h9 : x.kind ≠ 9) :
    Calls Tryz.prog 166 #[.pointer (some ⟨pb, 0, none⟩)] w (RunPost B pb A cp l w (faultP l s)) := by
  have e1 := beq_false_of_ne h1
  have e2 := beq_false_of_ne h2
  have e3 := beq_false_of_ne h3
  have e8 := beq_false_of_ne h8
  have e9 := beq_false_of_ne h9
  obtain ⟨e, p, hf⟩ := fault_some l s
  have HF := Lib.hid hf
  rw [hf]
  clear h1 h2 h3 h8 h9 hf
  have HT := Lib.hid hP.token
  have HP := Lib.hid hP
  have hbs := hP.heap
  rw [hx] at HT
  unfold tkC at HT
  clear hP
  go_enter Tryz.func166, Tryz.ntmps166
  go_wp2_with fail
  refine HT.out.mono ?_; rintro e2 w2 ⟨rfl, hb2⟩
  have HP2 := Lib.hid (HP.out.later hb2)
  have HB2 := Lib.hid (Fr.of hb2 hbs)
  clear hb2 HT HP
  have hk9 := Lib.hid (Blk.new w2 (tkC x) 76)
  have hb9 := Lib.hid ((Below.refl w2.heap.size w2).alloc (Nat.le_refl _) (.cells (tkC x) 76))
  unfold tkC at hk9 hb9
  go_upto_region 2 with (fail)
  generalize w2.alloc (.cells #[.int .i64 x.kind, .int .i64 x.at_, .int .u64 (wd x.cls 0), .int .u64 (wd x.cls 1), .int .u64 (wd x.cls 2), .int .u64 (wd x.cls 3), .string (bs x.text), .int .i64 x.lo, .int .i64 x.hi] 76) = w3 at *
  have HP3 := Lib.hid (HP2.out.later hb9.out)
  have HB3 := Lib.hid (HB2.out.trans (Fr.of hb9.out HP2.out.heap))
  clear HP2 HB2 hb9
  generalize w2.heap.size = tb at *
  obtain ⟨t0, -, -, -, -, -, -, -, -⟩ := nine_cells hk9.out
  go_wp2_with fail
  obtain ⟨o1, o2, o3, h0⟩ := HP3.out
  refine (h0.fault HF.out).mono ?_; rintro e4 w4 ⟨rfl, hb4⟩
  have HB4 := Lib.hid (HB3.out.trans (Fr.of hb4 HP3.out.heap))
  clear hb4 h0
  go_wp2
  exact ⟨rfl, rfl, HB4.out⟩
end
end Go.Proofs.YtcgjmnhmhiddkaaGreatDoor
