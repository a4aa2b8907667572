/- The document's parser: depth, the first fault: walked. -/
import Derived.Test.YtcgjmnhmhiddkaaGreatDoorM22
import Derived.Test.YtcgjmnhmhiddkaaGreatDoorM20
namespace Go.Proofs.YtcgjmnhmhiddkaaGreatDoor
open Go Go.RowKit
set_option linter.unusedVariables false
set_option linter.unusedSimpArgs false
set_option maxRecDepth 100000
theorem cntO_le (l : List Tk) : ∀ p, cntO l 0 p ≤ p
  | 0 => Nat.le_refl _
  | p + 1 => by
    have h := cntO_le l p
    rw [cntO]; unfold stepO
    split
    · omega
    · split <;> omega
def DpL (w0 : World) (A : Option Addr) (l : List Tk) (f : Nat) (x y : Value) (w : World) : Prop := ∃ k : Nat, k ≤ f ∧ x = .int .i64 ((cntO l 0 k : Nat) : Int) ∧ y = .int .i64 (k : Int) ∧ (∀ j, j < k → ¬ 64 < cntO l 0 (j + 1)) ∧ TkB w0 A l w
def dpV (l : List Tk) (f : Nat) : Value := match deepF l f with
  | some i => .tuple #[.int .i64 (tkAt l i).at_, .bool true]
  | none => .tuple #[.int .i64 0, .bool false]
set_option maxHeartbeats 16000000 in
theorem rdeep5_any (l : List Tk) (A : Option Addr) (c f : Nat) (hf : f ≤ l.length) (hl : l.length ≤ 1000000) (w : World) (hrow : TkRow w A l) :
    Calls Tryz.prog 39 #[.slice A f c] w (Ans w (dpV l f)) := by
  have HL : Hid (DpL w A l f (.int .i64 0) (.int .i64 0) w) := ⟨0, Nat.zero_le _, rfl, rfl, fun j h => absurd h (Nat.not_lt_zero j), Below.refl _ _, hrow⟩
  clear hrow
  go_enter Tryz.func39, Tryz.ntmps39
  go_upto_region 3 with (fail)
  go_wp2
  go_loopw [4, 5] (DpL w A l f) (fun _ y _ => f - (intOf y).toNat)
  case atStart => exact HL.out
  case round =>
    obtain ⟨k, hke, rfl, rfl, hno, hs⟩ := hrel
    have HS := Lib.hid hs
    have HNO := Lib.hid hno
    have h64 : cntO l 0 k ≤ 64 := by
      rcases Nat.eq_zero_or_pos k with h0 | h0
      · rw [h0]; exact Nat.zero_le _
      · have := hno (k - 1) (by omega)
        rw [show k - 1 + 1 = k by omega] at this
        omega
    clear hs hno HL
    by_cases hlt : k < f
    · obtain ⟨b, o, hA, -, -⟩ := HS.out.row k (by omega)
      subst hA
      have gg := HS.out.row.at (i := k) (by omega) rfl
      have g := gg.1
      have g1 := gg.2.1
      clear gg
      have hst : cntO l 0 (k + 1) = stepO (tkAt l k).kind (cntO l 0 k) := rfl
      have HST := Lib.hid hst
      have HAT : Hid ((tkAt l k).at_ = (tkAt l k).at_) := rfl
      clear hst
      obtain ⟨pt, hpt⟩ : ∃ pt, (tkAt l k).at_ = pt := ⟨_, rfl⟩
      have HPT := Lib.hid hpt
      rw [hpt] at g1
      clear hpt HAT
      generalize (tkAt l k).kind = q at *
      generalize hNN : cntO l 0 k = N at *
      clear hNN
      have hkz : (k : Int) < (f : Int) := by omega
      by_cases h3 : q = 3
      · subst h3
        have HST : Hid (cntO l 0 (k + 1) = N + 1) := HST.out
        by_cases hz : 64 < N + 1
        · have hzz : (64 : Int) < (N : Int) + 1 := by omega
          have HDV : Hid (dpV l f = .tuple #[.int .i64 pt, .bool true]) := by
            unfold Hid dpV
            rw [deepF_some.2 ⟨hlt, by rw [HST.out]; exact hz, HNO.out⟩]
            simp only
            rw [HPT.out]
          clear hz
          go_wp2
          go_ret2
          exact ⟨by rw [HDV.out]; rfl, HS.out.bel⟩
        · have hzz : ¬ (64 : Int) < (N : Int) + 1 := by omega
          have HNX : Hid (¬ 64 < cntO l 0 (k + 1)) := by unfold Hid; rw [HST.out]; omega
          go_wp2
          go_roundw
          case rel => exact ⟨k + 1, hlt, by first | (rw [HST.out]; done) | (rw [HST.out]; rfl) | (rw [HST.out]; go_num), by go_num, (fun j hj => by rcases Nat.lt_or_ge j k with h | h; exact HNO.out j h; rw [show j = k by omega]; exact HNX.out), HS.out⟩
          case measure => simp [intOf]; omega
      · have q3 : (q == 3) = false := beq_false_of_ne h3
        by_cases h4 : q = 4
        · subst h4
          clear h3
          have HST : Hid (cntO l 0 (k + 1) = N - 1) := HST.out
          by_cases h0 : N = 0
          · subst h0
            have HST : Hid (cntO l 0 (k + 1) = 0) := HST.out
            have HNX : Hid (¬ 64 < cntO l 0 (k + 1)) := by unfold Hid; rw [HST.out]; omega
            go_wp2
            go_roundw
            case rel => exact ⟨k + 1, hlt, by first | (rw [HST.out]; done) | (rw [HST.out]; rfl) | (rw [HST.out]; go_num), by go_num, (fun j hj => by rcases Nat.lt_or_ge j k with h | h; exact HNO.out j h; rw [show j = k by omega]; exact HNX.out), HS.out⟩
            case measure => simp [intOf]; omega
          · have hp : (0 : Int) < (N : Int) := by omega
            have hzz : ¬ (64 : Int) < (N : Int) - 1 := by omega
            have HST : Hid (cntO l 0 (k + 1) = N - 1) := HST.out
            have HCA : Hid (((N - 1 : Nat) : Int) = (N : Int) - 1) := by unfold Hid; omega
            have HNX : Hid (¬ 64 < cntO l 0 (k + 1)) := by unfold Hid; rw [HST.out]; omega
            clear h0
            go_wp2
            go_roundw
            case rel => exact ⟨k + 1, hlt, by rw [HST.out, HCA.out], by go_num, (fun j hj => by rcases Nat.lt_or_ge j k with h | h; exact HNO.out j h; rw [show j = k by omega]; exact HNX.out), HS.out⟩
            case measure => simp [intOf]; omega
        · have q4 : (q == 4) = false := beq_false_of_ne h4
          have HST : Hid (cntO l 0 (k + 1) = N) := by unfold Hid; rw [HST.out]; unfold stepO; rw [if_neg h3, if_neg h4]
          have hzz : ¬ (64 : Int) < (N : Int) := by omega
          clear h3 h4
          have HNX : Hid (¬ 64 < cntO l 0 (k + 1)) := by unfold Hid; rw [HST.out]; omega
          go_wp2
          go_roundw
          case rel => exact ⟨k + 1, hlt, by first | (rw [HST.out]; done) | (rw [HST.out]; rfl) | (rw [HST.out]; go_num), by go_num, (fun j hj => by rcases Nat.lt_or_ge j k with h | h; exact HNO.out j h; rw [show j = k by omega]; exact HNX.out), HS.out⟩
          case measure => simp [intOf]; omega
    · obtain rfl : k = f := by omega
      have hkz : ¬ (k : Int) < (k : Int) := by omega
      have HDV : Hid (dpV l k = .tuple #[.int .i64 0, .bool false]) := by
        unfold Hid dpV
        rw [deepF_none.2 HNO.out]
      go_wp2
      go_ret2
      exact ⟨by rw [HDV.out]; rfl, HS.out.bel⟩
def FtL (w0 : World) (A : Option Addr) (l : List Tk) (x y z : Value) (w : World) : Prop := ∃ k : Nat, k ≤ l.length ∧ x = .int .i64 (lastK l k) ∧ y = .int .i64 ((cntO l 0 k : Nat) : Int) ∧ z = .int .i64 (k : Int) ∧ (∀ j, j < k → mayAt l j) ∧ TkB w0 A l w
def FtP (l : List Tk) (w : World) (e : Ending) (w' : World) : Prop := ∃ f : Nat, e = .returned (.int .i64 (f : Int)) ∧ IsF l f ∧ Below w.heap.size w w'
set_option maxHeartbeats 16000000 in
theorem rfault5_any (l : List Tk) (A : Option Addr) (c : Nat) (hl : l.length ≤ 1000000) (w : World) (hrow : TkRow w A l) :
    Calls Tryz.prog 38 #[.slice A l.length c] w (FtP l w) := by
  have HL : Hid (FtL w A l (.int .i64 0) (.int .i64 0) (.int .i64 0) w) := ⟨0, Nat.zero_le _, rfl, rfl, rfl, fun j h => absurd h (Nat.not_lt_zero j), Below.refl _ _, hrow⟩
  clear hrow
  go_enter Tryz.func38, Tryz.ntmps38
  go_upto_region 4 with (fail)
  go_wp2
  go_loopw [3, 4, 5] (FtL w A l) (fun _ _ z _ => l.length - (intOf z).toNat)
  case atStart => exact HL.out
  case round =>
    obtain ⟨k, hke, rfl, rfl, rfl, hno, hs⟩ := hrel
    have HS := Lib.hid hs
    have HNO := Lib.hid hno
    have hck := cntO_le l k
    clear hs hno HL
    by_cases hlt : k < l.length
    · obtain ⟨b, o, hA, -, -⟩ := HS.out.row k hlt
      subst hA
      have g := (HS.out.row.at (i := k) hlt rfl).1
      have HMY := Lib.hid (rmay5_any (lastK l k) (tkAt l k).kind (cntO l 0 k) (by omega) wr)
      have HLK : Hid (lastK l (k + 1) = (tkAt l k).kind) := lastK_next l k
      have hmy : mayB (lastK l k) (tkAt l k).kind (cntO l 0 k) = true ↔ mayAt l k := by
        rw [mayB_iff]; unfold mayAt; rw [opsL_cnt]
      have HCL : Hid ((tkAt l k).kind = 4 → mayAt l k → 0 < cntO l 0 k) := fun h4 hm => by
        have := may_close hm h4
        rw [← opsI_len, opsL_cnt] at this; exact this
      have hst : cntO l 0 (k + 1) = stepO (tkAt l k).kind (cntO l 0 k) := rfl
      have HST := Lib.hid hst
      have HMB := Lib.hid hmy
      clear hst hmy
      generalize mayB (lastK l k) (tkAt l k).kind (cntO l 0 k) = mb at *
      generalize lastK l k = lk at *
      generalize (tkAt l k).kind = q at *
      generalize cntO l 0 k = N at *
      have hkz : (k : Int) < (l.length : Int) := by omega
      go_wp2_with fail
      refine HMY.out.mono ?_; rintro e w2 ⟨rfl, hb⟩
      have HS2 := Lib.hid (HS.out.later hb)
      clear hb g HMY HS
      cases mb with
      | false =>
        have HNM : Hid (¬ mayAt l k) := fun h => by have := HMB.out.2 h; cases this
        go_wp2
        go_ret
        exact ⟨k, rfl, ⟨hke, HNO.out, fun _ => HNM.out⟩, HS2.out.bel⟩
      | true =>
        have HM : Hid (mayAt l k) := HMB.out.1 rfl
        have g := (HS2.out.row.at (i := k) hlt rfl).1
        have hlk := HLK.out
        have hcl := fun h => HCL.out h HM.out
        have HGQ : Hid ((tkAt l k).kind = q) := by have := lastK_next l k; rw [hlk] at this; exact this.symm
        rw [HGQ.out] at g
        clear hlk HCL HMB
        by_cases h3 : q = 3
        · subst h3
          clear hcl
          have HST : Hid (((cntO l 0 (k + 1) : Nat) : Int) = (N : Int) + 1) := by unfold Hid; rw [HST.out]; rfl
          go_wp2
          go_roundw
          case rel => exact ⟨k + 1, hlt, by rw [HLK.out], by rw [HST.out], by go_num, (fun j hj => by rcases Nat.lt_or_ge j k with h | h; exact HNO.out j h; rw [show j = k by omega]; exact HM.out), HS2.out⟩
          case measure => simp [intOf]; omega
        · have q3 : (q == 3) = false := beq_false_of_ne h3
          by_cases h4 : q = 4
          · have hp := hcl h4
            subst h4
            clear h3 hcl
            have HST : Hid (((cntO l 0 (k + 1) : Nat) : Int) = (N : Int) - 1) := by unfold Hid; rw [HST.out]; show ((N - 1 : Nat) : Int) = _; omega
            go_wp2
            go_roundw
            case rel => exact ⟨k + 1, hlt, by rw [HLK.out], by rw [HST.out], by go_num, (fun j hj => by rcases Nat.lt_or_ge j k with h | h; exact HNO.out j h; rw [show j = k by omega]; exact HM.out), HS2.out⟩
            case measure => simp [intOf]; omega
          · have q4 : (q == 4) = false := beq_false_of_ne h4
            have HST : Hid (((cntO l 0 (k + 1) : Nat) : Int) = (N : Int)) := by unfold Hid; rw [HST.out]; unfold stepO; rw [if_neg h3, if_neg h4]
            clear h3 h4 hcl
            go_wp2
            go_roundw
            case rel => exact ⟨k + 1, hlt, by rw [HLK.out], by rw [HST.out], by go_num, (fun j hj => by rcases Nat.lt_or_ge j k with h | h; exact HNO.out j h; rw [show j = k by omega]; exact HM.out), HS2.out⟩
            case measure => simp [intOf]; omega
    · obtain rfl : k = l.length := by omega
      have hkz : ¬ ((l.length : Nat) : Int) < (l.length : Int) := by omega
      go_wp2
      go_ret
      exact ⟨l.length, rfl, ⟨Nat.le_refl _, HNO.out, fun h => absurd h (Nat.lt_irrefl _)⟩, HS.out.bel⟩
theorem atom_cases {l : List Tk} {a b : Nat} {D : List Nd} {A : List Int} (h : Dv l .atom a b D A) : ((tkAt l a).kind = 1 ∧ b = a + 1 ∧ D = [{ kind := 2, cls := (tkAt l a).cls }] ∧ A = [-1]) ∨ ((tkAt l a).kind = 2 ∧ b = a + 1 ∧ D = [{ kind := 3, text := (tkAt l a).text }] ∧ A = [-1]) ∨ ((tkAt l a).kind = 3 ∧ Dv l .group a b D A) ∨
    (((tkAt l a).kind = 8 ∨ (tkAt l a).kind = 9) ∧ ∃ E B, Dv l .group (a + 1) b E B ∧ D = wrapL (tkAt l a).kind 0 0 E ∧ A = B ++ [-1]) := by
  cases h with
  | cls h => exact .inl ⟨h, rfl, rfl, rfl⟩
  | text h => exact .inr (.inl ⟨h, rfl, rfl, rfl⟩)
  | brk h d => exact .inr (.inr (.inl ⟨h, d⟩))
  | frame h d => exact .inr (.inr (.inr ⟨h, _, _, d, rfl, rfl⟩))
set_option maxHeartbeats 8000000 in
theorem ratom5_any (l : List Tk) (A : Option Addr) (c a b : Nat) {D : List Nd} {Q : List Int} (hd : Dv l .atom a b D Q) (hk : (tkAt l a).kind = 3 ∨ (tkAt l a).kind = 8 ∨ (tkAt l a).kind = 9) (hbl : b ≤ l.length) (hl : l.length ≤ 1000000) (w : World) (hrow : TkRow w A l) :
    Calls Tryz.prog 121 #[.slice A l.length c, .int .i64 (a : Int)] w (Ans w (.int .i64 (b : Int))) := by
  have hab := (dv_len hd).2.2 (by intro h; cases h)
  obtain ⟨bb, o, hA, -, -⟩ := hrow a (by omega)
  subst hA
  have g := (hrow.at (i := a) (by omega) rfl).1
  have HS : Hid (TkB w (some ⟨bb, o, none⟩) l w) := ⟨Below.refl _ _, hrow⟩
  have haz : (a : Int) < (l.length : Int) := by omega
  have hbz : (b : Int) ≤ 1000000 := by omega
  clear hrow
  rcases atom_cases hd with ⟨h1, _⟩ | ⟨h1, _⟩ | ⟨h3, hg⟩ | ⟨h89, E, B, hg, _, _⟩
  · omega
  · omega
  · have HGR := Lib.hid (dv_match hg hbl)
    have HMT : Hid (∀ w', TkRow w' (some ⟨bb, o, none⟩) l → Calls Tryz.prog 40 #[.slice (some ⟨bb, o, none⟩) l.length c, .int .i64 (a : Int)] w' (MtP l l.length a w')) := fun w' h => rmatch_any l _ c l.length a (Nat.le_refl _) (by omega) hl w' h
    rw [h3] at g
    clear hd hk hg h3 hab hbl
    go_enter Tryz.func121, Tryz.ntmps121
    go_wp2_with fail
    refine (HMT.out _ HS.out.row).mono ?_; intro e w2 hp
    obtain ⟨k, rfl, hk, hb⟩ := hp
    obtain ⟨hlt, hm⟩ := HGR.out
    have hkb := hk.one hm
    have hk1 : (k : Int) + 1 = (b : Int) := by omega
    have hk2 : (k : Int) ≤ 1000000 := by omega
    have HB := Lib.hid (HS.out.later hb).bel
    have HK1 := Lib.hid hk1
    clear hk hm hkb hk1 hb HMT HS HGR hlt
    go_wp2
    go_ret
    exact ⟨by rw [HK1.out]; rfl, HB.out⟩
  · have HGR := Lib.hid (dv_match hg hbl)
    have hlt1 := (dv_match hg hbl).1
    have HMT : Hid (∀ w', TkRow w' (some ⟨bb, o, none⟩) l → Calls Tryz.prog 40 #[.slice (some ⟨bb, o, none⟩) l.length c, .int .i64 ((a : Int) + 1)] w' (MtP l l.length (a + 1) w')) := fun w' h => by
      have q := rmatch_any l _ c l.length (a + 1) (Nat.le_refl _) (by omega) hl w' h
      rwa [show ((a + 1 : Nat) : Int) = (a : Int) + 1 by omega] at q
    clear hd hk hg hab hbl hlt1
    rcases h89 with h8 | h9
    · rw [h8] at g
      clear h8
      go_enter Tryz.func121, Tryz.ntmps121
      go_wp2_with fail
      refine (HMT.out _ HS.out.row).mono ?_; intro e w2 hp
      obtain ⟨k, rfl, hk, hb⟩ := hp
      obtain ⟨hlt, hm⟩ := HGR.out
      have hkb := hk.one hm
      have hk1 : (k : Int) + 1 = (b : Int) := by omega
      have hk2 : (k : Int) ≤ 1000000 := by omega
      have HB := Lib.hid (HS.out.later hb).bel
      have HK1 := Lib.hid hk1
      clear hk hm hkb hk1 hb HMT HS HGR hlt
      go_wp2
      go_ret
      exact ⟨by rw [HK1.out]; rfl, HB.out⟩
    · rw [h9] at g
      clear h9
      go_enter Tryz.func121, Tryz.ntmps121
      go_wp2_with fail
      refine (HMT.out _ HS.out.row).mono ?_; intro e w2 hp
      obtain ⟨k, rfl, hk, hb⟩ := hp
      obtain ⟨hlt, hm⟩ := HGR.out
      have hkb := hk.one hm
      have hk1 : (k : Int) + 1 = (b : Int) := by omega
      have hk2 : (k : Int) ≤ 1000000 := by omega
      have HB := Lib.hid (HS.out.later hb).bel
      have HK1 := Lib.hid hk1
      clear hk hm hkb hk1 hb HMT HS HGR hlt
      go_wp2
      go_ret
      exact ⟨by rw [HK1.out]; rfl, HB.out⟩
def BhL (w0 : World) (A : Option Addr) (l : List Tk) (c b : Nat) (x : Value) (w : World) : Prop := ∃ k : Nat, c ≤ k ∧ k ≤ b ∧ x = .int .i64 (k : Int) ∧ TkB w0 A l w
set_option maxHeartbeats 16000000 in
theorem rbehind5_any (l : List Tk) (A : Option Addr) (c a b : Nat) {D : List Nd} {Q : List Int} (hd : Dv l .post a b D Q) (h6 : (tkAt l b).kind ≠ 6) (h7 : (tkAt l b).kind ≠ 7) (hbl : b < l.length) (hl : l.length ≤ 1000000) (w : World) (hrow : TkRow w A l) :
    Calls Tryz.prog 92 #[.slice A l.length c, .int .i64 (a : Int)] w (Ans w (.int .i64 (b : Int))) := by
  have hab := (dv_len hd).2.2 (by intro h; cases h)
  obtain ⟨bb, o, hA, -, -⟩ := hrow a (by omega)
  subst hA
  have g := (hrow.at (i := a) (by omega) rfl).1
  have HS : Hid (TkB w (some ⟨bb, o, none⟩) l w) := ⟨Below.refl _ _, hrow⟩
  have haz : (a : Int) < (l.length : Int) := by omega
  have hbz : (l.length : Int) ≤ 1000000 := by omega
  have HBL := Lib.hid hbl
  have HN6 : Hid (((tkAt l b).kind == 6) = false) := beq_false_of_ne h6
  have HN7 : Hid (((tkAt l b).kind == 7) = false) := beq_false_of_ne h7
  obtain ⟨cc, E, B, hat, hac, hcb, hal⟩ := dv_post hd rfl
  have HAL := Lib.hid hal
  have HAT0 : Hid (((tkAt l a).kind = 3 ∨ (tkAt l a).kind = 8 ∨ (tkAt l a).kind = 9) → ∀ w', TkRow w' (some ⟨bb, o, none⟩) l → Calls Tryz.prog 121 #[.slice (some ⟨bb, o, none⟩) l.length c, .int .i64 (a : Int)] w' (Ans w' (.int .i64 (cc : Int)))) := fun hk w' h => ratom5_any l _ c a cc hat hk (by omega) hl w' h
  have hcz : (cc : Int) ≤ (l.length : Int) := by omega
  clear hrow hd h6 h7 hal
  rcases atom_cases hat with ⟨hk, rfl, _⟩ | ⟨hk, rfl, _⟩ | ⟨hk, _⟩ | ⟨hk | hk, _⟩
  · have HCB := Lib.hid hcb
    clear hat HAT0 hbl hab hac hcb
    rw [hk] at g
    clear hk
    go_enter Tryz.func92, Tryz.ntmps92
    go_wp2
    have HL : Hid (BhL w (some ⟨bb, o, none⟩) l (a + 1) b (.int .i64 ((a : Int) + 1)) w) := ⟨a + 1, Nat.le_refl _, HCB.out, by go_num, HS.out⟩
    clear HS g
    go_loopw [5] (BhL w (some ⟨bb, o, none⟩) l (a + 1) b) (fun x _ => b - (intOf x).toNat)
    case atStart => exact HL.out
    case round =>
      obtain ⟨k, hck, hkb, rfl, hs⟩ := hrel
      have HS := Lib.hid hs
      clear hs HL
      have g := (HS.out.row.at (i := k) (by have := HBL.out; omega) rfl).1
      have hkz : (k : Int) < (l.length : Int) := by have := HBL.out; omega
      by_cases hlt : k < b
      · rcases HAL.out k hck hlt with h6 | h7
        · rw [h6] at g
          clear h6
          go_wp2
          go_roundw
          case rel => exact ⟨k + 1, by omega, hlt, by go_num, HS.out⟩
          case measure => simp [intOf]; omega
        · rw [h7] at g
          clear h7
          go_wp2
          go_roundw
          case rel => exact ⟨k + 1, by omega, hlt, by go_num, HS.out⟩
          case measure => simp [intOf]; omega
      · obtain rfl : k = b := by omega
        have n6 := HN6.out
        have n7 := HN7.out
        generalize (tkAt l k).kind = q at *
        go_wp2
        go_ret
        exact ⟨rfl, HS.out.bel⟩
  · have HCB := Lib.hid hcb
    clear hat HAT0 hbl hab hac hcb
    rw [hk] at g
    clear hk
    go_enter Tryz.func92, Tryz.ntmps92
    go_wp2
    have HL : Hid (BhL w (some ⟨bb, o, none⟩) l (a + 1) b (.int .i64 ((a : Int) + 1)) w) := ⟨a + 1, Nat.le_refl _, HCB.out, by go_num, HS.out⟩
    clear HS g
    go_loopw [5] (BhL w (some ⟨bb, o, none⟩) l (a + 1) b) (fun x _ => b - (intOf x).toNat)
    case atStart => exact HL.out
    case round =>
      obtain ⟨k, hck, hkb, rfl, hs⟩ := hrel
      have HS := Lib.hid hs
      clear hs HL
      have g := (HS.out.row.at (i := k) (by have := HBL.out; omega) rfl).1
      have hkz : (k : Int) < (l.length : Int) := by have := HBL.out; omega
      by_cases hlt : k < b
      · rcases HAL.out k hck hlt with h6 | h7
        · rw [h6] at g
          clear h6
          go_wp2
          go_roundw
          case rel => exact ⟨k + 1, by omega, hlt, by go_num, HS.out⟩
          case measure => simp [intOf]; omega
        · rw [h7] at g
          clear h7
          go_wp2
          go_roundw
          case rel => exact ⟨k + 1, by omega, hlt, by go_num, HS.out⟩
          case measure => simp [intOf]; omega
      · obtain rfl : k = b := by omega
        have n6 := HN6.out
        have n7 := HN7.out
        generalize (tkAt l k).kind = q at *
        go_wp2
        go_ret
        exact ⟨rfl, HS.out.bel⟩
  · have HAT := Lib.hid (HAT0.out (.inl hk))
    have HCB := Lib.hid hcb
    clear hat HAT0 hbl hab hac hcb
    rw [hk] at g
    clear hk
    go_enter Tryz.func92, Tryz.ntmps92
    go_wp2_with fail
    refine (HAT.out _ HS.out.row).mono ?_; rintro e w2 ⟨rfl, hb⟩
    have HL : Hid (BhL w (some ⟨bb, o, none⟩) l cc b (.int .i64 (cc : Int)) w2) := ⟨cc, Nat.le_refl _, by have := HCB.out; omega, rfl, HS.out.later hb⟩
    clear hb HS HAT g
    go_wp2
    go_loopw [5] (BhL w (some ⟨bb, o, none⟩) l cc b) (fun x _ => b - (intOf x).toNat)
    case atStart => exact HL.out
    case round =>
      obtain ⟨k, hck, hkb, rfl, hs⟩ := hrel
      have HS := Lib.hid hs
      clear hs HL
      have g := (HS.out.row.at (i := k) (by have := HBL.out; omega) rfl).1
      have hkz : (k : Int) < (l.length : Int) := by have := HBL.out; omega
      by_cases hlt : k < b
      · rcases HAL.out k hck hlt with h6 | h7
        · rw [h6] at g
          clear h6
          go_wp2
          go_roundw
          case rel => exact ⟨k + 1, by omega, hlt, by go_num, HS.out⟩
          case measure => simp [intOf]; omega
        · rw [h7] at g
          clear h7
          go_wp2
          go_roundw
          case rel => exact ⟨k + 1, by omega, hlt, by go_num, HS.out⟩
          case measure => simp [intOf]; omega
      · obtain rfl : k = b := by omega
        have n6 := HN6.out
        have n7 := HN7.out
        generalize (tkAt l k).kind = q at *
        go_wp2
        go_ret
        exact ⟨rfl, HS.out.bel⟩
  · have HAT := Lib.hid (HAT0.out (.inr (.inl hk)))
    have HCB := Lib.hid hcb
    clear hat HAT0 hbl hab hac hcb
    rw [hk] at g
    clear hk
    go_enter Tryz.func92, Tryz.ntmps92
    go_wp2_with fail
    refine (HAT.out _ HS.out.row).mono ?_; rintro e w2 ⟨rfl, hb⟩
    have HL : Hid (BhL w (some ⟨bb, o, none⟩) l cc b (.int .i64 (cc : Int)) w2) := ⟨cc, Nat.le_refl _, by have := HCB.out; omega, rfl, HS.out.later hb⟩
    clear hb HS HAT g
    go_wp2
    go_loopw [5] (BhL w (some ⟨bb, o, none⟩) l cc b) (fun x _ => b - (intOf x).toNat)
    case atStart => exact HL.out
    case round =>
      obtain ⟨k, hck, hkb, rfl, hs⟩ := hrel
      have HS := Lib.hid hs
      clear hs HL
      have g := (HS.out.row.at (i := k) (by have := HBL.out; omega) rfl).1
      have hkz : (k : Int) < (l.length : Int) := by have := HBL.out; omega
      by_cases hlt : k < b
      · rcases HAL.out k hck hlt with h6 | h7
        · rw [h6] at g
          clear h6
          go_wp2
          go_roundw
          case rel => exact ⟨k + 1, by omega, hlt, by go_num, HS.out⟩
          case measure => simp [intOf]; omega
        · rw [h7] at g
          clear h7
          go_wp2
          go_roundw
          case rel => exact ⟨k + 1, by omega, hlt, by go_num, HS.out⟩
          case measure => simp [intOf]; omega
      · obtain rfl : k = b := by omega
        have n6 := HN6.out
        have n7 := HN7.out
        generalize (tkAt l k).kind = q at *
        go_wp2
        go_ret
        exact ⟨rfl, HS.out.bel⟩
  · have HAT := Lib.hid (HAT0.out (.inr (.inr hk)))
    have HCB := Lib.hid hcb
    clear hat HAT0 hbl hab hac hcb
    rw [hk] at g
    clear hk
    go_enter Tryz.func92, Tryz.ntmps92
    go_wp2_with fail
    refine (HAT.out _ HS.out.row).mono ?_; rintro e w2 ⟨rfl, hb⟩
    have HL : Hid (BhL w (some ⟨bb, o, none⟩) l cc b (.int .i64 (cc : Int)) w2) := ⟨cc, Nat.le_refl _, by have := HCB.out; omega, rfl, HS.out.later hb⟩
    clear hb HS HAT g
    go_wp2
    go_loopw [5] (BhL w (some ⟨bb, o, none⟩) l cc b) (fun x _ => b - (intOf x).toNat)
    case atStart => exact HL.out
    case round =>
      obtain ⟨k, hck, hkb, rfl, hs⟩ := hrel
      have HS := Lib.hid hs
      clear hs HL
      have g := (HS.out.row.at (i := k) (by have := HBL.out; omega) rfl).1
      have hkz : (k : Int) < (l.length : Int) := by have := HBL.out; omega
      by_cases hlt : k < b
      · rcases HAL.out k hck hlt with h6 | h7
        · rw [h6] at g
          clear h6
          go_wp2
          go_roundw
          case rel => exact ⟨k + 1, by omega, hlt, by go_num, HS.out⟩
          case measure => simp [intOf]; omega
        · rw [h7] at g
          clear h7
          go_wp2
          go_roundw
          case rel => exact ⟨k + 1, by omega, hlt, by go_num, HS.out⟩
          case measure => simp [intOf]; omega
      · obtain rfl : k = b := by omega
        have n6 := HN6.out
        have n7 := HN7.out
        generalize (tkAt l k).kind = q at *
        go_wp2
        go_ret
        exact ⟨rfl, HS.out.bel⟩
def LastO (l : List Tk) (a k : Nat) (x : Int) : Prop := (x = -1 ∧ ∀ i, a ≤ i → i < k → ¬ topO l a i) ∨ ∃ b : Nat, x = (b : Int) ∧ a ≤ b ∧ b < k ∧ topO l a b ∧ ∀ i, b < i → i < k → ¬ topO l a i
theorem LastO.zero (l : List Tk) (a : Nat) : LastO l a a (-1) := .inl ⟨rfl, fun i h1 h2 => by omega⟩
theorem LastO.same {l : List Tk} {a k : Nat} {x : Int} (h : LastO l a k x) (hn : ¬ topO l a k) : LastO l a (k + 1) x := by
  have ext : ∀ {P : Nat → Prop}, (∀ i, P i → i < k → ¬ topO l a i) → ∀ i, P i → i < k + 1 → ¬ topO l a i := fun h i hp hi => by
    rcases Nat.lt_or_ge i k with h1 | h1
    · exact h i hp h1
    · rw [show i = k by omega]; exact hn
  rcases h with ⟨h1, h2⟩ | ⟨b, h1, h2, h3, h4, h5⟩
  · exact .inl ⟨h1, ext (P := fun i => a ≤ i) h2⟩
  · exact .inr ⟨b, h1, h2, by omega, h4, ext (P := fun i => b < i) h5⟩
theorem LastO.hit {l : List Tk} {a k : Nat} (h : topO l a k) (hk : a ≤ k) : LastO l a (k + 1) (k : Int) := .inr ⟨k, rfl, hk, Nat.lt_succ_self k, h, fun i h1 h2 => by omega⟩
structure OrS (w0 : World) (A : Option Addr) (l : List Tk) (br : Nat) (w : World) : Prop where
  tk : TkB w0 A l w
  res : Blk w br #[.slice none 0 0, .slice none 0 0] 83
theorem OrS.later {w0 w w' : World} {A : Option Addr} {l : List Tk} {br : Nat} (h : OrS w0 A l br w) (hb : Below w.heap.size w w') : OrS w0 A l br w' := ⟨h.tk.later hb, h.res.later hb⟩
def OrL (w0 : World) (A : Option Addr) (l : List Tk) (br a e : Nat) (x y z : Value) (w : World) : Prop := ∃ (k : Nat) (q : Int), a ≤ k ∧ k ≤ e ∧ x = .int .i64 q ∧ y = .int .i64 (nest l a (k - a)) ∧ z = .int .i64 (k : Int) ∧ LastO l a k q ∧ OrS w0 A l br w
def OrOk (l : List Tk) (A : Option Addr) (c a b : Nat) (D : List Nd) (Q : List Int) : Prop := ∀ w, TkRow w A l → Calls Tryz.prog 41 #[.slice A l.length c, .int .i64 (a : Int), .int .i64 (b : Int)] w (PtP w D Q)
def RowOk (l : List Tk) (A : Option Addr) (c a b : Nat) (D : List Nd) (Q : List Int) : Prop := ∀ w, TkRow w A l → Calls Tryz.prog 61 #[.slice A l.length c, .int .i64 (a : Int), .int .i64 (b : Int)] w (PtP w D Q)
def PostOk (l : List Tk) (A : Option Addr) (c a b : Nat) (D : List Nd) (Q : List Int) : Prop := ∀ w, TkRow w A l → Calls Tryz.prog 93 #[.slice A l.length c, .int .i64 (a : Int), .int .i64 (b : Int)] w (PtP w D Q)
set_option maxHeartbeats 32000000 in
theorem or_row (l : List Tk) (A : Option Addr) (c a e : Nat) {D : List Nd} {Q : List Int} (hae : a ≤ e) (hel : e ≤ l.length) (hl : l.length ≤ 1000) (hno : ∀ i, a ≤ i → i < e → ¬ topO l a i) (hr : RowOk l A c a e D Q) : OrOk l A c a e D Q := by
  intro w hrow
  have HRW : Hid (∀ w', OrS w A l w.heap.size w' → Calls Tryz.prog 61 #[.slice A l.length c, .int .i64 (a : Int), .int .i64 (e : Int)] w' (PtP w' D Q)) := fun w' h => hr w' h.tk.row
  have HNO := Lib.hid hno
  have HEL := Lib.hid hel
  have hlz : (l.length : Int) ≤ 1000 := by omega
  clear hno hr
  have hb1 := (Below.refl w.heap.size w).alloc (Nat.le_refl _) (.cells #[.slice none 0 0, .slice none 0 0] 83)
  have HS0 : Hid (OrS w A l w.heap.size (w.alloc (.cells #[.slice none 0 0, .slice none 0 0] 83))) := ⟨⟨hb1, hrow.later hb1⟩, Blk.new _ _ _⟩
  have HLB : Hid (w.heap.size ≤ w.heap.size) := Nat.le_refl _
  clear hrow hb1
  go_enter Tryz.func41, Tryz.ntmps41
  go_upto_region 4 with (fail)
  generalize w.alloc (.cells #[.slice none 0 0, .slice none 0 0] 83) = w1 at *
  obtain ⟨br, hbr⟩ : ∃ br, br = w.heap.size := ⟨_, rfl⟩
  rw [← hbr] at HS0 HRW ⊢
  have HLB : Hid (w.heap.size ≤ br) := by rw [hbr]; exact Nat.le_refl _
  clear hbr
  go_wp2
  have HL : Hid (OrL w A l br a e (.int .i64 (-1)) (.int .i64 0) (.int .i64 (a : Int)) w1) := ⟨a, -1, Nat.le_refl _, hae, rfl, by rw [Nat.sub_self]; rfl, rfl, LastO.zero l a, HS0.out⟩
  clear HS0
  go_loopw [7, 8, 9] (OrL w A l br a e) (fun _ _ z _ => e - (intOf z).toNat)
  case atStart => exact HL.out
  case round =>
    obtain ⟨k, q, hak, hke, rfl, rfl, rfl, hlo, hs⟩ := hrel
    have HS := Lib.hid hs
    have HLO := Lib.hid hlo
    clear hs hlo HL
    by_cases hlt : k < e
    · skip
      obtain ⟨b, o, hA, -, -⟩ := HS.out.tk.row k (by have := HEL.out; omega)
      subst hA
      have g := (HS.out.tk.row.at (i := k) (by have := HEL.out; omega) rfl).1
      have HST0 := Lib.hid (nest_step l hak)
      have hbn := nest_bnd l a (k - a)
      have HTP : Hid (topO l a k ↔ (tkAt l k).kind = 5 ∧ nest l a (k - a) = 0) := Iff.rfl
      generalize (tkAt l k).kind = t at *
      generalize nest l a (k - a) = N at *
      have hkz : (k : Int) < (e : Int) := by omega
      have hkl : (k : Int) < (l.length : Int) := by have := HEL.out; omega
      have hb1 : -1000 ≤ N := by omega
      have hb2 : N ≤ 1000 := by omega
      clear hbn
      by_cases h3 : t = 3
      · subst h3
        have HST : Hid (nest l a (k + 1 - a) = N + 1) := HST0.out
        have HNL : Hid (LastO l a (k + 1) q) := HLO.out.same (fun h => by have := (HTP.out.1 h).1; omega)
        clear HLO
        go_wp2
        go_roundw
        case rel => exact ⟨k + 1, q, by omega, hlt, rfl, by rw [HST.out], by go_num, HNL.out, HS.out⟩
        case measure => simp [intOf]; omega
      have q3 : (t == 3) = false := beq_false_of_ne h3
      by_cases h4 : t = 4
      · subst h4
        have HST : Hid (nest l a (k + 1 - a) = N - 1) := HST0.out
        have HNL : Hid (LastO l a (k + 1) q) := HLO.out.same (fun h => by have := (HTP.out.1 h).1; omega)
        clear HLO h3
        go_wp2
        go_roundw
        case rel => exact ⟨k + 1, q, by omega, hlt, rfl, by rw [HST.out], by go_num, HNL.out, HS.out⟩
        case measure => simp [intOf]; omega
      have q4 : (t == 4) = false := beq_false_of_ne h4
      have HST : Hid (nest l a (k + 1 - a) = N) := by unfold Hid; rw [HST0.out, stp_no h3 h4]; omega
      clear h3 h4 HST0
      by_cases h5 : t = 5
      · subst h5
        by_cases hz : N = 0
        · subst hz
          have HNL : Hid (LastO l a (k + 1) (k : Int)) := LastO.hit (HTP.out.2 ⟨rfl, rfl⟩) hak
          clear HLO
          go_wp2
          go_roundw
          case rel => exact ⟨k + 1, (k : Int), by omega, hlt, rfl, by rw [HST.out], by go_num, HNL.out, HS.out⟩
          case measure => simp [intOf]; omega
        · have hzb : (N == 0) = false := beq_false_of_ne hz
          have HNL : Hid (LastO l a (k + 1) q) := HLO.out.same (fun h => hz (HTP.out.1 h).2)
          clear HLO hz
          go_wp2
          go_roundw
          case rel => exact ⟨k + 1, q, by omega, hlt, rfl, by rw [HST.out], by go_num, HNL.out, HS.out⟩
          case measure => simp [intOf]; omega
      · have q5 : (t == 5) = false := beq_false_of_ne h5
        have HNL : Hid (LastO l a (k + 1) q) := HLO.out.same (fun h => h5 (HTP.out.1 h).1)
        clear HLO h5
        go_wp2
        go_roundw
        case rel => exact ⟨k + 1, q, by omega, hlt, rfl, by rw [HST.out], by go_num, HNL.out, HS.out⟩
        case measure => simp [intOf]; omega
    · obtain rfl : k = e := by omega
      have hkz : ¬ (k : Int) < (k : Int) := by omega
      obtain rfl : q = -1 := by
        rcases HLO.out with ⟨h, _⟩ | ⟨b, _, h2, h3, h4, _⟩
        · exact h
        · exact absurd h4 (HNO.out b h2 h3)
      go_wp2_with fail
      refine (HRW.out _ HS.out).mono ?_; rintro en w2 ⟨nv, av, rfl, ho, hi, hb⟩
      have HS2 := Lib.hid (HS.out.later hb)
      have hlo := HS.out.tk.bel.size
      have HO : Hid (OwnN w2 w.heap.size nv D) := ho.weaken hlo
      have HI : Hid (OwnI w2 w.heap.size av Q) := own_low hi hlo
      clear hb ho hi hlo HS HRW
      obtain ⟨a5, c5, m5, rfl⟩ := row_num HI.out
      obtain ⟨a6, c6, m6, rfl⟩ := row_nd HO.out
      have z0 := HS2.out.res.cell 0
      have z1 := HS2.out.res.cell 1
      have f0 := HS2.out.res.frozen 0
      have f1 := HS2.out.res.frozen 1
      simp at z0 z1
      go_wp2
      exact bodyPost_ret (v := .agg #[.slice a6 m6 c6, .slice a5 m5 c5]) (by simp [results, Tryz.results41, go_sem, z0, z1, f0, f1]) rfl ⟨_, _, rfl, part_set HO.out HS2.out.res _ _, part_seti HI.out HS2.out.res _ _, (HS2.out.tk.bel.setCell (p := ⟨br, 0, none⟩) HLB.out _).setCell (p := ⟨br, 1, none⟩) HLB.out _⟩
set_option maxHeartbeats 64000000 in
theorem or_split (l : List Tk) (A : Option Addr) (c a e bs_ : Nat) {D1 D2 : List Nd} {Q1 Q2 : List Int} (hab : a < bs_) (hbe : bs_ < e) (hel : e ≤ l.length) (hl : l.length ≤ 1000) (htop : topO l a bs_) (hno : ∀ i, bs_ < i → i < e → ¬ topO l a i)
    (sd1 : Sd D1) (sd2 : Sd D2) (hq1 : 0 < Q1.length ∧ Q1.length ≤ 4096) (hq2 : 0 < Q2.length ∧ Q2.length ≤ 4096) (ho : OrOk l A c a bs_ D1 Q1) (hr : RowOk l A c (bs_ + 1) e D2 Q2) : OrOk l A c a e (pairL 5 D1 D2) (Q1 ++ Q2 ++ [-1]) := by
  intro w hrow
  have HOR : Hid (∀ w', OrS w A l w.heap.size w' → Calls Tryz.prog 41 #[.slice A l.length c, .int .i64 (a : Int), .int .i64 (bs_ : Int)] w' (PtP w' D1 Q1)) := fun w' h => ho w' h.tk.row
  have HRW : Hid (∀ w', OrS w A l w.heap.size w' → Calls Tryz.prog 61 #[.slice A l.length c, .int .i64 ((bs_ : Int) + 1), .int .i64 (e : Int)] w' (PtP w' D2 Q2)) := fun w' h => by
    have q := hr w' h.tk.row
    rwa [show ((bs_ + 1 : Nat) : Int) = (bs_ : Int) + 1 by omega] at q
  have HTO : Hid (∀ q, LastO l a e q → q = (bs_ : Int)) := fun q h => by
    rcases h with ⟨_, h⟩ | ⟨b', h1, h2, h3, h4, h5⟩
    · exact absurd htop (h bs_ (by omega) hbe)
    · rcases Nat.lt_trichotomy b' bs_ with g | g | g
      · exact absurd htop (h5 bs_ g hbe)
      · rw [h1, g]
      · exact absurd h4 (hno b' g h3)
  have HEL := Lib.hid hel
  have hlz : (l.length : Int) ≤ 1000 := by omega
  have SD1 := Lib.hid sd1
  have SD2 := Lib.hid sd2
  obtain ⟨p, hp⟩ : ∃ p, Q1.length = p := ⟨_, rfl⟩
  obtain ⟨q, hq⟩ : ∃ q, Q2.length = q := ⟨_, rfl⟩
  have HP1 := Lib.hid hp
  have HP2 := Lib.hid hq
  have HPQ : Hid (0 < p ∧ 0 < q ∧ p + q ≤ 100000) := ⟨by omega, by omega, by omega⟩
  have hbz : (bs_ : Int) + 1 ≤ 1000 := by omega
  have hae : a ≤ e := by omega
  clear hno ho hr htop sd1 sd2 hp hq hq1 hq2
  have hb1 := (Below.refl w.heap.size w).alloc (Nat.le_refl _) (.cells #[.slice none 0 0, .slice none 0 0] 83)
  have HS0 : Hid (OrS w A l w.heap.size (w.alloc (.cells #[.slice none 0 0, .slice none 0 0] 83))) := ⟨⟨hb1, hrow.later hb1⟩, Blk.new _ _ _⟩
  have HLB : Hid (w.heap.size ≤ w.heap.size) := Nat.le_refl _
  clear hrow hb1
  go_enter Tryz.func41, Tryz.ntmps41
  go_upto_region 4 with (fail)
  generalize w.alloc (.cells #[.slice none 0 0, .slice none 0 0] 83) = w1 at *
  obtain ⟨br, hbr⟩ : ∃ br, br = w.heap.size := ⟨_, rfl⟩
  rw [← hbr] at HS0 HRW HOR ⊢
  have HLB : Hid (w.heap.size ≤ br) := by rw [hbr]; exact Nat.le_refl _
  clear hbr
  go_wp2
  have HL : Hid (OrL w A l br a e (.int .i64 (-1)) (.int .i64 0) (.int .i64 (a : Int)) w1) := ⟨a, -1, Nat.le_refl _, hae, rfl, by rw [Nat.sub_self]; rfl, rfl, LastO.zero l a, HS0.out⟩
  clear HS0
  go_loopw [7, 8, 9] (OrL w A l br a e) (fun _ _ z _ => e - (intOf z).toNat)
  case atStart => exact HL.out
  case round =>
    obtain ⟨k, lq, hak, hke, rfl, rfl, rfl, hlo, hs⟩ := hrel
    have HS := Lib.hid hs
    have HLO := Lib.hid hlo
    clear hs hlo HL
    by_cases hlt : k < e
    · skip
      obtain ⟨b, o, hA, -, -⟩ := HS.out.tk.row k (by have := HEL.out; omega)
      subst hA
      have g := (HS.out.tk.row.at (i := k) (by have := HEL.out; omega) rfl).1
      have HST0 := Lib.hid (nest_step l hak)
      have hbn := nest_bnd l a (k - a)
      have HTP : Hid (topO l a k ↔ (tkAt l k).kind = 5 ∧ nest l a (k - a) = 0) := Iff.rfl
      generalize (tkAt l k).kind = t at *
      generalize nest l a (k - a) = N at *
      have hkz : (k : Int) < (e : Int) := by omega
      have hkl : (k : Int) < (l.length : Int) := by have := HEL.out; omega
      have hb1 : -1000 ≤ N := by omega
      have hb2 : N ≤ 1000 := by omega
      clear hbn
      by_cases h3 : t = 3
      · subst h3
        have HST : Hid (nest l a (k + 1 - a) = N + 1) := HST0.out
        have HNL : Hid (LastO l a (k + 1) lq) := HLO.out.same (fun h => by have := (HTP.out.1 h).1; omega)
        clear HLO
        go_wp2
        go_roundw
        case rel => exact ⟨k + 1, lq, by omega, hlt, rfl, by rw [HST.out], by go_num, HNL.out, HS.out⟩
        case measure => simp [intOf]; omega
      have q3 : (t == 3) = false := beq_false_of_ne h3
      by_cases h4 : t = 4
      · subst h4
        have HST : Hid (nest l a (k + 1 - a) = N - 1) := HST0.out
        have HNL : Hid (LastO l a (k + 1) lq) := HLO.out.same (fun h => by have := (HTP.out.1 h).1; omega)
        clear HLO h3
        go_wp2
        go_roundw
        case rel => exact ⟨k + 1, lq, by omega, hlt, rfl, by rw [HST.out], by go_num, HNL.out, HS.out⟩
        case measure => simp [intOf]; omega
      have q4 : (t == 4) = false := beq_false_of_ne h4
      have HST : Hid (nest l a (k + 1 - a) = N) := by unfold Hid; rw [HST0.out, stp_no h3 h4]; omega
      clear h3 h4 HST0
      by_cases h5 : t = 5
      · subst h5
        by_cases hz : N = 0
        · subst hz
          have HNL : Hid (LastO l a (k + 1) (k : Int)) := LastO.hit (HTP.out.2 ⟨rfl, rfl⟩) hak
          clear HLO
          go_wp2
          go_roundw
          case rel => exact ⟨k + 1, (k : Int), by omega, hlt, rfl, by rw [HST.out], by go_num, HNL.out, HS.out⟩
          case measure => simp [intOf]; omega
        · have hzb : (N == 0) = false := beq_false_of_ne hz
          have HNL : Hid (LastO l a (k + 1) lq) := HLO.out.same (fun h => hz (HTP.out.1 h).2)
          clear HLO hz
          go_wp2
          go_roundw
          case rel => exact ⟨k + 1, lq, by omega, hlt, rfl, by rw [HST.out], by go_num, HNL.out, HS.out⟩
          case measure => simp [intOf]; omega
      · have q5 : (t == 5) = false := beq_false_of_ne h5
        have HNL : Hid (LastO l a (k + 1) lq) := HLO.out.same (fun h => h5 (HTP.out.1 h).1)
        clear HLO h5
        go_wp2
        go_roundw
        case rel => exact ⟨k + 1, lq, by omega, hlt, rfl, by rw [HST.out], by go_num, HNL.out, HS.out⟩
        case measure => simp [intOf]; omega
    · obtain rfl : k = e := by omega
      have hkz : ¬ (k : Int) < (k : Int) := by omega
      obtain rfl : lq = (bs_ : Int) := HTO.out _ HLO.out
      have hnn : ¬ (bs_ : Int) < 0 := by omega
      clear HTO HLO
      go_wp2_with fail
      refine (HOR.out _ HS.out).mono ?_; rintro en w2 ⟨nv1, av1, rfl, ho, hi, hb⟩
      have hlo := HS.out.tk.bel.size
      obtain ⟨⟨an, kn, hkn, hnv, hrn⟩, b1, o1, c1, rfl, hri⟩ := ptr_of ho hi (by have := HPQ.out.1; have := HP1.out; omega)
      have hnv : nv1 = .slice an D1.length kn := by injection hnv with hnv; simpa using hnv
      subst hnv
      obtain ⟨n, hn⟩ : ∃ n, D1.length = n := ⟨_, rfl⟩
      rw [hn, HP1.out]
      have hb2 := (Below.refl w2.heap.size w2).alloc (Nat.le_refl _) (.cells #[.slice an n kn, .slice (some ⟨b1, o1, none⟩) p c1] 83)
      have HS2 := Lib.hid (HS.out.later (hb.trans (hb2.mono hb.size)))
      have HB1 := Lib.hid (Blk.new w2 #[.slice an n kn, .slice (some ⟨b1, o1, none⟩) p c1] 83)
      have HN1 : Hid (IsD D1 (.agg #[.slice an n kn]) _) := ⟨an, kn, hkn, by rw [hn], hrn.later hb2⟩
      have HQ1 := Lib.hid (hri.later hb2)
      clear hb hb2 ho hi hkn hrn hri hn HOR HS hlo
      go_upto_region 15 with (fail)
      generalize w2.alloc (.cells #[.slice an n kn, .slice (some ⟨b1, o1, none⟩) p c1] 83) = w4 at *
      generalize w2.heap.size = x1 at *
      go_wp2_with fail
      refine (HRW.out _ HS2.out).mono ?_; rintro en w5 ⟨nv2, av2, rfl, ho, hi, hb⟩
      obtain ⟨⟨am, km, hkm, hnv, hrn⟩, b2, o2, c2, rfl, hri⟩ := ptr_of ho hi (by have := HPQ.out.2.1; have := HP2.out; omega)
      have hnv : nv2 = .slice am D2.length km := by injection hnv with hnv; simpa using hnv
      subst hnv
      obtain ⟨m, hm⟩ : ∃ m, D2.length = m := ⟨_, rfl⟩
      rw [hm, HP2.out]
      have hb2 := (Below.refl w5.heap.size w5).alloc (Nat.le_refl _) (.cells #[.slice am m km, .slice (some ⟨b2, o2, none⟩) q c2] 83)
      have HS3 := Lib.hid (HS2.out.later (hb.trans (hb2.mono hb.size)))
      have HB1X := Lib.hid ((HB1.out.later hb).later hb2)
      have HB2X := Lib.hid (Blk.new w5 #[.slice am m km, .slice (some ⟨b2, o2, none⟩) q c2] 83)
      have HN1 := Lib.hid (IsD.later _ _ _ _ (IsD.later _ _ _ _ HN1.out hb) hb2)
      have HQ1 := Lib.hid ((HQ1.out.later hb).later hb2)
      have HN2 : Hid (IsD D2 (.agg #[.slice am m km]) _) := ⟨am, km, hkm, by rw [hm], hrn.later hb2⟩
      have HQ2 := Lib.hid (hri.later hb2)
      clear hb hb2 ho hi hkm hrn hri hm HRW HS2 HB1
      go_upto_region 16 with (fail)
      generalize w5.alloc (.cells #[.slice am m km, .slice (some ⟨b2, o2, none⟩) q c2] 83) = w3 at *
      generalize w5.heap.size = x2 at *
      have HB := Lib.hid HS3.out.tk.bel
      have HRES := Lib.hid HS3.out.res
      clear HS3
      obtain ⟨L, hL⟩ : ∃ L, L = Q1 ++ Q2 ++ [-1] := ⟨_, rfl⟩
      have HLQ : Hid ((L.drop 0).take p = Q1 ∧ (L.drop p).take q = Q2 ∧ (L.drop (p + q)).take 1 = [-1] ∧ L.length = p + q + 1 ∧ L.take (p + q + 1) = L) := by
        have e1 := HP1.out
        have e2 := HP2.out
        subst hL
        refine ⟨by rw [← e1]; simp, by rw [← e1, ← e2]; simp, by rw [← e1, ← e2, ← List.length_append]; simp, by rw [← e1, ← e2]; simp; omega, ?_⟩
        rw [← e1, ← e2]; exact List.take_of_length_le (by simp; omega)
      have HLE := Lib.hid hL
      clear hL
      obtain ⟨BASE, hBASE⟩ : ∃ B, B = w3.heap.size := ⟨_, rfl⟩
      have HBASE := Lib.hid hBASE
      have HR : Hid (∀ w w' : World, Below w.heap.size w w' → IR BASE L w w') := fun w w' h => IR.of w w' h
      have HS3 : Hid (IrS w3 w3) := Below.refl _ _
      have HLO : Hid (∀ w', IrS w3 w' → BASE ≤ w'.heap.size) := fun w' h => by rw [hBASE]; exact h.size
      have HPR : Hid (∀ w', IrS w3 w' → Calls Tryz.prog 18 #[.int .i64 5, .agg #[.slice an n kn], .agg #[.slice am m km]] w' (DPost w' (pairL 5 D1 D2))) := fun w' h => (HN1.out.later _ _ _ _ h).rpair' (HN2.out.later _ _ _ _ h) SD1.out SD2.out 5
      clear hBASE
      refine G.wp_region_stable_last (R := (IR BASE L)) HR.out (S := (IrS w3)) (hSt := fun _ _ h hr => h.grow (HBASE.out ▸ hr)) (plan := [[(10, none)], [(60, some 0)], [(11, none)], [(62, some 2)], [(61, some 1), (63, some 3)], [], [(10, none)], [(66, some 6)], [(65, some 5), (67, some 7)], [(11, none)], [(69, some 9)], [(68, some 8), (70, some 10)], [], [(71, some 11), (72, some 12)], [(64, some 4), (73, some 13)]]) rfl (by kernel_rfl) (by kernel_rfl) (by kernel_rfl) (by kernel_rfl) ?hS ?_
      rotate_left
      simp only [List.dropLast]
      iterate 4 first
        | (refine G.chain_skip (by rfl) (by rfl) ?_)
        | (apply G.chain_want (by rfl)
           · intro act wx hS hr
             simp at hr
             have e0 := (HB1X.out.later hS).cell 0
             have e1 := (HB1X.out.later hS).cell 1
             have e2 := (HB2X.out.later hS).cell 0
             have e3 := (HB2X.out.later hS).cell 1
             simp at e0 e1 e2 e3
             go_simp
             (try go_ints)
             first
               | exact G.Done.same HR.out
          )
      (refine G.chain_rel (VwN BASE (pairL 5 D1 D2)) (VwN.grow _) (by rfl) ?_ ?_
       · intro act wx hS hr
         simp at hr
         have e0 := (HB1X.out.later hS).cell 0
         have e1 := (HB1X.out.later hS).cell 1
         have e2 := (HB2X.out.later hS).cell 0
         have e3 := (HB2X.out.later hS).cell 1
         simp at e0 e1 e2 e3
         all_goals go_simp
         ((with_reducible refine (HPR.out _ hS).mono ?_); intro e w' hp; obtain ⟨v, rfl, ho, hb⟩ := hp; exact G.Done.rel (HR.out _ _ hb) ⟨Nat.le_trans (HLO.out _ hS) hb.size, v, rfl, ho.weaken (HLO.out _ hS)⟩)
      )
      (refine G.chain_rel (VwE BASE) (VwE.grow) (by rfl) ?_ ?_
       · intro act wx hS hr
         simp at hr
         have e0 := (HB1X.out.later hS).cell 0
         have e1 := (HB1X.out.later hS).cell 1
         have e2 := (HB2X.out.later hS).cell 0
         have e3 := (HB2X.out.later hS).cell 1
         simp at e0 e1 e2 e3
         all_goals go_simp
         exact G.Done.rel (HR.out _ _ ((Below.refl _ _).alloc (Nat.le_refl _) _)) ⟨Nat.le_trans (HLO.out _ hS) (by simp), _, rfl, HLO.out _ hS, Blk.new _ _ _⟩
      )
      iterate 2 first
        | (refine G.chain_skip (by rfl) (by rfl) ?_)
        | (apply G.chain_want (by rfl)
           · intro act wx hS hr
             simp at hr
             have e0 := (HB1X.out.later hS).cell 0
             have e1 := (HB1X.out.later hS).cell 1
             have e2 := (HB2X.out.later hS).cell 0
             have e3 := (HB2X.out.later hS).cell 1
             simp at e0 e1 e2 e3
             go_simp
             (try go_ints)
             first
               | exact G.Done.same HR.out
          )
      (refine G.chain_rel (VwL BASE L p) (VwL.grow p) (by rfl) ?_ ?_
       · intro act wx hS hr
         simp at hr
         have e0 := (HB1X.out.later hS).cell 0
         have e1 := (HB1X.out.later hS).cell 1
         have e2 := (HB2X.out.later hS).cell 0
         have e3 := (HB2X.out.later hS).cell 1
         simp at e0 e1 e2 e3
         obtain ⟨⟨v, hr2, hlo, g0, rfl, hg0, hk⟩, hr3⟩ := hr
         refine wp_append_ints (.tmp 65) (.tmp 67) rfl BASE (.slice (some ⟨g0, 0, none⟩) 0 0) L 0 p (by have := HLQ.out.2.2.2.1; omega) HPQ.out.1 (.inr ⟨g0, rfl⟩) (by simp [Act.eval, hr2]) (OwnI.empty hk hg0 L) b1 o1 c1 (by simp [Act.eval, hr3]) (by rw [HLQ.out.1]; exact HQ1.out.later hS) (by have := HLQ.out.2.2.2.1; have := HPQ.out.2.2; omega) (HLO.out _ hS) ?_
         intro v' w' q1 q2
         rw [Nat.zero_add] at q1
         exact G.Done.rel q2 ⟨Nat.le_trans (HLO.out _ hS) (q2.out (HLO.out _ hS)).1.size, q1⟩
         all_goals go_simp
      )
      iterate 2 first
        | (refine G.chain_skip (by rfl) (by rfl) ?_)
        | (apply G.chain_want (by rfl)
           · intro act wx hS hr
             simp at hr
             have e0 := (HB1X.out.later hS).cell 0
             have e1 := (HB1X.out.later hS).cell 1
             have e2 := (HB2X.out.later hS).cell 0
             have e3 := (HB2X.out.later hS).cell 1
             simp at e0 e1 e2 e3
             go_simp
             (try go_ints)
             first
               | exact G.Done.same HR.out
          )
      (refine G.chain_rel (VwL BASE L (p + q)) (VwL.grow (p + q)) (by rfl) ?_ ?_
       · intro act wx hS hr
         simp at hr
         have e0 := (HB1X.out.later hS).cell 0
         have e1 := (HB1X.out.later hS).cell 1
         have e2 := (HB2X.out.later hS).cell 0
         have e3 := (HB2X.out.later hS).cell 1
         simp at e0 e1 e2 e3
         obtain ⟨⟨v, hr2, hlo, ho⟩, hr3⟩ := hr
         refine wp_append_ints (.tmp 68) (.tmp 70) rfl BASE v L p q (by have := HLQ.out.2.2.2.1; omega) HPQ.out.2.1 (.inl (by have := HPQ.out; omega)) (by simp [Act.eval, hr2]) ho b2 o2 c2 (by simp [Act.eval, hr3]) (by rw [HLQ.out.2.1]; exact HQ2.out.later hS) (by have := HLQ.out.2.2.2.1; have := HPQ.out.2.2; omega) (HLO.out _ hS) ?_
         intro v' w' q1 q2
         exact G.Done.rel q2 ⟨Nat.le_trans (HLO.out _ hS) (q2.out (HLO.out _ hS)).1.size, q1⟩
         all_goals go_simp
      )
      (refine G.chain_rel (VwO BASE (-1)) (VwO.grow (-1)) (by rfl) ?_ ?_
       · intro act wx hS hr
         simp at hr
         have e0 := (HB1X.out.later hS).cell 0
         have e1 := (HB1X.out.later hS).cell 1
         have e2 := (HB2X.out.later hS).cell 0
         have e3 := (HB2X.out.later hS).cell 1
         simp at e0 e1 e2 e3
         all_goals go_simp
         exact G.Done.rel (HR.out _ _ ((Below.refl _ _).alloc (Nat.le_refl _) _)) ⟨Nat.le_trans (HLO.out _ hS) (by simp), _, rfl, Blk.new _ _ _⟩
      )
      (refine G.chain_rel (VwL BASE L (p + q + 1)) (VwL.grow (p + q + 1)) (by rfl) ?_ ?_
       · intro act wx hS hr
         simp at hr
         have e0 := (HB1X.out.later hS).cell 0
         have e1 := (HB1X.out.later hS).cell 1
         have e2 := (HB2X.out.later hS).cell 0
         have e3 := (HB2X.out.later hS).cell 1
         simp at e0 e1 e2 e3
         obtain ⟨⟨v, hr2, hlo, ho⟩, v5, hr5, hlo5, g5, rfl, hk5⟩ := hr
         refine wp_append_ints (.tmp 71) (.tmp 72) rfl BASE v L (p + q) 1 (by have := HLQ.out.2.2.2.1; omega) (by omega) (.inl (by have := HPQ.out; omega)) (by simp [Act.eval, hr2]) ho g5 0 1 (by simp [Act.eval, hr5]) (by rw [HLQ.out.2.2.1]; exact one_row hk5) (by have := HLQ.out.2.2.2.1; have := HPQ.out.2.2; omega) (HLO.out _ hS) ?_
         intro v' w' q1 q2
         exact G.Done.rel q2 ⟨Nat.le_trans (HLO.out _ hS) (q2.out (HLO.out _ hS)).1.size, q1⟩
         all_goals go_simp
      )
      (refine G.chain_rel (VwP BASE (pairL 5 D1 D2) L (p + q + 1)) (VwP.grow _ (p + q + 1)) (by rfl) ?_ ?_
       · intro act wx hS hr
         simp at hr
         have e0 := (HB1X.out.later hS).cell 0
         have e1 := (HB1X.out.later hS).cell 1
         have e2 := (HB2X.out.later hS).cell 0
         have e3 := (HB2X.out.later hS).cell 1
         simp at e0 e1 e2 e3
         obtain ⟨⟨v, hr2, hlo, s, rfl, hs⟩, v5, hr5, hlo5, ho5⟩ := hr
         obtain ⟨a5, c5, m5, rfl⟩ := row_num ho5
         obtain ⟨a6, c6, m6, rfl⟩ := row_nd hs
         all_goals go_simp
         exact G.Done.rel (HR.out _ _ (Below.refl _ _)) ⟨hlo, _, _, rfl, hs, ho5⟩
      )
      show ∀ w', _ → _
      intro wz hz
      simp [Act.put]
      case hS => exact HS3.out
      intro y1 _ y2 _ y3 _ y4 _ y5 _ y6 _ y7 hy
      obtain ⟨hlo, s, u, rfl, hs, hu⟩ := hy
      obtain ⟨a5, c5, m5, rfl⟩ := row_num hu
      obtain ⟨a6, c6, m6, rfl⟩ := row_nd hs
      have HNZ : Hid (OwnN wz w.heap.size (.slice a6 m6 c6) (pairL 5 D1 D2)) := hs.weaken (by rw [HBASE.out]; exact HB.out.size)
      have HUZ : Hid (OwnI wz w.heap.size (.slice a5 m5 c5) (Q1 ++ Q2 ++ [-1])) := by
        rw [HLQ.out.2.2.2.2, HLE.out] at hu
        exact own_low hu (by rw [HBASE.out]; exact HB.out.size)
      have HBZ := Lib.hid (HB.out.trans (Below.mono hz HB.out.size))
      have HRZ := Lib.hid (HRES.out.later hz)
      have z0 := HRZ.out.cell 0
      have z1 := HRZ.out.cell 1
      have f0 := HRZ.out.frozen 0
      have f1 := HRZ.out.frozen 1
      simp at z0 z1
      clear hz hlo hs hu
      go_wp2
      exact bodyPost_ret (v := .agg #[.slice a6 m6 c6, .slice a5 m5 c5]) (by simp [results, Tryz.results41, go_sem, z0, z1, f0, f1]) rfl ⟨_, _, rfl, part_set HNZ.out HRZ.out _ _, part_seti HUZ.out HRZ.out _ _, (HBZ.out.setCell (p := ⟨br, 0, none⟩) HLB.out _).setCell (p := ⟨br, 1, none⟩) HLB.out _⟩
end Go.Proofs.YtcgjmnhmhiddkaaGreatDoor
