/- SortStableFunc over a row of classes in the order by least bytes: the row is sorted, those of one least byte as they came. -/
import Derived.Test.YtgehepiphdphjaaDoorSortSymB
import Derived.Test.YtgehepiphdphjaaDoorSortSymC
namespace Go.Proofs.YtgehepiphdphjaaDoor
open Go Go.RowKit
set_option linter.unusedVariables false

theorem sym_all (L : Nat → BitVec 256) (b n cap : Nat) (hnb : 2 ≠ b) (hn : n < 1152921504606846976) : ∀ sz, Sym L b n cap sz
  | 0 => fun a m e d w hsz _ _ ham hme _ _ => by omega
  | sz + 1 => fun a m e d w hsz h hd ham hme he h2 => by
    by_cases h1 : m = a + 1
    · subst h1; exact sym_one L b n cap hnb hn a e d w h hd hme he h2
    · by_cases h3 : e = m + 1
      · subst h3; exact sym_right L b n cap hnb hn a m d w h hd (by omega) he h2
      · by_cases h4 : (a + e) / 2 < m
        · exact sym_hi L b n cap sz hnb hn (sym_all L b n cap hnb hn sz) a m e d w hsz h hd ham hme h1 h3 he h4 h2
        · exact sym_lo L b n cap sz hnb hn (sym_all L b n cap hnb hn sz) a m e d w hsz h hd ham hme h1 h3 he h4 h2

theorem sym_at (L : Nat → BitVec 256) (b n cap : Nat) (hnb : 2 ≠ b) (hn : n < 1152921504606846976) (a m e : Nat) (az mz ez : Int) (d : Nat → Nat) (w : World) (haz : az = a) (hmz : mz = m) (hez : ez = e)
    (h : CRow w b n (fun i => L (d i))) (hd : Deb w) (ham : a < m) (hme : m < e) (he : e ≤ n) (h1 : Good (fun i => lstB (L i)) a m d) (h2 : Good (fun i => lstB (L i)) m e d) :
    Calls Tryd.prog 95 #[.slice (some ⟨b, 0, none⟩) n cap, .int .i64 az, .int .i64 mz, .int .i64 ez, .func (.func 63) #[] #[]] w (Sorted (fun i => lstB (L i)) L d a e b n w) := by
  subst haz hmz hez
  exact sym_all L b n cap hnb hn _ a m e d w (Nat.le_refl _) h hd ham hme he (h1.two h2)

theorem insertion_at (L : Nat → BitVec 256) (d : Nat → Nat) (a e b n cap : Nat) (az ez : Int) (w : World) (haz : az = a) (hez : ez = e) (h : CRow w b n (fun i => L (d i))) (hd : Deb w) (hnb : 2 ≠ b) (hae : a ≤ e) (he : e ≤ n) (hn : n < 1152921504606846976)
    (hp : ∀ i, a ≤ i → d i = i) :
    Calls Tryd.prog 94 #[.slice (some ⟨b, 0, none⟩) n cap, .int .i64 az, .int .i64 ez, .func (.func 63) #[] #[]] w (Sorted (fun i => lstB (L i)) L d a e b n w) := by
  subst haz hez
  refine insertion_any L d a e b n cap w h hd hnb hae he hn fun i j h1 h2 h3 h4 => ?_
  rw [hp i h1, hp j (by omega)] at h4 ⊢
  show lstB (L i) < lstB (L j) ∨ (lstB (L i) = lstB (L j) ∧ i < j)
  omega

/-- In blocks of 20 up to A. -/
def StabA (L : Nat → BitVec 256) (b n : Nat) (w : World) (i j : Value) (wr : World) : Prop :=
  ∃ (A : Nat) (c : Nat → Nat), i = .int .i64 A ∧ j = .int .i64 ((A : Int) + 20) ∧ A ≤ n ∧ First (fun i => lstB (L i)) 20 A c ∧ Mv 0 n id c ∧ SortS w b n (fun i => L (c i)) wr
/-- In blocks of B. -/
def StabB (L : Nat → BitVec 256) (b n : Nat) (w : World) (s : Value) (wr : World) : Prop :=
  ∃ (B : Nat) (c : Nat → Nat), s = .int .i64 B ∧ 20 ≤ B ∧ B ≤ 2 * n + 20 ∧ Blocks (fun i => lstB (L i)) B n c ∧ Mv 0 n id c ∧ SortS w b n (fun i => L (c i)) wr
def StabC (L : Nat → BitVec 256) (B b n : Nat) (w : World) (i j : Value) (wr : World) : Prop :=
  ∃ (A : Nat) (c : Nat → Nat), i = .int .i64 A ∧ j = .int .i64 ((A : Int) + 2 * (B : Int)) ∧ A ≤ n ∧ Part (fun i => lstB (L i)) B n A c ∧ Mv 0 n id c ∧ SortS w b n (fun i => L (c i)) wr

set_option maxRecDepth 1000000 in
set_option maxHeartbeats 16000000 in
theorem stable_any (L : Nat → BitVec 256) (b n cap : Nat) (w : World) (h : CRow w b n L) (hd : Deb w) (hnb : 2 ≠ b) (hn : n < 1152921504606846976) :
    Calls Tryd.prog 82 #[.slice (some ⟨b, 0, none⟩) n cap, .int .i64 n, .func (.func 63) #[] #[]] w (Sorted (fun i => lstB (L i)) L id 0 n b n w) := by
  have H := Lib.hid (SortS.mk h hd (But.refl b w))
  have HNB := Lib.hid hnb
  have hbound : (n : Int) < 1152921504606846976 := by omega
  clear h hd hnb
  go_enter Tryd.func82, Tryd.ntmps82
  go_wp2
  go_loopw [7, 8] (StabA L b n w) (fun i _ _ => n + 1 - (intOf i).toNat)
  case atStart => exact ⟨0, id, by first | rfl | go_num, by first | rfl | go_num, by omega, first_start 20 id (fun _ => rfl), Mv.refl _ _ _, H.out⟩
  case round =>
    obtain ⟨A, c, rfl, rfl, hA, hF, hM, hS⟩ := hrel
    have HF := Lib.hid hF
    have HM := Lib.hid hM
    have HS := Lib.hid hS
    clear hF hM hS
    by_cases hlt : A + 20 ≤ n
    · have hltz : (A : Int) + 20 ≤ (n : Int) := by omega
      go_wp2_with fail
      refine (insertion_at L c A (A + 20) b n cap _ _ _ rfl (by omega) HS.out.row HS.out.deb HNB.out (by omega) hlt hn HF.out.choose_spec.2.2).mono ?_
      rintro ee w1 ⟨rfl, d1, M1, Q1, S1⟩
      have HQ := Lib.hid (And.intro (HF.out.step M1 Q1) (And.intro (HM.out.trans (M1.wide (Nat.zero_le _) hlt)) (HS.out.trans S1)))
      clear M1 Q1 S1
      go_wp2
      go_roundw
      case rel => exact ⟨A + 20, d1, by go_num, by go_num, hlt, HQ.out⟩
      case measure => simp [intOf]; omega
    · have hltz : ¬ (A : Int) + 20 ≤ (n : Int) := by omega
      go_wp2_with fail
      refine (insertion_at L c A n b n cap _ _ _ rfl rfl HS.out.row HS.out.deb HNB.out hA (Nat.le_refl _) hn HF.out.choose_spec.2.2).mono ?_
      rintro ee w1 ⟨rfl, d1, M1, Q1, S1⟩
      have HQ := Lib.hid (And.intro (HF.out.blocks hA (by omega) M1 Q1) (And.intro (HM.out.trans (M1.wide (Nat.zero_le _) (Nat.le_refl _))) (HS.out.trans S1)))
      clear M1 Q1 S1
      go_wp2
      go_loopw [6, 7, 8, 9] (fun s _ _ _ wr => StabB L b n w s wr) (fun s _ _ _ _ => 2 * n + 20 - (intOf s).toNat)
      case atStart => exact ⟨20, d1, rfl, by omega, by omega, HQ.out⟩
      case round =>
        obtain ⟨B, c2, rfl, hB, hB2, hBl, hM2, hS2⟩ := hrel
        have HBL := Lib.hid hBl
        have HM2 := Lib.hid hM2
        have HS2 := Lib.hid hS2
        clear hBl hM2 hS2
        by_cases hBn : B < n
        · have hBz : (B : Int) < (n : Int) := by omega
          go_wp2
          go_loopw [7, 8] (StabC L B b n w) (fun i _ _ => n + 1 - (intOf i).toNat)
          case atStart => exact ⟨0, c2, by first | rfl | go_num, by first | rfl | go_num, by omega, part_start HBL.out, HM2.out, HS2.out⟩
          case round =>
            obtain ⟨A2, c3, rfl, rfl, hA2, hP, hM3, hS3⟩ := hrel
            have HP := Lib.hid hP
            have HM3 := Lib.hid hM3
            have HS3 := Lib.hid hS3
            clear hP hM3 hS3
            by_cases hlt2 : A2 + 2 * B ≤ n
            · have hltz2 : (A2 : Int) + 2 * (B : Int) ≤ (n : Int) := by omega
              have g1 := HP.out.left (by omega)
              have g2 := HP.out.right (by omega)
              rw [show min (A2 + B) n = A2 + B by omega] at g1
              rw [show min (A2 + 2 * B) n = A2 + 2 * B by omega] at g2
              have G1 := Lib.hid g1
              have G2 := Lib.hid g2
              clear g1 g2
              go_wp2_with fail
              refine (sym_at L b n cap HNB.out hn A2 (A2 + B) (A2 + 2 * B) _ _ _ c3 _ rfl (by omega) (by omega) HS3.out.row HS3.out.deb (by omega) (by omega) hlt2 G1.out G2.out).mono ?_
              rintro ee w1 ⟨rfl, d2, M1, Q1, S1⟩
              have HQ2 := Lib.hid (And.intro (HP.out.step M1 (G1.out.merged G2.out (by omega) (by omega) M1 Q1)) (And.intro (HM3.out.trans (M1.wide (Nat.zero_le _) hlt2)) (HS3.out.trans S1)))
              clear M1 Q1 S1
              go_wp2
              go_roundw
              case rel => exact ⟨A2 + 2 * B, d2, by go_num, by go_num, hlt2, HQ2.out⟩
              case measure => simp [intOf]; omega
            · have hltz2 : ¬ (A2 : Int) + 2 * (B : Int) ≤ (n : Int) := by omega
              by_cases hlt3 : A2 + B < n
              · have hltz3 : (A2 : Int) + (B : Int) < (n : Int) := by omega
                have g1 := HP.out.left (by omega)
                have g2 := HP.out.right (by omega)
                rw [show min (A2 + B) n = A2 + B by omega] at g1
                rw [show min (A2 + 2 * B) n = n by omega] at g2
                have G1 := Lib.hid g1
                have G2 := Lib.hid g2
                clear g1 g2
                go_wp2_with fail
                refine (sym_at L b n cap HNB.out hn A2 (A2 + B) n _ _ _ c3 _ rfl (by omega) rfl HS3.out.row HS3.out.deb (by omega) (by omega) (Nat.le_refl _) G1.out G2.out).mono ?_
                rintro ee w1 ⟨rfl, d2, M1, Q1, S1⟩
                have HQ2 := Lib.hid (And.intro (HP.out.blocks hA2 (by omega) M1 fun _ => G1.out.merged G2.out (by omega) (by omega) M1 Q1) (And.intro (HM3.out.trans (M1.wide (Nat.zero_le _) (Nat.le_refl _))) (HS3.out.trans S1)))
                clear M1 Q1 S1
                go_wp2
                go_roundw
                case rel => exact ⟨B * 2, d2, by go_num, by omega, by omega, by rw [Nat.mul_comm]; exact HQ2.out.1, HQ2.out.2⟩
                case measure => simp [intOf]; omega
              · have hltz3 : ¬ (A2 : Int) + (B : Int) < (n : Int) := by omega
                have HQ2 := Lib.hid (And.intro (HP.out.blocks hA2 (by omega) (Mv.refl _ _ _) fun hh => by have := HP.out.left hh; rwa [show min (A2 + B) n = n by omega] at this) (And.intro HM3.out HS3.out))
                go_wp2
                go_roundw
                case rel => exact ⟨B * 2, c3, by go_num, by omega, by omega, by rw [Nat.mul_comm]; exact HQ2.out.1, HQ2.out.2⟩
                case measure => simp [intOf]; omega
        · have hBz : ¬ (B : Int) < (n : Int) := by omega
          have HQ3 := Lib.hid (And.intro HM2.out (And.intro (HBL.out.whole (by omega)) HS2.out))
          go_wp2
          go_end0
          exact ⟨rfl, c2, HQ3.out⟩

/-- Behind the sort: by least bytes. -/
def ByLeast (f : Nat → BitVec 256) (b n : Nat) (w : World) (x : Ending) (w' : World) : Prop :=
  x = .returned (.tuple #[]) ∧ ∃ f', (List.range n).map f' = bucket lstB 256 ((List.range n).map f) ∧ SortS w b n f' w'

set_option maxHeartbeats 1000000 in
theorem sortstable_any (L : Nat → BitVec 256) (b n cap : Nat) (w : World) (h : CRow w b n L) (hd : Deb w) (hnb : 2 ≠ b) (hn : n < 1152921504606846976) :
    Calls Tryd.prog 62 #[.slice (some ⟨b, 0, none⟩) n cap, .func (.func 63) #[] #[]] w (ByLeast L b n w) := by
  have H := Lib.hid (stable_any L b n cap w h hd hnb hn)
  clear h hd hnb
  go_enter Tryd.func62, Tryd.ntmps62
  go_wp2_with fail
  refine H.out.mono ?_
  rintro ee w1 ⟨rfl, d1, M1, Q1, S1⟩
  have HQ := Lib.hid (And.intro (sorted_list L lstB n 256 (fun i _ => lstB_lt _) d1 Q1 M1) S1)
  clear M1 Q1 S1
  go_wp2
  go_end0
  exact ⟨rfl, _, HQ.out⟩

set_option maxHeartbeats 1000000 in
theorem sortby_any (L : Nat → BitVec 256) (b n cap : Nat) (w : World) (h : CRow w b n L) (hd : Deb w) (hnb : 2 ≠ b) (hn : n < 1152921504606846976) :
    Calls Tryd.prog 41 #[.slice (some ⟨b, 0, none⟩) n cap] w (ByLeast L b n w) := by
  have H := Lib.hid (sortstable_any L b n cap w h hd hnb hn)
  clear h hd hnb
  go_enter Tryd.func41, Tryd.ntmps41
  go_wp2_with fail
  refine H.out.mono ?_
  rintro ee w1 ⟨rfl, HQ⟩
  go_wp2
  go_end0
  exact ⟨rfl, HQ⟩

/-! A row without a class. -/
set_option maxHeartbeats 1000000 in
theorem insertion_none (v : Option Addr) (n cap : Nat) (g : Value) (w : World) :
    Calls Tryd.prog 94 #[.slice v n cap, .int .i64 0, .int .i64 0, g] w (Pure w (.tuple #[])) := by
  go_enter Tryd.func94, Tryd.ntmps94
  go_wp2
  refine wp_loop_rounds 1 ?_
  rw [rounds_succ]
  go_wp2
  go_end0
  exact ⟨rfl, rfl⟩
set_option maxHeartbeats 1000000 in
theorem stable_none (v : Option Addr) (n cap : Nat) (g : Value) (w : World) :
    Calls Tryd.prog 82 #[.slice v n cap, .int .i64 0, g] w (Pure w (.tuple #[])) := by
  go_enter Tryd.func82, Tryd.ntmps82
  go_wp2
  refine wp_loop_rounds 1 ?_
  rw [rounds_succ]
  go_wp2_with fail
  refine (insertion_none v n cap g _).mono ?_
  rintro ee w1 ⟨rfl, rfl⟩
  go_wp2
  refine wp_loop_rounds 1 ?_
  rw [rounds_succ]
  go_wp2
  go_end0
  exact ⟨rfl, rfl⟩
set_option maxHeartbeats 1000000 in
theorem sortby_none (w : World) : Calls Tryd.prog 41 #[.slice none 0 0] w (Pure w (.tuple #[])) := by
  have h : Calls Tryd.prog 62 #[.slice none 0 0, .func (.func 63) #[] #[]] w (Pure w (.tuple #[])) := by
    go_enter Tryd.func62, Tryd.ntmps62
    go_wp2_with fail
    refine (stable_none none 0 0 _ _).mono ?_
    rintro ee w1 ⟨rfl, rfl⟩
    go_wp2
    go_end0
    exact ⟨rfl, rfl⟩
  go_enter Tryd.func41, Tryd.ntmps41
  go_wp2_with fail
  refine h.mono ?_
  rintro ee w1 ⟨rfl, rfl⟩
  go_wp2
  go_end0
  exact ⟨rfl, rfl⟩
end Go.Proofs.YtgehepiphdphjaaDoor
