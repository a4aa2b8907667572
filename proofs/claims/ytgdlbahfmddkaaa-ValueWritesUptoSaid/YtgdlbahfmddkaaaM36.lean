/- What all kids write, gathered: the program's walk. -/
import Derived.Test.YtgdlbahfmddkaaaM34
namespace Go.Proofs.Ytgdlbahfmddkaaa
open Go Go.RowKit
set_option linter.unusedVariables false
set_option linter.unusedSimpArgs false
set_option maxRecDepth 100000

def GaL (H : Nat) (w : World) (W0 : Wd) (m : Nat) (rs : List (Option Wd)) (s : Vs) (x0 x13 : Value) (wr : World) : Prop :=
  ∃ (k : Nat) (W : Wd), k ≤ s.len ∧ x13 = .int .i64 (k : Int) ∧ Own8 wr H x0 (nats (W0 ++ W)) ∧ Acc m rs k W ∧ W.length ≤ 2002 * cntTo s k ∧ Kp H w wr
set_option maxHeartbeats 16000000 in
theorem gather_any {w0 : World} {A : Option Addr} {l : List Nd} {c a : Nat} {n : Nd} {v : Vl} {B : Option Addr} {cv m b3 b4 b5 b6 b7 : Nat} (hm : m ≤ 1) (hal : a ≤ l.length) (htx : ∀ n ∈ l, n.text.length ≤ 2000) (hP : ∀ q, q < a → PartC w0 A l c q)
    (hkid : ∀ k, k < v.kids.len → ∃ q : Nat, kidN n v.pick k = (q : Int) ∧ q < a) (hkr : VRow w0 B 0 v.kids) (W0 : Wd) (ow : Value) (hbd : W0.length + 2002 * cntVs v.kids ≤ 536870912)
    (w : World) (hw : Below w0.heap.size w0 w) (ho : Own8 w w0.heap.size ow (nats W0)) (h : CpS A l c a n v B cv m b3 b4 b5 b6 b7 w) :
    Calls Try.prog 42 #[ow, .slice B v.kids.len cv, fKd b3 b4 b5 b6 b7] w (GotP w0.heap.size W0 w (gthW m (wrS l (fun j => (kidN n v.pick j).toNat) v.kids))) := by
  have hsl : v.kids.len < 4611686018427387904 := by have := cntVs_len v.kids; omega
  have HRS : Hid (∀ k, k < v.kids.len → (wrS l (fun j => (kidN n v.pick j).toNat) v.kids)[k]? = some (wrV l (kidN n v.pick k).toNat (v.kids.at k))) := fun k hk => wrS_get l _ v.kids k hk
  have HRL : Hid ((wrS l (fun j => (kidN n v.pick j).toNat) v.kids).length = v.kids.len) := wrS_length l _ v.kids
  generalize wrS l (fun j => (kidN n v.pick j).toNat) v.kids = rs at *
  have HKC : Hid (∀ (k : Nat) (W : Wd) (x0 : Value) (Y : Option Addr) (cy : Nat) (w' : World), k < v.kids.len → (v.kids.at k).kids.len ≤ cy → VRow w0 Y 0 (v.kids.at k).kids → W.length ≤ 2002 * cntTo v.kids k → Kp w0.heap.size w w' → Own8 w' w0.heap.size x0 (nats (W0 ++ W)) →
      Calls Try.prog 43 #[x0, .int .i64 (k : Int), .agg (vlC (v.kids.at k) Y cy), .pointer (some ⟨b3, 0, none⟩), .pointer (some ⟨b4, 0, none⟩), .pointer (some ⟨b5, 0, none⟩), .pointer (some ⟨b6, 0, none⟩), .pointer (some ⟨b7, 0, none⟩)] w' (GosP w0.heap.size (W0 ++ W) w' (fitW m (wrV l (kidN n v.pick k).toNat (v.kids.at k))))) := fun k W x0 Y cy w' hk hcy hY hW hkp ho' => by
    obtain ⟨q, hq, hqa⟩ := hkid k hk
    have hqt : (kidN n v.pick k).toNat = q := by rw [hq]; rfl
    rw [hqt]
    have h1 := cntTo_succ hk
    have h2 : cntTo v.kids (k + 1) ≤ cntVs v.kids := cntTo_le v.kids (k + 1)
    refine kidclo_any hm k q (by omega) hq hqa hal (hP q hqa) (v.kids.at k) Y cy hcy hY (W0 ++ W) x0 ?_ (fun V hV => wrV_len htx _ _ _ hV) w' (hw.trans hkp.bel) ho' (h.kept hkp)
    rw [List.length_append]
    omega
  have HLW : Hid (∀ k V, k < v.kids.len → fitW m (wrV l (kidN n v.pick k).toNat (v.kids.at k)) = some V → V.length ≤ 2002 * cntV (v.kids.at k)) := fun k V hk hV => wrV_len htx _ _ _ (fit_some hV)
  have HCT : Hid (∀ k, k < v.kids.len → cntTo v.kids (k + 1) = cntTo v.kids k + cntV (v.kids.at k)) := fun k hk => cntTo_succ hk
  have HS0 : Hid (GaL w0.heap.size w W0 m rs v.kids ow (.int .i64 ((0 : Nat) : Int)) w) := ⟨0, [], Nat.zero_le _, rfl, by rw [List.append_nil]; exact ho, Acc.zero _ _, by simp, Kp.refl _ _⟩
  have HKR := Lib.hid hkr
  have HW0 := Lib.hid hw
  have hent := enters_of Try.func43 (by kernel_rfl) rfl
  obtain ⟨oA, oc, hov, hoc⟩ := own8_form ho
  clear hP hkid hkr hw ho h htx hbd
  generalize v.kids = ks at *
  subst hov
  unfold fKd
  go_enter Try.func42, Try.ntmps42
  go_wp2
  go_loopw [0, 13] (GaL w0.heap.size w W0 m rs ks) (fun _ x _ => ks.len - (intOf x).toNat)
  case atStart => exact HS0.out
  case round =>
    obtain ⟨k, W, hk, rfl, hown, hacc, hwl, hkp⟩ := hrel
    have HO := Lib.hid hown
    have HA := Lib.hid hacc
    have HKP := Lib.hid hkp
    obtain ⟨rA, rc, hrv, hrc⟩ := own8_form hown
    subst hrv
    clear hown hacc hkp HS0 hoc hrc
    by_cases hlt : k < ks.len
    · have hltz : (k : Int) < (ks.len : Int) := by omega
      have hrow := HKR.out.later (HW0.out.trans HKP.out.bel)
      obtain ⟨g, o, rfl, hg, hat⟩ := VRow.at_ hrow hlt
      have HC := Lib.hid (fun Y cy w' h1 h2 h3 h4 => HKC.out k W (.slice rA (W0 ++ W).length rc) Y cy w' hlt h1 h2 hwl h3 h4)
      have HLV := Lib.hid (fun V hV => HLW.out k V hlt hV)
      have HR := Lib.hid (HRS.out k hlt)
      have hct := HCT.out k hlt
      obtain ⟨g0, o0, hg0, -, hat0⟩ := VRow.at_ HKR.out hlt
      cases hg0
      obtain ⟨Y, cy, q0, hcell0, q6⟩ := hat0
      have hb0 : g < w0.heap.size := by
        obtain ⟨g1, o1, hg1, hl1, -⟩ := VRow.at_ HKR.out hlt
        cases hg1; exact hl1
      have hcell : ∀ j, j < 5 → wr.cell? ⟨g, o + (0 + k) * 5 + j, none⟩ = (vlC (ks.at k) Y cy)[j]? := fun j hj => ((HW0.out.trans HKP.out.bel).cell (p := ⟨g, o + (0 + k) * 5 + j, none⟩) hb0).trans (hcell0 j hj)
      have HC := Lib.hid (fun w' h3 h4 => HC.out Y cy w' q0 q6 h3 h4)
      clear hat hrow hcell0 q6 hg hb0 HRS HLW HKC HCT
      generalize wrV l (kidN n v.pick k).toNat (ks.at k) = r at *
      generalize hctk : cntTo ks k = ct at *
      generalize hctk1 : cntTo ks (k + 1) = ct1 at *
      generalize ks.at k = y at *
      have HCT := Lib.hid hct
      generalize cntV y = cy1 at *
      have HCT1 := Lib.hid hctk1
      clear hct hctk hctk1
      have HWL := Lib.hid hwl
      clear hwl
      obtain ⟨yk, yb, yt, yp, ys⟩ := y
      rw [vlC_five] at *
      rw [Nat.zero_add] at hcell
      have q1 := hcell 0 (by decide)
      have q2 := hcell 1 (by decide)
      have q3 := hcell 2 (by decide)
      have q4 := hcell 3 (by decide)
      have q5 := hcell 4 (by decide)
      simp at q1 q2 q3 q4 q5
      clear hcell
      simp only at q0
      have HLE : Hid ((W0 ++ W).length = (W0 ++ W).length) := rfl
      generalize hnn : (W0 ++ W).length = nn at *
      have HNN := Lib.hid hnn
      clear hnn HLE
      have HAL : Hid (Kp w0.heap.size wr (wr.alloc (.cells #[.int .i64 yk, .int .u8 ((yb.toNat : Nat) : Int), .string (bs yt), .int .i64 yp, .slice Y ys.len cy] 27))) := Kp.of ((Below.refl _ _).alloc (Nat.le_refl _) _) (Nat.le_trans HW0.out.size HKP.out.size)
      have HCW := Lib.hid (HC.out _ (HKP.out.trans HAL.out) (HO.out.later ((Below.refl _ _).alloc (Nat.le_refl _) _)))
      clear HC
      go_wp2_with fail
      refine HCW.out.mono ?_; rintro e w2 ⟨x2, rfl, hx2, hk2⟩
      have HK2 := Lib.hid (HKP.out.trans (HAL.out.trans hk2))
      clear hk2 HCW HAL q1 q2 q3 q4 q5
      cases hfit : fitW m r with
      | none =>
        rw [hfit] at hx2
        obtain ⟨v2, rfl⟩ := hx2
        have HE : Hid (gthW m rs = none) := HA.out.none HR.out hfit
        clear hfit
        go_wp2
        go_ret2
        exact ⟨_, rfl, by rw [HE.out]; rfl, HK2.out⟩
      | some V =>
        rw [hfit] at hx2
        obtain ⟨v2, rfl, ho2⟩ := hx2
        have HN : Hid (GaL w0.heap.size w W0 m rs ks v2 (.int .i64 ((k + 1 : Nat) : Int)) w2) := ⟨k + 1, W ++ V, by omega, rfl, by rw [← List.append_assoc]; exact ho2, HA.out.next HR.out hfit, by
          have := HLV.out V hfit
          rw [List.length_append, HCT1.out]
          have := HWL.out
          have := HCT.out
          omega, HK2.out⟩
        clear hfit ho2
        go_wp2
        go_roundw
        case rel => exact HN.out
        case measure => simp [intOf]; omega
    · obtain rfl : k = ks.len := by omega
      have hlast : ¬ ((ks.len : Nat) : Int) < (ks.len : Int) := by omega
      have HE : Hid (GotV w0.heap.size W0 (gthW m rs) (.tuple #[.slice rA (W0 ++ W).length rc, .bool true]) wr) := by
        unfold Hid
        rw [HA.out.end (by rw [HRL.out]; exact Nat.le_refl _)]
        exact ⟨_, rfl, HO.out⟩
      generalize (W0 ++ W).length = nn at *
      go_wp2
      go_ret2
      exact ⟨_, rfl, HE.out, HKP.out⟩
end Go.Proofs.Ytgdlbahfmddkaaa
/- What the Kids of a value of a node write: the program's walk. -/
namespace Go.Proofs.Ytgdlbahfmddkaaa
open Go Go.RowKit
set_option linter.unusedVariables false
set_option linter.unusedSimpArgs false
set_option maxRecDepth 100000

def KidsC (w0 : World) (A : Option Addr) (l : List Nd) (c : Nat) (a : Nat) (v : Vl) : Prop := ∀ (B : Option Addr) (cv : Nat) (W : Wd) (ow : Value) (w : World), v.kids.len ≤ cv → VRow w0 B 0 v.kids → W.length + 2002 * cntVs v.kids ≤ 536870912 → Below w0.heap.size w0 w → Own8 w w0.heap.size ow (nats W) →
  Calls Try.prog 36 #[.agg #[.slice A l.length c], ow, .agg (vlC v B cv), .int .i64 (a : Int)] w (GotP w0.heap.size W w (gthW (leastK (atN l a)) (wrS l (fun j => (kidN (atN l a) v.pick j).toNat) v.kids)))
set_option maxHeartbeats 16000000 in
theorem kids_any {w0 : World} {A : Option Addr} {l : List Nd} {c a : Nat} (hc : l.length ≤ c) (hal : a < l.length) (hlen : l.length ≤ 536870912) (htx : ∀ n ∈ l, n.text.length ≤ 2000) (hP : ∀ q, q < a → PartC w0 A l c q) (hrow : NRow w0 A l) (v : Vl)
    (hkid : ∀ k, k < v.kids.len → ∃ q : Nat, kidN (atN l a) v.pick k = (q : Int) ∧ q < a) : KidsC w0 A l c a v := by
  intro B cv W0 ow w hcv hkr hbd hw ho
  have HG : Hid (∀ (w' : World) (m : Nat), m ≤ 1 → ∀ b3 b4 b5 b6 b7, CpS A l c a (atN l a) v B cv m b3 b4 b5 b6 b7 w' → Kp w0.heap.size w w' → Below w.heap.size w w' → Calls Try.prog 42 #[ow, .slice B v.kids.len cv, fKd b3 b4 b5 b6 b7] w' (GotP w0.heap.size W0 w' (gthW m (wrS l (fun j => (kidN (atN l a) v.pick j).toNat) v.kids)))) :=
    fun w' m hm b3 b4 b5 b6 b7 h hk hb => gather_any hm (by omega) htx hP hkid hkr W0 ow hbd w' (hw.trans hk.bel) (ho.later hb) h
  have HW0 := Lib.hid hw
  obtain ⟨ba, oa, rfl, hbl, -⟩ := hrow a hal
  have hiz : (a : Int) < (l.length : Int) := by omega
  have hrw := hrow.later hw
  obtain ⟨oA, oc, hov, hoc⟩ := own8_form ho
  subst hov
  have hn2 : l.getD a nd0 = atN l a := rfl
  have HLK : Hid (leastK (atN l a) = if (atN l a).kind = 6 ∨ (atN l a).kind = 7 then 1 else 0) := rfl
  generalize wrS l (fun j => (kidN (atN l a) v.pick j).toNat) v.kids = rs at *
  generalize leastK (atN l a) = mm at *
  generalize atN l a = n at *
  have HRW : Hid (∀ w', Below w.heap.size w w' → At10 w' ba (oa + a * 10) n) := fun w' h => by
    have := (hrw.later h).at hal rfl
    rw [hn2] at this
    exact this
  have HB1X : Hid (Below w.heap.size w (((w.alloc (.cells #[.slice (some ⟨ba, oa, none⟩) l.length c] 55)).alloc (.cells (vlC v B cv) 27)).alloc (.cells #[.int .i64 (a : Int)] 3))) :=
    (((Below.refl _ _).alloc (Nat.le_refl _) _).alloc (by simp) _).alloc (by simp; omega) _
  have HB1W : Hid (Blk (((w.alloc (.cells #[.slice (some ⟨ba, oa, none⟩) l.length c] 55)).alloc (.cells (vlC v B cv) 27)).alloc (.cells #[.int .i64 (a : Int)] 3)) w.heap.size #[.slice (some ⟨ba, oa, none⟩) l.length c] 55) := ((Blk.new _ _ _).alloc _).alloc _
  have HB1V : Hid (Blk (((w.alloc (.cells #[.slice (some ⟨ba, oa, none⟩) l.length c] 55)).alloc (.cells (vlC v B cv) 27)).alloc (.cells #[.int .i64 (a : Int)] 3)) (w.heap.size + 1) (vlC v B cv) 27) := (Blk.new' (by simp) _ _).alloc _
  have HB1I : Hid (Blk (((w.alloc (.cells #[.slice (some ⟨ba, oa, none⟩) l.length c] 55)).alloc (.cells (vlC v B cv) 27)).alloc (.cells #[.int .i64 (a : Int)] 3)) (w.heap.size + 2) #[.int .i64 (a : Int)] 3) := Blk.new' (by simp) _ _
  have HSZ : Hid ((((w.alloc (.cells #[.slice (some ⟨ba, oa, none⟩) l.length c] 55)).alloc (.cells (vlC v B cv) 27)).alloc (.cells #[.int .i64 (a : Int)] 3)).heap.size = w.heap.size + 3) := by unfold Hid; simp
  clear hrow hkr ho hw hP hkid htx hbd hrw hn2 hoc
  obtain ⟨vk, vb, vt, vp, ks⟩ := v
  obtain ⟨nk, na, nb, nlo, nhi, ncls, ntext⟩ := n
  rw [vlC_five] at *
  simp only at *
  unfold fKd at HG
  go_enter Try.func36, Try.ntmps36
  go_upto_region 1 with (fail)
  generalize (((w.alloc (.cells #[.slice (some ⟨ba, oa, none⟩) l.length c] 55)).alloc (.cells #[.int .i64 vk, .int .u8 ((vb.toNat : Nat) : Int), .string (bs vt), .int .i64 vp, .slice B ks.len cv] 27)).alloc (.cells #[.int .i64 (a : Int)] 3)) = w1 at *
  have HB1 := Lib.hid HB1X.out
  have hsz1 := HSZ.out
  obtain ⟨g0, g1, g2, g3, g4, g5, g6, g7, g8, g9⟩ := HRW.out _ HB1X.out
  simp only at g0 g1 g2 g3 g4 g5 g6 g7 g8 g9
  have e0 := HB1W.out.cell 0
  have e1 := HB1I.out.cell 0
  obtain ⟨b0, b1, b2, b3, b4⟩ := vl_cells HB1V.out
  simp at e0 e1
  by_cases h6 : nk = 6
  · have z6 : (nk == 6) = true := by simp [h6]
    have z7 : (nk == 7) = false := by rw [beq_eq_false_iff_ne]; omega
    have e : mm = 1 := by rw [HLK.out, if_pos (.inl h6)]
    clear HLK h6
    subst e
    go_upto_region 5 with (fail)
    have HKW : Hid (Kp w0.heap.size w (((w1.alloc (.cells #[.int .i64 nk, .int .i64 na, .int .i64 nb, .int .i64 nlo, .int .i64 nhi, .int .u64 (wd ncls 0), .int .u64 (wd ncls 1), .int .u64 (wd ncls 2), .int .u64 (wd ncls 3), .string (bs ntext)] 44)).alloc (.cells #[.int .i64 1] 3)))) :=
      Kp.of (((HB1.out.alloc (by have := HB1.out.size; omega) _).alloc (by simp; have := HB1.out.size; omega) _)) HW0.out.size
    have HBW : Hid (Below w.heap.size w (((w1.alloc (.cells #[.int .i64 nk, .int .i64 na, .int .i64 nb, .int .i64 nlo, .int .i64 nhi, .int .u64 (wd ncls 0), .int .u64 (wd ncls 1), .int .u64 (wd ncls 2), .int .u64 (wd ncls 3), .string (bs ntext)] 44)).alloc (.cells #[.int .i64 1] 3)))) :=
      ((HB1.out.alloc (by have := HB1.out.size; omega) _).alloc (by simp; have := HB1.out.size; omega) _)
    have HCP : Hid (CpS (some ⟨ba, oa, none⟩) l c a ⟨nk, na, nb, nlo, nhi, ncls, ntext⟩ ⟨vk, vb, vt, vp, ks⟩ B cv 1 w.heap.size (w.heap.size + 2) (w.heap.size + 3) (w.heap.size + 1) (w.heap.size + 4) (((w1.alloc (.cells #[.int .i64 nk, .int .i64 na, .int .i64 nb, .int .i64 nlo, .int .i64 nhi, .int .u64 (wd ncls 0), .int .u64 (wd ncls 1), .int .u64 (wd ncls 2), .int .u64 (wd ncls 3), .string (bs ntext)] 44)).alloc (.cells #[.int .i64 1] 3)))) :=
      ⟨(HB1W.out.alloc _).alloc _, (HB1I.out.alloc _).alloc _, (Blk.new' HSZ.out.symm _ _).alloc _, (HB1V.out.alloc _).alloc _, Blk.new' (by simp; have := HSZ.out; omega) _ _⟩
    go_wp2_with fail
    refine (HG.out _ 1 (by decide) _ _ _ _ _ HCP.out HKW.out HBW.out).mono ?_; rintro e w5 ⟨x5, rfl, hx5, hk5⟩
    have HK5 := Lib.hid (HKW.out.trans hk5)
    clear hk5 HG HKW HCP HBW
    generalize gthW 1 rs = r at *
    cases r with
    | none =>
      have hx5 : x5 = .tuple #[.slice none 0 0, .bool false] := hx5
      subst hx5
      go_wp2
      go_ret2
      exact ⟨_, rfl, rfl, HK5.out⟩
    | some V =>
      obtain ⟨v5, rfl, ho5⟩ := hx5
      have HO5 := Lib.hid ho5
      clear ho5
      go_wp2
      go_ret2
      exact ⟨_, rfl, ⟨_, rfl, HO5.out⟩, HK5.out⟩
  · by_cases h7 : nk = 7
    · have z6 : (nk == 6) = false := by rw [beq_eq_false_iff_ne]; omega
      have z7 : (nk == 7) = true := by simp [h7]
      have e : mm = 1 := by rw [HLK.out, if_pos (.inr h7)]
      clear HLK h6 h7
      subst e
      go_upto_region 5 with (fail)
      have HKW : Hid (Kp w0.heap.size w (((w1.alloc (.cells #[.int .i64 nk, .int .i64 na, .int .i64 nb, .int .i64 nlo, .int .i64 nhi, .int .u64 (wd ncls 0), .int .u64 (wd ncls 1), .int .u64 (wd ncls 2), .int .u64 (wd ncls 3), .string (bs ntext)] 44)).alloc (.cells #[.int .i64 1] 3)))) :=
        Kp.of (((HB1.out.alloc (by have := HB1.out.size; omega) _).alloc (by simp; have := HB1.out.size; omega) _)) HW0.out.size
      have HBW : Hid (Below w.heap.size w (((w1.alloc (.cells #[.int .i64 nk, .int .i64 na, .int .i64 nb, .int .i64 nlo, .int .i64 nhi, .int .u64 (wd ncls 0), .int .u64 (wd ncls 1), .int .u64 (wd ncls 2), .int .u64 (wd ncls 3), .string (bs ntext)] 44)).alloc (.cells #[.int .i64 1] 3)))) :=
        ((HB1.out.alloc (by have := HB1.out.size; omega) _).alloc (by simp; have := HB1.out.size; omega) _)
      have HCP : Hid (CpS (some ⟨ba, oa, none⟩) l c a ⟨nk, na, nb, nlo, nhi, ncls, ntext⟩ ⟨vk, vb, vt, vp, ks⟩ B cv 1 w.heap.size (w.heap.size + 2) (w.heap.size + 3) (w.heap.size + 1) (w.heap.size + 4) (((w1.alloc (.cells #[.int .i64 nk, .int .i64 na, .int .i64 nb, .int .i64 nlo, .int .i64 nhi, .int .u64 (wd ncls 0), .int .u64 (wd ncls 1), .int .u64 (wd ncls 2), .int .u64 (wd ncls 3), .string (bs ntext)] 44)).alloc (.cells #[.int .i64 1] 3)))) :=
        ⟨(HB1W.out.alloc _).alloc _, (HB1I.out.alloc _).alloc _, (Blk.new' HSZ.out.symm _ _).alloc _, (HB1V.out.alloc _).alloc _, Blk.new' (by simp; have := HSZ.out; omega) _ _⟩
      go_wp2_with fail
      refine (HG.out _ 1 (by decide) _ _ _ _ _ HCP.out HKW.out HBW.out).mono ?_; rintro e w5 ⟨x5, rfl, hx5, hk5⟩
      have HK5 := Lib.hid (HKW.out.trans hk5)
      clear hk5 HG HKW HCP HBW
      generalize gthW 1 rs = r at *
      cases r with
      | none =>
        have hx5 : x5 = .tuple #[.slice none 0 0, .bool false] := hx5
        subst hx5
        go_wp2
        go_ret2
        exact ⟨_, rfl, rfl, HK5.out⟩
      | some V =>
        obtain ⟨v5, rfl, ho5⟩ := hx5
        have HO5 := Lib.hid ho5
        clear ho5
        go_wp2
        go_ret2
        exact ⟨_, rfl, ⟨_, rfl, HO5.out⟩, HK5.out⟩
    · have z6 : (nk == 6) = false := by rw [beq_eq_false_iff_ne]; exact h6
      have z7 : (nk == 7) = false := by rw [beq_eq_false_iff_ne]; exact h7
      have e : mm = 0 := by rw [HLK.out, if_neg (by omega)]
      clear HLK h6 h7
      subst e
      go_upto_region 5 with (fail)
      have HKW : Hid (Kp w0.heap.size w (((w1.alloc (.cells #[.int .i64 nk, .int .i64 na, .int .i64 nb, .int .i64 nlo, .int .i64 nhi, .int .u64 (wd ncls 0), .int .u64 (wd ncls 1), .int .u64 (wd ncls 2), .int .u64 (wd ncls 3), .string (bs ntext)] 44)).alloc (.cells #[.int .i64 0] 3)))) :=
        Kp.of (((HB1.out.alloc (by have := HB1.out.size; omega) _).alloc (by simp; have := HB1.out.size; omega) _)) HW0.out.size
      have HBW : Hid (Below w.heap.size w (((w1.alloc (.cells #[.int .i64 nk, .int .i64 na, .int .i64 nb, .int .i64 nlo, .int .i64 nhi, .int .u64 (wd ncls 0), .int .u64 (wd ncls 1), .int .u64 (wd ncls 2), .int .u64 (wd ncls 3), .string (bs ntext)] 44)).alloc (.cells #[.int .i64 0] 3)))) :=
        ((HB1.out.alloc (by have := HB1.out.size; omega) _).alloc (by simp; have := HB1.out.size; omega) _)
      have HCP : Hid (CpS (some ⟨ba, oa, none⟩) l c a ⟨nk, na, nb, nlo, nhi, ncls, ntext⟩ ⟨vk, vb, vt, vp, ks⟩ B cv 0 w.heap.size (w.heap.size + 2) (w.heap.size + 3) (w.heap.size + 1) (w.heap.size + 4) (((w1.alloc (.cells #[.int .i64 nk, .int .i64 na, .int .i64 nb, .int .i64 nlo, .int .i64 nhi, .int .u64 (wd ncls 0), .int .u64 (wd ncls 1), .int .u64 (wd ncls 2), .int .u64 (wd ncls 3), .string (bs ntext)] 44)).alloc (.cells #[.int .i64 0] 3)))) :=
        ⟨(HB1W.out.alloc _).alloc _, (HB1I.out.alloc _).alloc _, (Blk.new' HSZ.out.symm _ _).alloc _, (HB1V.out.alloc _).alloc _, Blk.new' (by simp; have := HSZ.out; omega) _ _⟩
      go_wp2_with fail
      refine (HG.out _ 0 (by decide) _ _ _ _ _ HCP.out HKW.out HBW.out).mono ?_; rintro e w5 ⟨x5, rfl, hx5, hk5⟩
      have HK5 := Lib.hid (HKW.out.trans hk5)
      clear hk5 HG HKW HCP HBW
      generalize gthW 0 rs = r at *
      cases r with
      | none =>
        have hx5 : x5 = .tuple #[.slice none 0 0, .bool false] := hx5
        subst hx5
        go_wp2
        go_ret2
        exact ⟨_, rfl, rfl, HK5.out⟩
      | some V =>
        obtain ⟨v5, rfl, ho5⟩ := hx5
        have HO5 := Lib.hid ho5
        clear ho5
        go_wp2
        go_ret2
        exact ⟨_, rfl, ⟨_, rfl, HO5.out⟩, HK5.out⟩
end Go.Proofs.Ytgdlbahfmddkaaa
/- What a framed value writes: the program's walk. -/
namespace Go.Proofs.Ytgdlbahfmddkaaa
open Go Go.RowKit
set_option linter.unusedVariables false
set_option linter.unusedSimpArgs false
set_option maxRecDepth 100000

/-- What a region does that puts zeros behind what it owns. -/
structure FrR (H : Nat) (L : Wd) (w w' : World) : Prop where
  out : H ≤ w.heap.size → (Kp H w w' ∧ ∀ u U, U <+: L → Own8 w H u (nats U) → Own8 w' H u (nats U))
theorem FrR.of {H : Nat} {L : Wd} (w w' : World) (hb : Below w.heap.size w w') : FrR H L w w' := ⟨fun h => ⟨Kp.of hb h, fun u U _ k => k.later hb⟩⟩
structure FrS (H : Nat) (w1 : World) (W : Wd) (ow : Value) (A : Option Addr) (l : List Nd) (c : Nat) (v : Vl) (B : Option Addr) (cv bw bv : Nat) (w : World) : Prop where
  lo : H ≤ w.heap.size
  kp : Kp H w1 w
  own : Own8 w H ow (nats W)
  box : Blk w bw #[.slice A l.length c] 55
  bv : Blk w bv (vlC v B cv) 27
theorem FrS.grow {H : Nat} {w1 : World} {W L : Wd} {ow : Value} {A : Option Addr} {l : List Nd} {c : Nat} {v : Vl} {B : Option Addr} {cv bw bv : Nat} {w w' : World} (hL : W <+: L) (h : FrS H w1 W ow A l c v B cv bw bv w) (hr : FrR H L w w') : FrS H w1 W ow A l c v B cv bw bv w' := by
  obtain ⟨k, kp⟩ := hr.out h.lo
  exact ⟨Nat.le_trans h.lo k.size, h.kp.trans k, kp _ _ hL h.own, k.typ _ _ _ (by decide) h.box, k.typ _ _ _ (by decide) h.bv⟩
def VwZ (H : Nat) (L : Wd) (v : Value) (w : World) : Prop := H ≤ w.heap.size ∧ Own8 w H v (nats L)
theorem VwZ.grow (H : Nat) (L : Wd) : ∀ v w w', VwZ H L v w → FrR H L w w' → VwZ H L v w' := fun v w w' h hr => by
  obtain ⟨k, kp⟩ := hr.out h.1
  exact ⟨Nat.le_trans h.1 k.size, kp _ _ (List.prefix_refl L) h.2⟩
set_option maxRecDepth 100000 in
theorem wp_append_zeros {w : World} {o : Oper} {a : Act} {K : Act → World → Prop} {Q : Exit → Act → World → Prop} (s x : Operand)
    (ho : o.op = .call { callee := .builtin .append, args := #[s, x], argTypes := #[31, 3] })
    (H : Nat) (v : Value) (W : Wd) (hs : a.eval s = v) (hown : Own8 w H v (nats W)) (k : Nat) (hx : a.eval x = .int .i64 (k : Int)) (h0 : 0 < k) (hk : k ≤ 1000) (hlen : W.length + k ≤ 1073741824) (hH : H ≤ w.heap.size)
    (h : ∀ v' w', Own8 w' H v' (nats (W ++ List.replicate k 0)) → FrR H (W ++ List.replicate k 0) w w' → K (a.put o.dst v') w') : o.wp Try.prog a w K Q := by
  obtain ⟨v', w', hr, h2, h3, h4⟩ := run_append_zeros w H v W hown k h0 hk hlen hH o.type
  unfold Oper.wp execOp
  simp only [ho, resolve, invoke, builtin, Sem.run_bind, Sem.run_pure, Result.andThen_ok, List.map_toArray, List.map_cons, List.map_nil, hs, hx, hr]
  exact h v' w' h2 ⟨fun _ => ⟨Kp.grown hown h3 hH, h4⟩⟩
/-- The word that is framed by so many bytes. -/
def frmH (h : Nat) : Option Wd → Option Wd
  | none => none
  | some x => if h = 1 then (if x.length ≤ 255 then some (byU x.length :: x) else none) else (if x.length ≤ 65535 then some (byU (x.length / 256) :: byU (x.length % 256) :: x) else none)
def hdK (h n k : Nat) : Wd := if h = 1 then (if k = 0 then [0] else [byU n]) else if k = 0 then [0, 0] else if k = 1 then [0, byU (n % 256)] else [byU (n / 256), byU (n % 256)]
def FrL (H : Nat) (w1 : World) (W V : Wd) (h g cap : Nat) (x : Value) (wr : World) : Prop :=
  ∃ k : Nat, k ≤ h ∧ x = .int .i64 (k : Int) ∧ Own8 wr H (.slice (some ⟨g, 0, none⟩) (W.length + h + V.length) cap) (nats (W ++ hdK h V.length k ++ V)) ∧ Kp H w1 wr
def FramedC (w0 : World) (A : Option Addr) (l : List Nd) (c : Nat) (a : Nat) (v : Vl) (h : Nat) : Prop := ∀ (B : Option Addr) (cv : Nat) (W : Wd) (ow : Value) (w : World), v.kids.len ≤ cv → VRow w0 B 0 v.kids → W.length + 2002 * cntVs v.kids + 2 ≤ 536870912 → Below w0.heap.size w0 w → Own8 w w0.heap.size ow (nats W) →
  Calls Try.prog 35 #[.agg #[.slice A l.length c], ow, .int .i64 (h : Int), .agg (vlC v B cv), .int .i64 (a : Int)] w (GotP w0.heap.size W w (frmH h (gthW (leastK (atN l a)) (wrS l (fun j => (kidN (atN l a) v.pick j).toNat) v.kids))))
set_option maxHeartbeats 16000000 in
theorem framed_one {w0 : World} {A : Option Addr} {l : List Nd} {c a : Nat} {v : Vl} (hK : KidsC w0 A l c a v) (hlk : ∀ V, gthW (leastK (atN l a)) (wrS l (fun j => (kidN (atN l a) v.pick j).toNat) v.kids) = some V → V.length ≤ 2002 * cntVs v.kids) : FramedC w0 A l c a v 1 := by
  intro B cv W ow w hcv hkr hbd hw ho
  have HK : Hid (∀ (ow' : Value) (w' : World), Below w0.heap.size w0 w' → Own8 w' w0.heap.size ow' (nats (W ++ List.replicate 1 0)) → Calls Try.prog 36 #[.agg #[.slice A l.length c], ow', .agg (vlC v B cv), .int .i64 (a : Int)] w' (GotP w0.heap.size (W ++ List.replicate 1 0) w' (gthW (leastK (atN l a)) (wrS l (fun j => (kidN (atN l a) v.pick j).toNat) v.kids)))) :=
    fun ow' w' h1 h2 => hK B cv (W ++ List.replicate 1 0) ow' w' hcv hkr (by simp; omega) h1 h2
  have HV : Hid (∀ V, gthW (leastK (atN l a)) (wrS l (fun j => (kidN (atN l a) v.pick j).toNat) v.kids) = some V → W.length + V.length ≤ 536870912) := fun V hV => by have := hlk V hV; omega
  generalize gthW (leastK (atN l a)) (wrS l (fun j => (kidN (atN l a) v.pick j).toNat) v.kids) = r at *
  obtain ⟨L, hL⟩ : ∃ L, L = W ++ List.replicate 1 (0 : UInt8) := ⟨_, rfl⟩
  rw [← hL] at HK
  have HLP : Hid (W <+: L) := ⟨_, hL.symm⟩
  have hLl : L.length = W.length + 1 := by rw [hL]; simp
  have HL := Lib.hid hL
  clear hL
  have HW0 := Lib.hid hw
  have hbel := ((Below.refl w.heap.size w).alloc (Nat.le_refl _) (.cells #[.slice A l.length c] 55)).alloc (by simp) (.cells (vlC v B cv) 27)
  have HS0 : Hid (FrS w0.heap.size w W ow A l c v B cv w.heap.size (w.heap.size + 1) ((w.alloc (.cells #[.slice A l.length c] 55)).alloc (.cells (vlC v B cv) 27))) :=
    ⟨Nat.le_trans hw.size hbel.size, Kp.of hbel hw.size, ho.later hbel, (Blk.new _ _ _).alloc _, Blk.new' (by simp) _ _⟩
  obtain ⟨oA, oc, hov, hoc⟩ := own8_form ho
  have hWl : W.length ≤ 536870912 := by omega
  clear hK hlk hkr ho hw hbel hbd hoc
  subst hov
  obtain ⟨vk, vb, vt, vp, ks⟩ := v
  rw [vlC_five] at *
  simp only at *
  go_enter Try.func35, Try.ntmps35
  go_upto_region 2 with (fail)
  generalize (w.alloc (.cells #[.slice A l.length c] 55)).alloc (.cells #[.int .i64 vk, .int .u8 ((vb.toNat : Nat) : Int), .string (bs vt), .int .i64 vp, .slice B ks.len cv] 27) = w1 at *
  have HR : Hid (∀ w w' : World, Below w.heap.size w w' → FrR w0.heap.size L w w') := fun w w' h => FrR.of w w' h
  refine G.wp_region_stable_mid (R := (FrR w0.heap.size L)) HR.out 6 #[true, true, true, true, true, true, false, false, false, false, false, false] (S := (FrS w0.heap.size w W (.slice oA W.length oc) A l c ⟨vk, vb, vt, vp, ks⟩ B cv w.heap.size (w.heap.size + 1))) (hSt := fun _ _ h hr => h.grow HLP.out hr) (plan := [[(5, none)], [(1, none)], [(2, none)], [(22, some 1), (23, some 2)], [(8, none)], [(4, none)]]) rfl (by kernel_rfl) (by kernel_rfl) (by kernel_rfl) (by kernel_rfl) ?hS ?_
  rotate_left
  iterate 3 first
    | (refine G.chain_skip (by rfl) (by rfl) ?_)
    | (apply G.chain_want (by rfl)
       · intro act wx hS hr
         simp at hr
         obtain ⟨b0, b1, b2, b3, b4⟩ := vl_cells hS.bv
         have e0 := hS.box.cell 0
         simp at e0
         go_simp
         (try go_ints)
         first
           | exact G.Done.same HR.out
      )
  (refine G.chain_rel (VwZ w0.heap.size L) (VwZ.grow _ _) (by rfl) ?_ ?_
   · intro act wx hS hr
     simp at hr
     obtain ⟨b0, b1, b2, b3, b4⟩ := vl_cells hS.bv
     have e0 := hS.box.cell 0
     simp at e0
     obtain ⟨hr1, hr2⟩ := hr
     refine wp_append_zeros (.tmp 22) (.tmp 23) rfl w0.heap.size (.slice oA W.length oc) W (by simp [Act.eval, hr1]) hS.own 1 (by simp [Act.eval, hr2]) (by decide) (by decide) (by omega) hS.lo ?_
     intro v' w' q1 q2
     rw [← HL.out] at q1 q2
     exact G.Done.rel q2 ⟨Nat.le_trans hS.lo (q2.out hS.lo).1.size, q1⟩
     all_goals go_simp
  )
  iterate 2 first
    | (refine G.chain_skip (by rfl) (by rfl) ?_)
    | (apply G.chain_want (by rfl)
       · intro act wx hS hr
         simp at hr
         obtain ⟨b0, b1, b2, b3, b4⟩ := vl_cells hS.bv
         have e0 := hS.box.cell 0
         simp at e0
         go_simp
         (try go_ints)
         first
           | exact G.Done.same HR.out
      )
  show ∀ w', _ → _
  intro wz hz
  simp [Act.put]
  case hS => exact HS0.out
  intro y hy
  have HSZ := Lib.hid hz
  have HY := Lib.hid hy
  clear hz hy HS0
  obtain ⟨yA, yc, hyv, hyc⟩ := own8_form HY.out.2
  subst hyv
  clear hyc
  have HLl := Lib.hid hLl
  rw [hLl] at HY ⊢
  clear hLl
  refine wpAny_ready (rs := [6]) (by kernel_rfl) (by simp) ?_
  refine AllReady.cons rfl (fun K hK => ?_) AllReady.nil
  go_simp
  refine (HK.out _ _ (HW0.out.trans HSZ.out.kp.bel) HY.out.2).mono ?_; rintro e w3 ⟨x3, rfl, hx3, hk3⟩
  refine hK _ _ ?_; clear hK K
  have HK3 := Lib.hid (HSZ.out.kp.trans hk3)
  clear hk3 HK HSZ HY
  cases r with
  | none =>
    have hx3 : x3 = .tuple #[.slice none 0 0, .bool false] := hx3
    subst hx3
    clear HV
    refine wpAny_take (i := 7) (v := ?_) rfl (by kernel_rfl) (by kernel_rfl) (by kernel_rfl) (fun _ _ _ h => h) (Or.inl ⟨by rfl, ?_⟩) ?_
    rotate_left
    · (intro w; go_simp; try with_reducible rfl)
    refine wpAny_take (i := 8) (v := ?_) rfl (by kernel_rfl) (by kernel_rfl) (by kernel_rfl) (fun _ _ _ h => h) (Or.inl ⟨by rfl, ?_⟩) ?_
    rotate_left
    · (intro w; go_simp; try with_reducible rfl)
    refine wpAny_take (i := 9) (v := ?_) rfl (by kernel_rfl) (by kernel_rfl) (by kernel_rfl) (fun _ _ _ h => h) (Or.inl ⟨by rfl, ?_⟩) ?_
    rotate_left
    · (intro w; go_simp; try with_reducible rfl)
    refine wpAny_take (i := 10) (v := ?_) rfl (by kernel_rfl) (by kernel_rfl) (by kernel_rfl) (fun _ _ _ h => h) (Or.inl ⟨by rfl, ?_⟩) ?_
    rotate_left
    · (intro w; go_simp; try with_reducible rfl)
    refine wpAny_take (i := 11) (v := ?_) rfl (by kernel_rfl) (by kernel_rfl) (by kernel_rfl) (fun _ _ _ h => h) (Or.inl ⟨by rfl, ?_⟩) ?_
    rotate_left
    · (intro w; go_simp; try with_reducible rfl)
    refine wpAny_done (by kernel_rfl) ?_ _
    simp [Act.put]
    have hw2 : (0 : Int) ≤ (W.length : Int) := by omega
    go_wp2
    go_ret2
    exact ⟨_, rfl, rfl, HK3.out⟩
  | some V =>
    obtain ⟨v3, rfl, ho3⟩ := hx3
    have hvl := HV.out V rfl
    obtain ⟨g, cap, cur, rfl, hg1, hg2, hg3, hg4, hg5, -⟩ := own8_blk ho3 (by intro e; have := congrArg List.length e; rw [List.length_append, HLl.out] at this; simp at this)
    have hnn : (L ++ V).length = W.length + 1 + V.length := by rw [List.length_append, HLl.out]
    rw [hnn] at ho3
    have HO3 := Lib.hid ho3
    clear ho3 HV hg1 hg2 hg3 hg4 hg5
    rw [hnn]
    clear hnn
    refine wpAny_take (i := 7) (v := ?_) rfl (by kernel_rfl) (by kernel_rfl) (by kernel_rfl) (fun _ _ _ h => h) (Or.inl ⟨by rfl, ?_⟩) ?_
    rotate_left
    · (intro w; go_simp; try with_reducible rfl)
    refine wpAny_take (i := 8) (v := ?_) rfl (by kernel_rfl) (by kernel_rfl) (by kernel_rfl) (fun _ _ _ h => h) (Or.inl ⟨by rfl, ?_⟩) ?_
    rotate_left
    · (intro w; go_simp; try with_reducible rfl)
    refine wpAny_take (i := 9) (v := ?_) rfl (by kernel_rfl) (by kernel_rfl) (by kernel_rfl) (fun _ _ _ h => h) (Or.inl ⟨by rfl, ?_⟩) ?_
    rotate_left
    · (intro w; go_simp; try with_reducible rfl)
    refine wpAny_take (i := 10) (v := ?_) rfl (by kernel_rfl) (by kernel_rfl) (by kernel_rfl) (fun _ _ _ h => h) (Or.inl ⟨by rfl, ?_⟩) ?_
    rotate_left
    · (intro w; go_simp; try with_reducible rfl)
    refine wpAny_take (i := 11) (v := ?_) rfl (by kernel_rfl) (by kernel_rfl) (by kernel_rfl) (fun _ _ _ h => h) (Or.inl ⟨by rfl, ?_⟩) ?_
    rotate_left
    · (intro w; go_simp; try with_reducible rfl)
    refine wpAny_done (by kernel_rfl) ?_ _
    simp [Act.put]
    have hsub : ((W.length : Int) + 1 + (V.length : Int) - ((W.length : Int) + 1)) = (V.length : Int) := by omega
    have HOZ : Hid (L ++ V = W ++ hdK 1 V.length 0 ++ V) := by unfold Hid; rw [HL.out]; rfl
    by_cases hs : V.length ≤ 255
    · have hdv : ((V.length : Int) / 256 != 0) = false := by
        have : (V.length : Int) / 256 = 0 := by omega
        rw [this]; rfl
      have HF : Hid (frmH 1 (some V) = some (byU V.length :: V)) := by unfold Hid frmH; simp [hs]
      have HS1 : Hid (FrL w0.heap.size w W V 1 g cap (.int .i64 ((0 : Nat) : Int)) w3) := ⟨0, by decide, rfl, by rw [← HOZ.out]; exact HO3.out, HK3.out⟩
      clear HO3 HK3 HOZ
      go_wp2
      go_loopw [44] (FrL w0.heap.size w W V 1 g cap) (fun x _ => 1 - (intOf x).toNat)
      case atStart => exact HS1.out
      case round =>
        obtain ⟨k, hk, rfl, hown, hkp⟩ := hrel
        have HO := Lib.hid hown
        have HKP := Lib.hid hkp
        clear hown hkp HS1
        by_cases hlt : k < 1
        · obtain rfl : k = 0 := by omega
          have hwl : (W ++ hdK 1 V.length 0 ++ V).length = W.length + 1 + V.length := by simp [hdK]; omega
          rw [← hwl] at HO
          obtain ⟨s1, s2, s3, s4⟩ := own8_set HO.out W.length (by rw [hwl]; omega) (byU V.length)
          have hset : (W ++ hdK 1 V.length 0 ++ V).set W.length (byU V.length) = W ++ hdK 1 V.length 1 ++ V := by simp [hdK]
          rw [hset, hwl] at s1
          have hb : ((byU V.length).toNat : Nat) = V.length := by unfold byU; simp; omega
          rw [hb] at s1 s2
          have HX1 := Lib.hid s1
          have HX2 := Lib.hid (HKP.out.trans (s2 (Nat.le_trans HW0.out.size HKP.out.size)))
          have hiz : (W.length : Int) < ((W.length + 1 + V.length : Nat) : Int) := by omega
          clear s1 s2 hset hb hwl
          go_wp2
          go_roundw
          case rel => exact ⟨1, by decide, rfl, HX1.out, HX2.out⟩
          case measure => decide
        · obtain rfl : k = 1 := by omega
          have HE : Hid (GotV w0.heap.size W (frmH 1 (some V)) (.tuple #[.slice (some ⟨g, 0, none⟩) (W.length + 1 + V.length) cap, .bool true]) wr) := by
            unfold Hid
            rw [HF.out]
            refine ⟨_, rfl, ?_⟩
            have := HO.out
            simpa [hdK] using this
          clear HO HF
          go_wp2
          go_ret2
          exact ⟨_, rfl, HE.out, HKP.out⟩
    · have hdv : ((V.length : Int) / 256 != 0) = true := by
        have : (V.length : Int) / 256 ≠ 0 := by omega
        simp [this]
      have HF : Hid (frmH 1 (some V) = none) := by unfold Hid frmH; simp [hs]
      clear HO3 HOZ
      go_wp2
      go_ret2
      exact ⟨_, rfl, by rw [HF.out]; rfl, HK3.out⟩

set_option maxHeartbeats 16000000 in
theorem framed_two {w0 : World} {A : Option Addr} {l : List Nd} {c a : Nat} {v : Vl} (hK : KidsC w0 A l c a v) (hlk : ∀ V, gthW (leastK (atN l a)) (wrS l (fun j => (kidN (atN l a) v.pick j).toNat) v.kids) = some V → V.length ≤ 2002 * cntVs v.kids) : FramedC w0 A l c a v 2 := by
  intro B cv W ow w hcv hkr hbd hw ho
  have HK : Hid (∀ (ow' : Value) (w' : World), Below w0.heap.size w0 w' → Own8 w' w0.heap.size ow' (nats (W ++ List.replicate 2 0)) → Calls Try.prog 36 #[.agg #[.slice A l.length c], ow', .agg (vlC v B cv), .int .i64 (a : Int)] w' (GotP w0.heap.size (W ++ List.replicate 2 0) w' (gthW (leastK (atN l a)) (wrS l (fun j => (kidN (atN l a) v.pick j).toNat) v.kids)))) :=
    fun ow' w' h1 h2 => hK B cv (W ++ List.replicate 2 0) ow' w' hcv hkr (by simp; omega) h1 h2
  have HV : Hid (∀ V, gthW (leastK (atN l a)) (wrS l (fun j => (kidN (atN l a) v.pick j).toNat) v.kids) = some V → W.length + V.length ≤ 536870912) := fun V hV => by have := hlk V hV; omega
  generalize gthW (leastK (atN l a)) (wrS l (fun j => (kidN (atN l a) v.pick j).toNat) v.kids) = r at *
  obtain ⟨L, hL⟩ : ∃ L, L = W ++ List.replicate 2 (0 : UInt8) := ⟨_, rfl⟩
  rw [← hL] at HK
  have HLP : Hid (W <+: L) := ⟨_, hL.symm⟩
  have hLl : L.length = W.length + 2 := by rw [hL]; simp
  have HL := Lib.hid hL
  clear hL
  have HW0 := Lib.hid hw
  have hbel := ((Below.refl w.heap.size w).alloc (Nat.le_refl _) (.cells #[.slice A l.length c] 55)).alloc (by simp) (.cells (vlC v B cv) 27)
  have HS0 : Hid (FrS w0.heap.size w W ow A l c v B cv w.heap.size (w.heap.size + 1) ((w.alloc (.cells #[.slice A l.length c] 55)).alloc (.cells (vlC v B cv) 27))) :=
    ⟨Nat.le_trans hw.size hbel.size, Kp.of hbel hw.size, ho.later hbel, (Blk.new _ _ _).alloc _, Blk.new' (by simp) _ _⟩
  obtain ⟨oA, oc, hov, hoc⟩ := own8_form ho
  have hWl : W.length ≤ 536870912 := by omega
  clear hK hlk hkr ho hw hbel hbd hoc
  subst hov
  obtain ⟨vk, vb, vt, vp, ks⟩ := v
  rw [vlC_five] at *
  simp only at *
  go_enter Try.func35, Try.ntmps35
  go_upto_region 2 with (fail)
  generalize (w.alloc (.cells #[.slice A l.length c] 55)).alloc (.cells #[.int .i64 vk, .int .u8 ((vb.toNat : Nat) : Int), .string (bs vt), .int .i64 vp, .slice B ks.len cv] 27) = w1 at *
  have HR : Hid (∀ w w' : World, Below w.heap.size w w' → FrR w0.heap.size L w w') := fun w w' h => FrR.of w w' h
  refine G.wp_region_stable_mid (R := (FrR w0.heap.size L)) HR.out 6 #[true, true, true, true, true, true, false, false, false, false, false, false] (S := (FrS w0.heap.size w W (.slice oA W.length oc) A l c ⟨vk, vb, vt, vp, ks⟩ B cv w.heap.size (w.heap.size + 1))) (hSt := fun _ _ h hr => h.grow HLP.out hr) (plan := [[(5, none)], [(1, none)], [(2, none)], [(22, some 1), (23, some 2)], [(8, none)], [(4, none)]]) rfl (by kernel_rfl) (by kernel_rfl) (by kernel_rfl) (by kernel_rfl) ?hS ?_
  rotate_left
  iterate 3 first
    | (refine G.chain_skip (by rfl) (by rfl) ?_)
    | (apply G.chain_want (by rfl)
       · intro act wx hS hr
         simp at hr
         obtain ⟨b0, b1, b2, b3, b4⟩ := vl_cells hS.bv
         have e0 := hS.box.cell 0
         simp at e0
         go_simp
         (try go_ints)
         first
           | exact G.Done.same HR.out
      )
  (refine G.chain_rel (VwZ w0.heap.size L) (VwZ.grow _ _) (by rfl) ?_ ?_
   · intro act wx hS hr
     simp at hr
     obtain ⟨b0, b1, b2, b3, b4⟩ := vl_cells hS.bv
     have e0 := hS.box.cell 0
     simp at e0
     obtain ⟨hr1, hr2⟩ := hr
     refine wp_append_zeros (.tmp 22) (.tmp 23) rfl w0.heap.size (.slice oA W.length oc) W (by simp [Act.eval, hr1]) hS.own 2 (by simp [Act.eval, hr2]) (by decide) (by decide) (by omega) hS.lo ?_
     intro v' w' q1 q2
     rw [← HL.out] at q1 q2
     exact G.Done.rel q2 ⟨Nat.le_trans hS.lo (q2.out hS.lo).1.size, q1⟩
     all_goals go_simp
  )
  iterate 2 first
    | (refine G.chain_skip (by rfl) (by rfl) ?_)
    | (apply G.chain_want (by rfl)
       · intro act wx hS hr
         simp at hr
         obtain ⟨b0, b1, b2, b3, b4⟩ := vl_cells hS.bv
         have e0 := hS.box.cell 0
         simp at e0
         go_simp
         (try go_ints)
         first
           | exact G.Done.same HR.out
      )
  show ∀ w', _ → _
  intro wz hz
  simp [Act.put]
  case hS => exact HS0.out
  intro y hy
  have HSZ := Lib.hid hz
  have HY := Lib.hid hy
  clear hz hy HS0
  obtain ⟨yA, yc, hyv, hyc⟩ := own8_form HY.out.2
  subst hyv
  clear hyc
  have HLl := Lib.hid hLl
  rw [hLl] at HY ⊢
  clear hLl
  refine wpAny_ready (rs := [6]) (by kernel_rfl) (by simp) ?_
  refine AllReady.cons rfl (fun K hK => ?_) AllReady.nil
  go_simp
  refine (HK.out _ _ (HW0.out.trans HSZ.out.kp.bel) HY.out.2).mono ?_; rintro e w3 ⟨x3, rfl, hx3, hk3⟩
  refine hK _ _ ?_; clear hK K
  have HK3 := Lib.hid (HSZ.out.kp.trans hk3)
  clear hk3 HK HSZ HY
  cases r with
  | none =>
    have hx3 : x3 = .tuple #[.slice none 0 0, .bool false] := hx3
    subst hx3
    clear HV
    refine wpAny_take (i := 7) (v := ?_) rfl (by kernel_rfl) (by kernel_rfl) (by kernel_rfl) (fun _ _ _ h => h) (Or.inl ⟨by rfl, ?_⟩) ?_
    rotate_left
    · (intro w; go_simp; try with_reducible rfl)
    refine wpAny_take (i := 8) (v := ?_) rfl (by kernel_rfl) (by kernel_rfl) (by kernel_rfl) (fun _ _ _ h => h) (Or.inl ⟨by rfl, ?_⟩) ?_
    rotate_left
    · (intro w; go_simp; try with_reducible rfl)
    refine wpAny_take (i := 9) (v := ?_) rfl (by kernel_rfl) (by kernel_rfl) (by kernel_rfl) (fun _ _ _ h => h) (Or.inl ⟨by rfl, ?_⟩) ?_
    rotate_left
    · (intro w; go_simp; try with_reducible rfl)
    refine wpAny_take (i := 10) (v := ?_) rfl (by kernel_rfl) (by kernel_rfl) (by kernel_rfl) (fun _ _ _ h => h) (Or.inl ⟨by rfl, ?_⟩) ?_
    rotate_left
    · (intro w; go_simp; try with_reducible rfl)
    refine wpAny_take (i := 11) (v := ?_) rfl (by kernel_rfl) (by kernel_rfl) (by kernel_rfl) (fun _ _ _ h => h) (Or.inl ⟨by rfl, ?_⟩) ?_
    rotate_left
    · (intro w; go_simp; try with_reducible rfl)
    refine wpAny_done (by kernel_rfl) ?_ _
    simp [Act.put]
    have hw2 : (0 : Int) ≤ (W.length : Int) := by omega
    go_wp2
    go_ret2
    exact ⟨_, rfl, rfl, HK3.out⟩
  | some V =>
    obtain ⟨v3, rfl, ho3⟩ := hx3
    have hvl := HV.out V rfl
    obtain ⟨g, cap, cur, rfl, hg1, hg2, hg3, hg4, hg5, -⟩ := own8_blk ho3 (by intro e; have := congrArg List.length e; rw [List.length_append, HLl.out] at this; simp at this)
    have hnn : (L ++ V).length = W.length + 2 + V.length := by rw [List.length_append, HLl.out]
    rw [hnn] at ho3
    have HO3 := Lib.hid ho3
    clear ho3 HV hg1 hg2 hg3 hg4 hg5
    rw [hnn]
    clear hnn
    refine wpAny_take (i := 7) (v := ?_) rfl (by kernel_rfl) (by kernel_rfl) (by kernel_rfl) (fun _ _ _ h => h) (Or.inl ⟨by rfl, ?_⟩) ?_
    rotate_left
    · (intro w; go_simp; try with_reducible rfl)
    refine wpAny_take (i := 8) (v := ?_) rfl (by kernel_rfl) (by kernel_rfl) (by kernel_rfl) (fun _ _ _ h => h) (Or.inl ⟨by rfl, ?_⟩) ?_
    rotate_left
    · (intro w; go_simp; try with_reducible rfl)
    refine wpAny_take (i := 9) (v := ?_) rfl (by kernel_rfl) (by kernel_rfl) (by kernel_rfl) (fun _ _ _ h => h) (Or.inl ⟨by rfl, ?_⟩) ?_
    rotate_left
    · (intro w; go_simp; try with_reducible rfl)
    refine wpAny_take (i := 10) (v := ?_) rfl (by kernel_rfl) (by kernel_rfl) (by kernel_rfl) (fun _ _ _ h => h) (Or.inl ⟨by rfl, ?_⟩) ?_
    rotate_left
    · (intro w; go_simp; try with_reducible rfl)
    refine wpAny_take (i := 11) (v := ?_) rfl (by kernel_rfl) (by kernel_rfl) (by kernel_rfl) (fun _ _ _ h => h) (Or.inl ⟨by rfl, ?_⟩) ?_
    rotate_left
    · (intro w; go_simp; try with_reducible rfl)
    refine wpAny_done (by kernel_rfl) ?_ _
    simp [Act.put]
    have hsub : ((W.length : Int) + 2 + (V.length : Int) - ((W.length : Int) + 2)) = (V.length : Int) := by omega
    have HOZ : Hid (L ++ V = W ++ hdK 2 V.length 0 ++ V) := by unfold Hid; rw [HL.out]; rfl
    by_cases hs : V.length ≤ 65535
    · have hdv : ((V.length : Int) / 65536 != 0) = false := by
        have : (V.length : Int) / 65536 = 0 := by omega
        rw [this]; rfl
      have HF : Hid (frmH 2 (some V) = some (byU (V.length / 256) :: byU (V.length % 256) :: V)) := by unfold Hid frmH; simp [hs]
      have HS1 : Hid (FrL w0.heap.size w W V 2 g cap (.int .i64 ((0 : Nat) : Int)) w3) := ⟨0, by decide, rfl, by rw [← HOZ.out]; exact HO3.out, HK3.out⟩
      clear HO3 HK3 HOZ
      go_wp2
      go_loopw [44] (FrL w0.heap.size w W V 2 g cap) (fun x _ => 2 - (intOf x).toNat)
      case atStart => exact HS1.out
      case round =>
        obtain ⟨k, hk, rfl, hown, hkp⟩ := hrel
        have HO := Lib.hid hown
        have HKP := Lib.hid hkp
        clear hown hkp HS1
        by_cases hlt : k < 2
        · by_cases hk0 : k = 0
          · subst hk0
            have hwl : (W ++ hdK 2 V.length 0 ++ V).length = W.length + 2 + V.length := by simp [hdK]; omega
            rw [← hwl] at HO
            obtain ⟨s1, s2, s3, s4⟩ := own8_set HO.out (W.length + 1) (by rw [hwl]; omega) (byU (V.length % 256))
            have hset : (W ++ hdK 2 V.length 0 ++ V).set (W.length + 1) (byU (V.length % 256)) = W ++ hdK 2 V.length 1 ++ V := by simp [hdK, List.set_append]
            rw [hset, hwl] at s1
            have hb : (((byU (V.length % 256)).toNat : Nat) : Int) = (V.length : Int) % 256 := by unfold byU; simp
            rw [hb] at s1 s2
            have HX1 := Lib.hid s1
            have HX2 := Lib.hid (HKP.out.trans (s2 (Nat.le_trans HW0.out.size HKP.out.size)))
            have hiz : (W.length : Int) + 1 < ((W.length + 2 + V.length : Nat) : Int) := by omega
            clear s1 s2 hset hb hwl hlt
            go_wp2
            go_roundw
            case rel => exact ⟨1, by decide, rfl, HX1.out, HX2.out⟩
            case measure => decide
          · obtain rfl : k = 1 := by omega
            have hwl : (W ++ hdK 2 V.length 1 ++ V).length = W.length + 2 + V.length := by simp [hdK]; omega
            rw [← hwl] at HO
            obtain ⟨s1, s2, s3, s4⟩ := own8_set HO.out W.length (by rw [hwl]; omega) (byU (V.length / 256))
            have hset : (W ++ hdK 2 V.length 1 ++ V).set W.length (byU (V.length / 256)) = W ++ hdK 2 V.length 2 ++ V := by simp [hdK]
            rw [hset, hwl] at s1
            have hb : (((byU (V.length / 256)).toNat : Nat) : Int) = (V.length : Int) / 256 := by unfold byU; simp; omega
            rw [hb] at s1 s2
            have HX1 := Lib.hid s1
            have HX2 := Lib.hid (HKP.out.trans (s2 (Nat.le_trans HW0.out.size HKP.out.size)))
            have hiz : (W.length : Int) < ((W.length + 2 + V.length : Nat) : Int) := by omega
            have hb0 : 0 ≤ (V.length : Int) / 256 := by omega
            have hb1 : (V.length : Int) / 256 ≤ 255 := by omega
            clear s1 s2 hset hb hwl hlt hk0
            go_wp2
            go_roundw
            case rel => exact ⟨2, by decide, rfl, HX1.out, HX2.out⟩
            case measure => decide
        · obtain rfl : k = 2 := by omega
          have HE : Hid (GotV w0.heap.size W (frmH 2 (some V)) (.tuple #[.slice (some ⟨g, 0, none⟩) (W.length + 2 + V.length) cap, .bool true]) wr) := by
            unfold Hid
            rw [HF.out]
            refine ⟨_, rfl, ?_⟩
            have := HO.out
            simpa [hdK] using this
          clear HO HF
          go_wp2
          go_ret2
          exact ⟨_, rfl, HE.out, HKP.out⟩
    · have hdv : ((V.length : Int) / 65536 != 0) = true := by
        have : (V.length : Int) / 65536 ≠ 0 := by omega
        simp [this]
      have HF : Hid (frmH 2 (some V) = none) := by unfold Hid frmH; simp [hs]
      clear HO3 HOZ
      go_wp2
      go_ret2
      exact ⟨_, rfl, by rw [HF.out]; rfl, HK3.out⟩

end Go.Proofs.Ytgdlbahfmddkaaa
